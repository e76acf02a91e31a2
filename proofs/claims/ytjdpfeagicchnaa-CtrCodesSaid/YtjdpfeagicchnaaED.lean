/-
  THE WALKS of ofBlock, rotateRows.
-/
import Derived.Test.YtjdpfeagicchnaaEC
namespace Go.Proofs.Ytjdpfeagicchnaa
open Go.RowKit Aes

def Z16 : List Value := List.replicate 16 (.int .u8 0)
theorem Z16_eq : Z16 = (List.replicate 16 (0 : UInt8)).map V8 := rfl
theorem zero16 (w : World) : (zeroValue 22).run Try.prog w = .ok (.agg Z16.toArray) w := by kernel_rfl
theorem info16 : (Try.prog.info? 22).map (·.size) = some 16 := by kernel_rfl

/-- What the walk's last lines of a function that returns 16 bytes need. -/
theorem full16 {wr : World} {g : Nat} {t : TypeId} {new old : List UInt8} (hn : new.length = 16) (ho : old.length = 16) (h : Row wr g t ((upd new old 16).map V8)) :
    ∃ ts : List Value, Hid (Vec 16 new ts) ∧ Hid (Row wr g t ts) ∧ Hid (ts.toArray.size = 16) ∧ Hid (ts.toArray.all (·.oneCell') = true) := by
  have hv := Vec.mk 16 new hn
  refine ⟨_, hv, ?_, hv.size, hv.one⟩
  rw [upd_all hn ho] at h
  exact h

set_option maxRecDepth 100000 in
set_option maxHeartbeats 400000 in
theorem ofBlock_any (S : Nat) (b : List UInt8) (rs : List Value) (hv : Vec 16 b rs) (w : World) (hl : S < w.heap.size) (hS : Sees w S 0 (SBL.map V8)) :
    Calls Try.prog 24 #[.pointer (some ⟨S, 0, none⟩), .agg rs.toArray] w fun e w' => ∃ ts : List Value, Hid (Vec 16 (subB b) ts) ∧ e = .returned (.agg ts.toArray) ∧ Below w.heap.size w w' := by
  have HV := Lib.hid hv
  have HS := Lib.hid hS
  have Hsz : Hid (rs.toArray.size = 16) := hv.size
  have HR0 : Hid (Row ((w.alloc (.cells rs.toArray 22)).alloc (.cells Z16.toArray 22)) w.heap.size 22 rs) := (Row.new w 22 rs).alloc _
  have hz := zero16
  have Hlen : Hid (b.length = (subB b).length) := (subB_length b).symm
  have Hlen2 : Hid ((subB b).length = 16) := (subB_length b).trans hv.2
  clear hv hS
  go_enter Try.func24, Try.ntmps24
  go_wp2_with (refine wpList_load_row rfl 22 (.tmp 3) rfl w.heap.size rfl 22 rs.toArray (0, 0) _ HR0.out Try.underlying22 rfl (by rw [Hsz.out]; kernel_rfl) ?_)
  clear hz
  go_loopw [5, 6, 8] (fun _ _ i wr => ∃ k : Nat, k ≤ 16 ∧ i = .int .i64 k ∧ Row wr w.heap.size 22 ((upd (subB b) b k).map V8) ∧ Row wr (w.heap.size + 1) 22 Z16 ∧ Below w.heap.size w wr) (fun _ _ i _ => 16 - (intOf i).toNat)
  case atStart => exact ⟨0, by omega, rfl, by rw [upd_zero]; exact HV.out.row HR0.out, Row.newAt _ Z16 (by simp), ((Below.refl _ _).alloc (Nat.le_refl _) _).alloc (by simp) _⟩
  case round =>
    obtain ⟨k, hk, rfl, hrow, hzr, hbel⟩ := hrel
    by_cases hlt : k < 16
    · have hix := run_index8 22 16 Try.underlying22 rs k hlt _ (HV.out.at_ k hlt)
      have HN : Hid ((subB b).getD k 0 = sb (b.getD k 0)) := subB_at b k (by rw [HV.out.2]; exact hlt)
      have hc : wr.cell? ⟨w.heap.size, k, none⟩ = some (.int .u8 (b.getD k 0).toNat) := upd_cell hrow Hlen.out k (Nat.le_refl _) (by rw [Hlen2.out]; exact hlt)
      generalize b.getD k 0 = x at *
      have hx := lt8 x
      have hs : wr.cell? ⟨S, x.toNat, none⟩ = some (.int .u8 (sb x).toNat) := by
        have := at8 (HS.out.below hbel hl) x.toNat (by rw [SBL_length]; exact hx)
        rwa [Nat.zero_add, SBL_at] at this
      have hf : wr.frozen? ⟨w.heap.size, k, none⟩ = false := hrow.free k
      have Hrow := Lib.hid hrow
      clear hrow
      go_wp2
      go_roundw
      case rel =>
        refine ⟨k + 1, by omega, by go_num, upd_put Hrow.out Hlen.out (by rw [Hlen2.out]; exact hlt) (by rw [HN.out]), hzr.apart (by show w.heap.size + 1 ≠ w.heap.size; omega) _, hbel.setCell (by show w.heap.size ≤ w.heap.size; omega) _⟩
      case measure => simp [intOf]; omega
    · obtain rfl : k = 16 := by omega
      rw [show ((16 : Nat) : Int) = 16 from rfl]
      obtain ⟨ts, Hts, HRt, Htz, Hone⟩ := full16 Hlen2.out (Hlen.out.trans Hlen2.out) hrow
      clear hrow
      go_wp2_with (first
        | (refine wpList_load_row rfl 22 (.tmp 3) rfl w.heap.size rfl 22 ts.toArray (0, 0) _ HRt.out Try.underlying22 rfl (by rw [Htz.out]; kernel_rfl) ?_)
        | (refine wpList_store_row rfl 22 (.tmp 4) (.tmp 20) rfl (w.heap.size + 1) ts.toArray rfl rfl 22 _ hzr (by rw [Htz.out]; kernel_rfl) (by rw [Htz.out]; rfl) Hone.out ?_))
      have hlast := hzr.whole ts
      have hinfo : (Try.prog.info? 22).map (·.size) = some ts.toArray.size := by rw [Htz.out]; kernel_rfl
      refine bodyPost_ret (v := .agg ts.toArray) (results_cell_row rfl _ _ (w.heap.size + 1) 22 ts.toArray (0, 0) _ rfl hlast Try.underlying22 rfl hinfo) rfl ?_
      exact ⟨ts, Hts, rfl, below_setRow' hbel (by omega) _⟩
end Go.Proofs.Ytjdpfeagicchnaa
