/-
  THE WALKS of ofWord, rotateWord, addWords.
-/
import Derived.Test.YtjdpfeagicchnaaED
namespace Go.Proofs.Ytjdpfeagicchnaa
open Go.RowKit Aes

def Z4 : List Value := List.replicate 4 (.int .u8 0)
theorem Z4_eq : Z4 = (List.replicate 4 (0 : UInt8)).map V8 := rfl
theorem zero4 (w : World) : (zeroValue 55).run Try.prog w = .ok (.agg Z4.toArray) w := by kernel_rfl

theorem full4 {wr : World} {g : Nat} {t : TypeId} {new old : List UInt8} (hn : new.length = 4) (ho : old.length = 4) (h : Row wr g t ((upd new old 4).map V8)) :
    ∃ ts : List Value, Hid (Vec 4 new ts) ∧ Hid (Row wr g t ts) ∧ Hid (ts.toArray.size = 4) ∧ Hid (ts.toArray.all (·.oneCell') = true) := by
  have hv := Vec.mk 4 new hn
  refine ⟨_, hv, ?_, hv.size, hv.one⟩
  rw [upd_all hn ho] at h
  exact h

set_option maxRecDepth 100000 in
set_option maxHeartbeats 400000 in
theorem ofWord_any (S : Nat) (b : List UInt8) (rs : List Value) (hv : Vec 4 b rs) (w : World) (hl : S < w.heap.size) (hS : Sees w S 0 (SBL.map V8)) :
    Calls Try.prog 31 #[.pointer (some ⟨S, 0, none⟩), .agg rs.toArray] w fun e w' => ∃ ts : List Value, Hid (Vec 4 (subB b) ts) ∧ e = .returned (.agg ts.toArray) ∧ Below w.heap.size w w' := by
  have HV := Lib.hid hv
  have HS := Lib.hid hS
  have Hsz : Hid (rs.toArray.size = 4) := hv.size
  have HR0 : Hid (Row ((w.alloc (.cells rs.toArray 55)).alloc (.cells Z4.toArray 55)) w.heap.size 55 rs) := (Row.new w 55 rs).alloc _
  have hz := zero4
  have Hlen : Hid (b.length = (subB b).length) := (subB_length b).symm
  have Hlen2 : Hid ((subB b).length = 4) := (subB_length b).trans hv.2
  clear hv hS
  go_enter Try.func31, Try.ntmps31
  go_wp2_with (refine wpList_load_row rfl 55 (.tmp 3) rfl w.heap.size rfl 55 rs.toArray (0, 0) _ HR0.out Try.underlying55 rfl (by rw [Hsz.out]; kernel_rfl) ?_)
  clear hz
  go_loopw [5, 6, 8] (fun _ _ i wr => ∃ k : Nat, k ≤ 4 ∧ i = .int .i64 k ∧ Row wr w.heap.size 55 ((upd (subB b) b k).map V8) ∧ Row wr (w.heap.size + 1) 55 Z4 ∧ Below w.heap.size w wr) (fun _ _ i _ => 4 - (intOf i).toNat)
  case atStart => exact ⟨0, by omega, rfl, by rw [upd_zero]; exact HV.out.row HR0.out, Row.newAt _ Z4 (by simp), ((Below.refl _ _).alloc (Nat.le_refl _) _).alloc (by simp) _⟩
  case round =>
    obtain ⟨k, hk, rfl, hrow, hzr, hbel⟩ := hrel
    by_cases hlt : k < 4
    · have hix := run_index8 55 4 Try.underlying55 rs k hlt _ (HV.out.at_ k hlt)
      have HN : Hid ((subB b).getD k 0 = sb (b.getD k 0)) := subB_at b k (by rw [HV.out.2]; exact hlt)
      have hc : wr.cell? ⟨w.heap.size, k, none⟩ = some (.int .u8 (b.getD k 0).toNat) := upd_cell hrow Hlen.out k (Nat.le_refl _) (by rw [Hlen2.out]; exact hlt)
      generalize b.getD k 0 = x at *
      have hx := lt8 x
      have hs : wr.cell? ⟨S, x.toNat, none⟩ = some (.int .u8 (sb x).toNat) := by
        have := at8 (HS.out.below hbel hl) x.toNat (by rw [SBL_length]; exact hx)
        rwa [Nat.zero_add, SBL_at] at this
      have hf : wr.frozen? ⟨w.heap.size, k, none⟩ = false := hrow.free k
      have Hrow := Lib.hid hrow
      clear hrow
      go_wp2
      go_roundw
      case rel =>
        refine ⟨k + 1, by omega, by go_num, upd_put Hrow.out Hlen.out (by rw [Hlen2.out]; exact hlt) (by rw [HN.out]), hzr.apart (by show w.heap.size + 1 ≠ w.heap.size; omega) _, hbel.setCell (by show w.heap.size ≤ w.heap.size; omega) _⟩
      case measure => simp [intOf]; omega
    · obtain rfl : k = 4 := by omega
      rw [show ((4 : Nat) : Int) = 4 from rfl]
      obtain ⟨ts, Hts, HRt, Htz, Hone⟩ := full4 Hlen2.out (Hlen.out.trans Hlen2.out) hrow
      clear hrow
      go_wp2_with (first
        | (refine wpList_load_row rfl 55 (.tmp 3) rfl w.heap.size rfl 55 ts.toArray (0, 0) _ HRt.out Try.underlying55 rfl (by rw [Htz.out]; kernel_rfl) ?_)
        | (refine wpList_store_row rfl 55 (.tmp 4) (.tmp 20) rfl (w.heap.size + 1) ts.toArray rfl rfl 55 _ hzr (by rw [Htz.out]; kernel_rfl) (by rw [Htz.out]; rfl) Hone.out ?_))
      have hlast := hzr.whole ts
      have hinfo : (Try.prog.info? 55).map (·.size) = some ts.toArray.size := by rw [Htz.out]; kernel_rfl
      refine bodyPost_ret (v := .agg ts.toArray) (results_cell_row rfl _ _ (w.heap.size + 1) 55 ts.toArray (0, 0) _ rfl hlast Try.underlying55 rfl hinfo) rfl ?_
      exact ⟨ts, Hts, rfl, below_setRow' hbel (by omega) _⟩

set_option maxRecDepth 100000 in
set_option maxHeartbeats 400000 in
theorem addWords_any (v u : List UInt8) (rs us : List Value) (hv : Vec 4 v rs) (hu : Vec 4 u us) (w : World) :
    Calls Try.prog 34 #[.agg rs.toArray, .agg us.toArray] w fun e w' => ∃ ts : List Value, Hid (Vec 4 (xorL v u) ts) ∧ e = .returned (.agg ts.toArray) ∧ Below w.heap.size w w' := by
  have HV := Lib.hid hv
  have HU := Lib.hid hu
  have Hsz : Hid (us.toArray.size = 4) := hu.size
  have HR1 : Hid (Row (((w.alloc (.cells rs.toArray 55)).alloc (.cells us.toArray 55)).alloc (.cells Z4.toArray 55)) (w.heap.size + 1) 55 us) := (Row.newAt 55 us (by simp)).alloc _
  have hz := zero4
  have Hlen2 : Hid ((xorL v u).length = 4) := xorL_length _ _ 4 hv.2 hu.2
  have Hlen : Hid (v.length = (xorL v u).length) := hv.2.trans Hlen2.out.symm
  clear hv hu
  go_enter Try.func34, Try.ntmps34
  go_wp2_with (refine wpList_load_row rfl 55 (.tmp 3) rfl (w.heap.size + 1) rfl 55 us.toArray (0, 0) _ HR1.out Try.underlying55 rfl (by rw [Hsz.out]; kernel_rfl) ?_)
  clear hz
  go_loopw [5, 6, 8] (fun _ _ i wr => ∃ k : Nat, k ≤ 4 ∧ i = .int .i64 k ∧ Row wr w.heap.size 55 ((upd (xorL v u) v k).map V8) ∧ Row wr (w.heap.size + 1 + 1) 55 Z4 ∧ Below w.heap.size w wr) (fun _ _ i _ => 4 - (intOf i).toNat)
  case atStart => exact ⟨0, by omega, rfl, by rw [upd_zero]; exact HV.out.row (((Row.new w 55 rs).alloc _).alloc _), Row.newAt _ Z4 (by simp), (((Below.refl _ _).alloc (Nat.le_refl _) _).alloc (by simp) _).alloc (by simp; omega) _⟩
  case round =>
    obtain ⟨k, hk, rfl, hrow, hzr, hbel⟩ := hrel
    by_cases hlt : k < 4
    · have hix := run_index8 55 4 Try.underlying55 us k hlt _ (HU.out.at_ k hlt)
      have HN : Hid ((xorL v u).getD k 0 = v.getD k 0 ^^^ u.getD k 0) := xorL_at v u k (by rw [HV.out.2]; exact hlt) (by rw [HU.out.2]; exact hlt)
      have hc : wr.cell? ⟨w.heap.size, k, none⟩ = some (.int .u8 (v.getD k 0).toNat) := upd_cell hrow Hlen.out k (Nat.le_refl _) (by rw [Hlen2.out]; exact hlt)
      have HX := Lib.hid (xor8 (v.getD k 0) (u.getD k 0))
      generalize v.getD k 0 = x at *
      generalize u.getD k 0 = y at *
      have hf : wr.frozen? ⟨w.heap.size, k, none⟩ = false := hrow.free k
      have Hrow := Lib.hid hrow
      clear hrow
      go_wp2
      go_roundw
      case rel =>
        refine ⟨k + 1, by omega, by go_num, upd_put Hrow.out Hlen.out (by rw [Hlen2.out]; exact hlt) (by rw [HN.out]; exact HX.out), hzr.apart (by show w.heap.size + 1 + 1 ≠ w.heap.size; omega) _, hbel.setCell (by show w.heap.size ≤ w.heap.size; omega) _⟩
      case measure => simp [intOf]; omega
    · obtain rfl : k = 4 := by omega
      rw [show ((4 : Nat) : Int) = 4 from rfl]
      obtain ⟨ts, Hts, HRt, Htz, Hone⟩ := full4 Hlen2.out (Hlen.out.trans Hlen2.out) hrow
      clear hrow
      go_wp2_with (first
        | (refine wpList_load_row rfl 55 (.tmp 2) rfl w.heap.size rfl 55 ts.toArray (0, 0) _ HRt.out Try.underlying55 rfl (by rw [Htz.out]; kernel_rfl) ?_)
        | (refine wpList_store_row rfl 55 (.tmp 4) (.tmp 19) rfl (w.heap.size + 1 + 1) ts.toArray rfl rfl 55 _ hzr (by rw [Htz.out]; kernel_rfl) (by rw [Htz.out]; rfl) Hone.out ?_))
      have hlast := hzr.whole ts
      have hinfo : (Try.prog.info? 55).map (·.size) = some ts.toArray.size := by rw [Htz.out]; kernel_rfl
      refine bodyPost_ret (v := .agg ts.toArray) (results_cell_row rfl _ _ (w.heap.size + 1 + 1) 55 ts.toArray (0, 0) _ rfl hlast Try.underlying55 rfl hinfo) rfl ?_
      exact ⟨ts, Hts, rfl, below_setRow' hbel (by omega) _⟩

set_option maxRecDepth 100000 in
set_option maxHeartbeats 400000 in
theorem rotateWord_any (a b c d : UInt8) (rs : List Value) (hv : Vec 4 [a, b, c, d] rs) (w : World) :
    Calls Try.prog 32 #[.agg rs.toArray] w fun e w' => ∃ ts : List Value, Hid (Vec 4 [b, c, d, a] ts) ∧ e = .returned (.agg ts.toArray) ∧ Below w.heap.size w w' := by
  have HV := Lib.hid hv
  have hz := zero4
  have hrow : Row ((w.alloc (.cells rs.toArray 55)).alloc (.cells Z4.toArray 55)) w.heap.size 55 ([a, b, c, d].map V8) := hv.row ((Row.new w 55 rs).alloc _)
  have HZ : Hid (Row ((w.alloc (.cells rs.toArray 55)).alloc (.cells Z4.toArray 55)) (w.heap.size + 1) 55 Z4) := Row.newAt 55 Z4 (by simp)
  have HB : Hid (Below w.heap.size w ((w.alloc (.cells rs.toArray 55)).alloc (.cells Z4.toArray 55))) := ((Below.refl _ _).alloc (Nat.le_refl _) _).alloc (by simp) _
  have c0 := row8 hrow 0 (by simp)
  have c1 := row8 hrow 1 (by simp)
  have c2 := row8 hrow 2 (by simp)
  have c3 := row8 hrow 3 (by simp)
  simp only [List.getD_cons_zero, List.getD_cons_succ] at c0 c1 c2 c3
  clear hrow hv
  obtain ⟨ts, hts⟩ : ∃ ts : List Value, ts = [b, c, d, a].map V8 := ⟨_, rfl⟩
  have Hts : Hid (Vec 4 [b, c, d, a] ts) := ⟨hts, rfl⟩
  have Htz : Hid (ts.toArray.size = 4) := Hts.out.size
  have Hone : Hid (ts.toArray.all (·.oneCell') = true) := Hts.out.one
  have HTS := Lib.hid hts
  clear hts
  go_enter Try.func32, Try.ntmps32
  go_wp2_with (refine wpList_store_row rfl 55 (.tmp 2) (.tmp 11) rfl (w.heap.size + 1) ts.toArray rfl (by rw [HTS.out]; rfl) 55 _ HZ.out (by rw [Htz.out]; kernel_rfl) (by rw [Htz.out]; rfl) Hone.out ?_)
  have hlast := HZ.out.whole ts
  have hinfo : (Try.prog.info? 55).map (·.size) = some ts.toArray.size := by rw [Htz.out]; kernel_rfl
  refine bodyPost_ret (v := .agg ts.toArray) (results_cell_row rfl _ _ (w.heap.size + 1) 55 ts.toArray (0, 0) _ rfl hlast Try.underlying55 rfl hinfo) rfl ?_
  exact ⟨ts, Hts, rfl, below_setRow' HB.out (by omega) _⟩
end Go.Proofs.Ytjdpfeagicchnaa
