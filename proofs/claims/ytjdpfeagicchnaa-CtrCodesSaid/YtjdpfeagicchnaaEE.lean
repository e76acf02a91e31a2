/-
  THE WALKS of rotateRows and addKey.
-/
import Derived.Test.YtjdpfeagicchnaaED
import Derived.StillTailTactics
namespace Go.Proofs.Ytjdpfeagicchnaa
open Go.RowKit Aes

theorem shAt_lt (k : Nat) : shAt k < 16 := by unfold shAt; omega

set_option maxRecDepth 100000 in
set_option maxHeartbeats 400000 in
theorem rotateRows_any (b : List UInt8) (rs : List Value) (hv : Vec 16 b rs) (w : World) :
    Calls Try.prog 25 #[.agg rs.toArray] w fun e w' => ∃ ts : List Value, Hid (Vec 16 (shR b) ts) ∧ e = .returned (.agg ts.toArray) ∧ Below w.heap.size w w' := by
  have HV := Lib.hid hv
  have hz := zero16
  have Hlen : Hid ((List.replicate 16 (0 : UInt8)).length = (shR b).length) := by show _ = _; rw [shR_length, List.length_replicate]
  have Hlen2 : Hid ((shR b).length = 16) := shR_length b
  clear hv
  go_enter Try.func25, Try.ntmps25
  go_wp2
  clear hz
  go_loopw [4, 5, 6, 7] (fun _ _ _ i wr => ∃ k : Nat, k ≤ 16 ∧ i = .int .i64 k ∧ Row wr w.heap.size 22 rs ∧ Row wr (w.heap.size + 1) 22 Z16 ∧ Row wr (w.heap.size + 1 + 1) 22 ((upd (shR b) (List.replicate 16 0) k).map V8) ∧ Below w.heap.size w wr) (fun _ _ _ i _ => 16 - (intOf i).toNat)
  case atStart =>
    refine ⟨0, by omega, rfl, ((Row.new w 22 rs).alloc _).alloc _, (Row.newAt _ Z16 (by simp)).alloc _, ?_, (((Below.refl _ _).alloc (Nat.le_refl _) _).alloc (by simp) _).alloc (by simp; omega) _⟩
    rw [upd_zero, ← Z16_eq]
    exact Row.newAt _ Z16 (by simp)
  case round =>
    obtain ⟨k, hk, rfl, hr0, hzr, hrow, hbel⟩ := hrel
    by_cases hlt : k < 16
    · have HN : Hid ((shR b).getD k 0 = b.getD (shAt k) 0) := shR_at b k hlt
      have hc : wr.cell? ⟨w.heap.size, shAt k, none⟩ = some (.int .u8 (b.getD (shAt k) 0).toNat) := row8 (HV.out.row hr0) _ (by rw [HV.out.2]; exact shAt_lt k)
      have hc2 : wr.cell? ⟨w.heap.size + 1 + 1, k, none⟩ = some (.int .u8 ((List.replicate 16 (0 : UInt8)).getD k 0).toNat) := upd_cell hrow Hlen.out k (Nat.le_refl _) (by rw [Hlen2.out]; exact hlt)
      have hf : wr.frozen? ⟨w.heap.size + 1 + 1, k, none⟩ = false := hrow.free k
      generalize b.getD (shAt k) 0 = x at *
      generalize (List.replicate 16 (0 : UInt8)).getD k 0 = y at *
      unfold shAt at hc
      have Hrow := Lib.hid hrow
      clear hrow
      go_wp2
      go_roundw
      case rel =>
        refine ⟨k + 1, by omega, by go_num, hr0.apart (by show w.heap.size ≠ w.heap.size + 1 + 1; omega) _, hzr.apart (by show w.heap.size + 1 ≠ w.heap.size + 1 + 1; omega) _, upd_put Hrow.out Hlen.out (by rw [Hlen2.out]; exact hlt) (by rw [HN.out]), hbel.setCell (by show w.heap.size ≤ w.heap.size + 1 + 1; omega) _⟩
      case measure => simp [intOf]; omega
    · obtain rfl : k = 16 := by omega
      rw [show ((16 : Nat) : Int) = 16 from rfl]
      obtain ⟨ts, Hts, HRt, Htz, Hone⟩ := full16 Hlen2.out (List.length_replicate) hrow
      clear hrow
      go_wp2_with (first
        | (refine wpList_load_row rfl 22 (.tmp 3) rfl (w.heap.size + 1 + 1) rfl 22 ts.toArray (0, 0) _ HRt.out Try.underlying22 rfl (by rw [Htz.out]; kernel_rfl) ?_)
        | (refine wpList_store_row rfl 22 (.tmp 2) (.tmp 26) rfl (w.heap.size + 1) ts.toArray rfl rfl 22 _ hzr (by rw [Htz.out]; kernel_rfl) (by rw [Htz.out]; rfl) Hone.out ?_))
      have hlast := hzr.whole ts
      have hinfo : (Try.prog.info? 22).map (·.size) = some ts.toArray.size := by rw [Htz.out]; kernel_rfl
      refine bodyPost_ret (v := .agg ts.toArray) (results_cell_row rfl _ _ (w.heap.size + 1) 22 ts.toArray (0, 0) _ rfl hlast Try.underlying22 rfl hinfo) rfl ?_
      exact ⟨ts, Hts, rfl, below_setRow' hbel (by omega) _⟩

theorem key_at (r k : Nat) (hr : r ≤ 10) (hk : k < 16) : ∃ a : Nat, IntKind.i64.wrap ((r : Int) * 4) = (a : Int) ∧ ∃ c : Nat, IntKind.i64.wrap ((k : Int) / 4) = (c : Int) ∧ ∃ q : Nat, IntKind.i64.wrap ((a : Int) + (c : Int)) = (q : Int) ∧ ∃ m : Nat, (k : Int).tmod 4 = (m : Int) ∧ q < 44 ∧ m < 4 ∧ 16 * r + k = q * 4 + m := by
  refine ⟨r * 4, by rw [IntWalk.i64_in _ (by omega)]; omega, k / 4, by rw [IntWalk.i64_in _ (by omega)]; omega, r * 4 + k / 4, by rw [IntWalk.i64_in _ (by omega)]; omega, k % 4, by rw [Int.tmod_eq_emod_of_nonneg (by omega)]; omega, by omega, by omega, by omega⟩

set_option maxRecDepth 100000 in
set_option maxHeartbeats 400000 in
theorem addKey_any (K r : Nat) (hr : r ≤ 10) (ks b : List UInt8) (rs : List Value) (hv : Vec 16 b rs) (w : World) (hl : K < w.heap.size) (hks : ks.length = 176) (hK : Sees w K 0 (ks.map V8)) :
    Calls Try.prog 23 #[.agg rs.toArray, .pointer (some ⟨K, 0, none⟩), .int .i64 r] w fun e w' => ∃ ts : List Value, Hid (Vec 16 (xorL b ((ks.drop (16 * r)).take 16)) ts) ∧ e = .returned (.agg ts.toArray) ∧ Below w.heap.size w w' := by
  have HV := Lib.hid hv
  have HK := Lib.hid hK
  have Hks := Lib.hid hks
  have hz := zero16
  have Hk16 : Hid (((ks.drop (16 * r)).take 16).length = 16) := by show _ = _; rw [List.length_take, List.length_drop, hks]; omega
  have Hlen2 : Hid ((xorL b ((ks.drop (16 * r)).take 16)).length = 16) := xorL_length _ _ 16 hv.2 Hk16.out
  have Hlen : Hid (b.length = (xorL b ((ks.drop (16 * r)).take 16)).length) := hv.2.trans Hlen2.out.symm
  clear hv hK hks
  go_enter Try.func23, Try.ntmps23
  go_wp2
  clear hz
  go_loopw [7, 8] (fun _ i wr => ∃ k : Nat, k ≤ 16 ∧ i = .int .i64 k ∧ Row wr w.heap.size 22 ((upd (xorL b ((ks.drop (16 * r)).take 16)) b k).map V8) ∧ Row wr (w.heap.size + 1) 22 Z16 ∧ Below w.heap.size w wr) (fun _ i _ => 16 - (intOf i).toNat)
  case atStart => exact ⟨0, by omega, rfl, by rw [upd_zero]; exact HV.out.row ((Row.new w 22 rs).alloc _), Row.newAt _ Z16 (by simp), ((Below.refl _ _).alloc (Nat.le_refl _) _).alloc (by simp) _⟩
  case round =>
    obtain ⟨k, hk, rfl, hrow, hzr, hbel⟩ := hrel
    by_cases hlt : k < 16
    · have HN : Hid ((xorL b ((ks.drop (16 * r)).take 16)).getD k 0 = b.getD k 0 ^^^ ks.getD (16 * r + k) 0) := by
        show _ = _
        rw [xorL_at _ _ k (by rw [HV.out.2]; exact hlt) (by rw [Hk16.out]; exact hlt)]
        congr 1
        rw [List.getD_eq_getElem?_getD, List.getElem?_take, if_pos hlt, List.getElem?_drop, List.getD_eq_getElem?_getD]
      have hc : wr.cell? ⟨w.heap.size, k, none⟩ = some (.int .u8 (b.getD k 0).toNat) := upd_cell hrow Hlen.out k (Nat.le_refl _) (by rw [Hlen2.out]; exact hlt)
      obtain ⟨a, ea, c, ec, q, eq, m, em, hq, hm, hqm⟩ := key_at r k hr hlt
      have hc2 : wr.cell? ⟨K, q * 4 + m, none⟩ = some (.int .u8 (ks.getD (16 * r + k) 0).toNat) := by
        have := at8 (HK.out.below hbel hl) (16 * r + k) (by rw [Hks.out]; omega)
        rw [Nat.zero_add] at this
        rw [← hqm]
        exact this
      clear hqm
      have hf : wr.frozen? ⟨w.heap.size, k, none⟩ = false := hrow.free k
      have HX := Lib.hid (xor8 (b.getD k 0) (ks.getD (16 * r + k) 0))
      generalize b.getD k 0 = x at *
      generalize ks.getD (16 * r + k) 0 = y at *
      have Hrow := Lib.hid hrow
      clear hrow
      go_wp2
      have hq' : (q : Int) < 44 := by omega
      have hm' : (m : Int) < 4 := by omega
      refine wp_region_still_tail 17 (by kernel_rfl) (by kernel_rfl) ?_
      simp only [List.take_succ_cons, List.take_zero, List.drop_succ_cons, List.drop_zero]
      repeat still_step
      refine wpStill_nil ?_
      clear ea ec eq em hq' hm' hq hm
      go_wp2
      go_roundw
      case rel =>
        refine ⟨k + 1, by omega, by go_num, upd_put (Hrow.out.drew) Hlen.out (by rw [Hlen2.out]; exact hlt) (by rw [HN.out]; exact HX.out), hzr.drew.apart (by show w.heap.size + 1 ≠ w.heap.size; omega) _, (below_drewN hbel 1).setCell (by show w.heap.size ≤ w.heap.size; omega) _⟩
      case measure => simp [intOf]; omega
    · obtain rfl : k = 16 := by omega
      rw [show ((16 : Nat) : Int) = 16 from rfl]
      obtain ⟨ts, Hts, HRt, Htz, Hone⟩ := full16 Hlen2.out (Hlen.out.trans Hlen2.out) hrow
      clear hrow
      go_wp2_with (first
        | (refine wpList_load_row rfl 22 (.tmp 3) rfl w.heap.size rfl 22 ts.toArray (0, 0) _ HRt.out Try.underlying22 rfl (by rw [Htz.out]; kernel_rfl) ?_)
        | (refine wpList_store_row rfl 22 (.tmp 6) (.tmp 29) rfl (w.heap.size + 1) ts.toArray rfl rfl 22 _ hzr (by rw [Htz.out]; kernel_rfl) (by rw [Htz.out]; rfl) Hone.out ?_))
      have hlast := hzr.whole ts
      have hinfo : (Try.prog.info? 22).map (·.size) = some ts.toArray.size := by rw [Htz.out]; kernel_rfl
      refine bodyPost_ret (v := .agg ts.toArray) (results_cell_row rfl _ _ (w.heap.size + 1) 22 ts.toArray (0, 0) _ rfl hlast Try.underlying22 rfl hinfo) rfl ?_
      exact ⟨ts, Hts, rfl, below_setRow' hbel (by omega) _⟩
end Go.Proofs.Ytjdpfeagicchnaa
