/-
  THE WALKS of putWord, digest, firstState.
-/
import Derived.Test.YtcmledlghipcbaaDoorC
namespace Go.Proofs.YtcmledlghipcbaaDoor
open Go.RowKit Sha

theorem cell8 {w : World} {g : Nat} {t : TypeId} {n : Nat} {l : List UInt8} (h : Row w g t ((pad8 n l).map V8)) (i : Nat) (hi : i < n) : w.cell? ⟨g, i, none⟩ = some (.int .u8 (l.getD i 0).toNat) := by
  rw [h.cell, List.getElem?_map, pad8_get _ _ _ hi]; rfl

set_option maxHeartbeats 400000 in
theorem putWord_cells (g o len cap : Nat) (x : UInt32) (w : World) (hl : 4 ≤ len) (v0 v1 v2 v3 : UInt8)
    (c0 : w.cell? ⟨g, o, none⟩ = some (.int .u8 v0.toNat)) (c1 : w.cell? ⟨g, o + 1, none⟩ = some (.int .u8 v1.toNat)) (c2 : w.cell? ⟨g, o + 2, none⟩ = some (.int .u8 v2.toNat)) (c3 : w.cell? ⟨g, o + 3, none⟩ = some (.int .u8 v3.toNat))
    (f0 : w.frozen? ⟨g, o, none⟩ = false) (f1 : w.frozen? ⟨g, o + 1, none⟩ = false) (f2 : w.frozen? ⟨g, o + 2, none⟩ = false) (f3 : w.frozen? ⟨g, o + 3, none⟩ = false) :
    Calls Tryd.prog 35 #[.slice (some ⟨g, o, none⟩) len cap, .int .u32 x.toNat] w fun e w' => e = .returned (.tuple #[]) ∧
      (((w.setCell ⟨g, o, none⟩ (.int .u8 ((x.toNat : Int) / 16777216 % 256))).setCell ⟨g, o + 1, none⟩ (.int .u8 ((x.toNat : Int) / 65536 % 256))).setCell ⟨g, o + 2, none⟩ (.int .u8 ((x.toNat : Int) / 256 % 256))).setCell ⟨g, o + 3, none⟩ (.int .u8 ((x.toNat : Int) % 256)) = w' := by
  go_enter Tryd.func35, Tryd.ntmps35
  go_wp2
  go_end0
  exact ⟨rfl, rfl⟩

theorem putWord_any (g o len cap n : Nat) (t : TypeId) (l : List UInt8) (x : UInt32) (w : World) (h : Row w g t ((pad8 n l).map V8)) (ho : o = l.length) (hn : o + 4 ≤ n) (hl : 4 ≤ len) :
    Calls Tryd.prog 35 #[.slice (some ⟨g, o, none⟩) len cap, .int .u32 x.toNat] w fun e w' => e = .returned (.tuple #[]) ∧ Row w' g t ((pad8 n (l ++ b4 x)).map V8) ∧ w.grownBy w' (some g) := by
  refine (putWord_cells g o len cap x w hl _ _ _ _ (cell8 h o (by omega)) (cell8 h (o + 1) (by omega)) (cell8 h (o + 2) (by omega)) (cell8 h (o + 3) (by omega)) (h.free _) (h.free _) (h.free _) (h.free _)).mono ?_
  rintro e w' ⟨rfl, rfl⟩
  rw [show (16777216 : Int) = ((16777216 : Nat) : Int) from rfl, show (65536 : Int) = ((65536 : Nat) : Int) from rfl]
  rw [show ((x.toNat : Int) / 256 % 256) = ((UInt8.ofNat (x.toNat / 256)).toNat : Int) from byte_eq' x.toNat 256, byte_eq' x.toNat 16777216, byte_eq' x.toNat 65536, byte_eq x.toNat]
  refine ⟨rfl, ?_, ?_⟩
  · subst ho
    rw [b4, ← pad8_set4 n l _ _ _ _ (by omega), List.map_set, List.map_set, List.map_set, List.map_set]
    exact (((h.set _ _).set _ _).set _ _).set _ _
  · iterate 4 refine by_setCell ?_ (.inl rfl) _
    exact by_refl _ _

set_option maxRecDepth 100000 in
set_option maxHeartbeats 400000 in
theorem firstState_any (w : World) :
    Calls Tryd.prog 28 #[] w fun e w' => e = .returned (.agg (R0.list.map V32).toArray) ∧ Below w.heap.size w w' := by
  go_enter Tryd.func28, Tryd.ntmps28
  go_wp2
  refine bodyPost_ret (v := .agg (R0.list.map V32).toArray) (results_cell_row rfl _ _ w.heap.size 61 (R0.list.map V32).toArray (0, 0) _ rfl (Row.new w 61 (R0.list.map V32)) Tryd.underlying61 rfl (by kernel_rfl)) rfl ?_
  exact ⟨rfl, (Below.refl _ _).alloc (Nat.le_refl _) _⟩

/-- The digest of a state. -/
def dig (s : St) : List UInt8 := bytesOf s.list
theorem dig_length (s : St) : (dig s).length = 32 := by rw [dig, bytesOf_length]; rfl
theorem list_take_succ (s : St) (k : Nat) (hk : k < 8) : s.list.take (k + 1) = s.list.take k ++ [s.list.getD k 0] := by
  rw [List.take_succ_eq_append_getElem (by simpa [St.list] using hk), List.getD_eq_getElem?_getD, List.getElem?_eq_getElem (by simpa [St.list] using hk)]; rfl

theorem arr32 : Tryd.prog.underlying 27 = some (.array (Tryd.prog.arrayLen 27) (Tryd.prog.elem 27)) := by kernel_rfl
theorem len32 : Tryd.prog.arrayLen 27 = 32 := by kernel_rfl
theorem el32 (W : World) : (sizeOf (Tryd.prog.elem 27)).run Tryd.prog W = .ok 1 W := by kernel_rfl
theorem slice_a32 (O k : Nat) (hk : k < 8) (W : World) :
    (Instr.sliceAt 27 (.pointer (some ⟨O, 0, none⟩)) (some (.int .i64 ((k : Int) * 4))) none none).run Tryd.prog W = .ok (.slice (some ⟨O, 4 * k, none⟩) (32 - 4 * k) (32 - 4 * k)) W := by
  rw [run_sliceAt_array_l W 27 ⟨O, 0, none⟩ arr32 .i64 _ (by omega) (by rw [len32]; omega), el32, len32, show ((k : Int) * 4).toNat = 4 * k by omega]
  simp only [Result.andThen_ok, slicedAt]
  rw [if_neg (by omega), Nat.mul_one]
  congr 3
  unfold Addr.add
  split <;> simp_all

set_option maxRecDepth 100000 in
set_option maxHeartbeats 600000 in
theorem digest_any (S : Nat) (s : St) (w : World) (hS : Row w S 61 (s.list.map V32)) :
    Calls Tryd.prog 31 #[.pointer (some ⟨S, 0, none⟩)] w fun e w' => e = .returned (.agg ((dig s).map V8).toArray) ∧ Below w.heap.size w w' := by
  have hSl := hS.lt
  go_enter Tryd.func31, Tryd.ntmps31
  go_wp2
  go_loopw [4, 5, 7] (fun _ _ i wr => ∃ k : Nat, k ≤ 8 ∧ i = .int .i64 k ∧ Row wr w.heap.size 27 (List.replicate 32 (.int .u8 0)) ∧ Row wr (w.heap.size + 1) 27 ((pad8 32 (bytesOf (s.list.take k))).map V8) ∧ Below w.heap.size w wr) (fun _ _ i _ => 8 - (intOf i).toNat)
  case atStart =>
    exact ⟨0, by omega, rfl, (Row.new w _ (List.replicate 32 (.int .u8 0))).alloc _, Row.newAt _ (List.replicate 32 (.int .u8 0)) (by simp), ((Below.refl _ _).alloc (Nat.le_refl _) _).alloc (by simp) _⟩
  case round =>
    obtain ⟨k, hk, rfl, hz, hrow, hbel⟩ := hrel
    by_cases hlt : k < 8
    · have hc : wr.cell? ⟨S, k, none⟩ = some (.int .u32 (s.list.getD k 0).toNat) := cell32 (hS.below hbel hSl) k (by simpa [St.list] using hlt)
      have Hs := Lib.hid (list_take_succ s k hlt)
      generalize s.list.getD k 0 = x at *
      have Hlen : Hid ((bytesOf (s.list.take k)).length = 4 * k) := by rw [bytesOf_length]; show _ = _; simp [St.list]; omega
      have hsl := fun n => slice_a32 (w.heap.size + 1) k hlt (wr.drewN n)
      go_wp2
      go_quiet (fail)
      go_wp2_with fail
      refine (putWord_any (w.heap.size + 1) (4 * k) _ _ 32 27 (bytesOf (s.list.take k)) x _ (hrow.drewN _) Hlen.out.symm (by omega) (by omega)).mono ?_
      rintro e w' ⟨rfl, hr', hg'⟩
      go_wp2
      go_roundw
      case rel =>
        have hbel2 := below_drewN hbel nq
        have hne : ∀ j, j < w.heap.size → w'.heap[j]? = (wr.drewN nq).heap[j]? := fun j hj => hg'.block j (Nat.lt_of_lt_of_le hj hbel2.size) (by simp; omega)
        refine ⟨k + 1, by omega, by go_num, (hz.drewN nq).grown hg' (by simp), ?_, ?_⟩
        · rw [Hs.out, bytesOf_snoc]; exact hr'
        · exact hbel2.trans ⟨hg'.os, hg'.tape, hg'.output, hg'.size, hne⟩
      case measure => simp [intOf]; omega
    · obtain rfl : k = 8 := by omega
      have hfull : Hid ((pad8 32 (bytesOf (s.list.take 8))).map V8 = (dig s).map V8) := by
        show _ = _
        have e : s.list.take 8 = s.list := rfl
        rw [e]
        have := pad8_full (bytesOf s.list)
        rw [bytesOf_length] at this
        exact congrArg (List.map V8) this
      rw [hfull.out] at hrow
      have Hone := Lib.hid (one8 (dig s))
      have Hsz : Hid (((dig s).map V8).toArray.size = 32) := by show _ = _; simp [dig_length]
      clear hfull
      have Hrow := Lib.hid hrow
      clear hrow
      generalize hrs : (dig s).map V8 = rs at *
      have HRS := Lib.hid hrs
      clear hrs
      rw [show ((8 : Nat) : Int) = 8 from rfl]
      go_wp2_with (first
        | (refine wpList_load_row rfl 27 (.tmp 3) rfl (w.heap.size + 1) rfl 27 rs.toArray (0, 0) _ Hrow.out Tryd.underlying27 rfl (by rw [Hsz.out]; kernel_rfl) ?_)
        | (refine wpList_store_row rfl 27 (.tmp 2) (.tmp 19) rfl w.heap.size rs.toArray rfl rfl 27 _ hz (by rw [Hsz.out]; kernel_rfl) (by rw [Hsz.out]; rfl) Hone.out ?_))
      have hlast := hz.whole rs
      have hinfo : (Tryd.prog.info? 27).map (·.size) = some rs.toArray.size := by rw [Hsz.out]; kernel_rfl
      refine bodyPost_ret (v := .agg rs.toArray) (results_cell_row rfl _ _ w.heap.size 27 rs.toArray (0, 0) _ rfl hlast Tryd.underlying27 rfl hinfo) rfl ?_
      exact ⟨congrArg (fun l : List Value => Ending.returned (.agg l.toArray)) HRS.out.symm, below_setRow' hbel (Nat.le_refl _) _⟩
end Go.Proofs.YtcmledlghipcbaaDoor
