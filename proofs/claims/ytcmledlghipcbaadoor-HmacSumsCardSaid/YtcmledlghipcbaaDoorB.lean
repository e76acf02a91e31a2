/-
  THE WALK of the program's schedule: the 64 words of a block.
-/
import Derived.Test.YtcmledlghipcbaaDoorA
import Derived.StillTailTactics
namespace Go.Proofs.YtcmledlghipcbaaDoor
open Go.RowKit Sha

theorem zeros64 : (pad 64 []).map V32 = List.replicate 64 (.int .u32 0) := rfl

set_option maxRecDepth 100000 in
set_option maxHeartbeats 1000000 in
theorem schedule_any (b off cap : Nat) (bs : List UInt8) (hbs : bs.length = 64) (w : World) (hb : b < w.heap.size) (h : Sees w b off (bs.map V8)) :
    Calls Tryd.prog 33 #[.slice (some ⟨b, off, none⟩) 64 cap] w fun e w' => e = .returned (.agg ((words bs 64).map V32).toArray) ∧ Below w.heap.size w w' := by
  have Hbs := Lib.hid hbs
  clear hbs
  go_enter Tryd.func33, Tryd.ntmps33
  go_wp2
  go_loopw [4] (fun i wr => ∃ k : Nat, k ≤ 16 ∧ i = .int .i64 k ∧ Row wr w.heap.size 70 (List.replicate 64 (.int .u32 0)) ∧ Row wr (w.heap.size + 1) 70 ((pad 64 (words bs k)).map V32) ∧ Below w.heap.size w wr) (fun i _ => 16 - (intOf i).toNat)
  case atStart =>
    refine ⟨0, by omega, rfl, (Row.new w _ (List.replicate 64 (.int .u32 0))).alloc _, Row.newAt _ (List.replicate 64 (.int .u32 0)) (by simp), ((Below.refl _ _).alloc (Nat.le_refl _) _).alloc (by simp) _⟩
  case round =>
    obtain ⟨k, hk, rfl, hz, hrow, hbel⟩ := hrel
    have hs := h.below hbel hb
    by_cases hlt : k < 16
    · have hc : ∀ n, (wr.drewN n).cell? ⟨w.heap.size + 1, k, none⟩ = some (.int .u32 ((words bs k).getD k 0).toNat) := fun n => by
        have := hrow.cell k
        rw [List.getElem?_map, pad_get _ _ _ (by omega)] at this
        exact this
      have hf : ∀ n, (wr.drewN n).frozen? ⟨w.heap.size + 1, k, none⟩ = false := fun n => hrow.free k
      go_wp2_with (go_at_call 36; refine (wordAt_any b off 64 cap bs _ k (by omega) (by omega) Hbs.out (by omega) _ hs).mono ?_; rintro e w' ⟨rfl, n, rfl⟩)
      go_roundw
      case rel =>
        refine ⟨k + 1, by omega, by go_num, ?_, ?_, ?_⟩
        · exact (hz.drewN n).apart (by show w.heap.size ≠ w.heap.size + 1; omega) _
        · rw [words_head bs k hlt, ← pad_set _ _ _ (by rw [words_length]; omega), words_length, List.map_set]
          exact (hrow.drewN n).set k _
        · exact (below_drewN hbel n).setCell (by show w.heap.size ≤ w.heap.size + 1; omega) _
      case measure => simp [intOf]; omega
    · obtain rfl : k = 16 := by omega
      rw [show ((16 : Nat) : Int) = 16 from rfl]
      go_wp2
      go_loopw [5, 6, 7] (fun i _ _ wr => ∃ k : Nat, 16 ≤ k ∧ k ≤ 64 ∧ i = .int .i64 k ∧ Row wr w.heap.size 70 (List.replicate 64 (.int .u32 0)) ∧ Row wr (w.heap.size + 1) 70 ((pad 64 (words bs k)).map V32) ∧ Below w.heap.size w wr) (fun i _ _ _ => 64 - (intOf i).toNat)
      case atStart => exact ⟨16, by omega, by omega, rfl, hz, hrow, hbel⟩
      case round =>
        clear hz hrow hbel hs
        obtain ⟨k, hk1, hk2, rfl, hz, hrow, hbel⟩ := hrel
        by_cases hlt : k < 64
        · have hl : k < (pad 64 (words bs k)).length := by rw [pad_length _ _ (by rw [words_length]; omega)]; omega
          have hg : ∀ j, j < 64 → wr.cell? ⟨w.heap.size + 1, j, none⟩ = some (.int .u32 ((words bs k).getD j 0).toNat) := fun j hj => by
            have := hrow.cell j
            rw [List.getElem?_map, pad_get _ _ _ hj] at this
            exact this
          have hf : wr.frozen? ⟨w.heap.size + 1, k, none⟩ = false := hrow.free k
          have HW := Lib.hid (words_tail bs k hk1)
          obtain ⟨u, hu⟩ : ∃ u, u = (words bs k).getD (k - 16) 0 := ⟨_, rfl⟩
          obtain ⟨v, hv⟩ : ∃ v, v = (words bs k).getD (k - 7) 0 := ⟨_, rfl⟩
          obtain ⟨p, hp⟩ : ∃ p, p = (words bs k).getD (k - 15) 0 := ⟨_, rfl⟩
          obtain ⟨q, hq⟩ : ∃ q, q = (words bs k).getD (k - 2) 0 := ⟨_, rfl⟩
          have g16 := hg (k - 16) (by omega)
          have g7 := hg (k - 7) (by omega)
          have g15 := hg (k - 15) (by omega)
          have g2 := hg (k - 2) (by omega)
          have gk := hg k (by omega)
          rw [← hu, ← hv, ← hp, ← hq] at HW
          rw [← hp] at g15
          rw [← hq] at g2
          rw [← hu] at g16
          rw [← hv] at g7
          clear hg hu hv hp hq hl
          go_wp2
          go_quiet (fail)
          go_wp2
          have e16 : IntKind.i64.wrap ((k : Int) - 16) = ((k - 16 : Nat) : Int) := by rw [IntWalk.i64_in _ (by omega)]; omega
          have e7 : IntKind.i64.wrap ((k : Int) - 7) = ((k - 7 : Nat) : Int) := by rw [IntWalk.i64_in _ (by omega)]; omega
          have l16 : ((k - 16 : Nat) : Int) < 64 := by omega
          have l7 : ((k - 7 : Nat) : Int) < 64 := by omega
          have lk : (k : Int) < 64 := by omega
          refine wp_region_still_tail 28 (by kernel_rfl) (by kernel_rfl) ?_
          change wpStill _ _ (wr.drewN (nq + 1)) (fun a' => wpList _ _ _ _ a' (wr.drewN (nq + 1))) _ _
          simp only [List.take_succ_cons, List.take_zero, List.drop_succ_cons, List.drop_zero]
          repeat (first
            | still_step
            | (refine wpStill_step (fun K hK => ?_); go_simp; (with_reducible refine ⟨_, turn_same _ _ (by decide) (by decide) _, hK _ ?_⟩); clear hK K)
            | (refine wpStill_step (fun K hK => ?_); go_simp; (with_reducible refine ⟨_, drop_same _ _ (by decide) (by decide) _, hK _ ?_⟩); clear hK K))
          refine wpStill_nil ?_
          clear e16 e7 l16 l7
          go_wp2
          go_roundw
          case rel =>
            rw [mix_eq]
            refine ⟨k + 1, by omega, by omega, by go_num, ?_, ?_, ?_⟩
            · exact (hz.drewN _).apart (by show w.heap.size ≠ w.heap.size + 1; omega) _
            · rw [HW.out, ← pad_set _ _ _ (by rw [words_length]; omega), words_length, List.map_set]
              exact (hrow.drewN _).set k _
            · exact (below_drewN hbel _).setCell (by show w.heap.size ≤ w.heap.size + 1; omega) _
          case measure => simp [intOf]; omega
        · obtain rfl : k = 64 := by omega
          have hfull : pad 64 (words bs 64) = words bs 64 := by have := pad_full (words bs 64); rwa [words_length] at this
          rw [hfull] at hrow
          have hsz : ((words bs 64).map V32).toArray.size = 64 := by simp [words_length]
          have Hsz := Lib.hid hsz
          have Hrow := Lib.hid hrow
          have Hone := Lib.hid (one32 (words bs 64))
          clear hrow hfull hsz
          generalize hrs : (words bs 64).map V32 = rs at *
          have HRS := Lib.hid hrs
          clear hrs
          go_wp2_with (first
            | (refine wpList_load_row rfl 70 (.tmp 3) rfl (w.heap.size + 1) rfl 70 rs.toArray (0, 0) _ Hrow.out Tryd.underlying70 rfl (by rw [Hsz.out]; kernel_rfl) ?_)
            | (refine wpList_store_row rfl 70 (.tmp 2) (.tmp 59) rfl w.heap.size rs.toArray rfl rfl 70 _ hz (by rw [Hsz.out]; kernel_rfl) (by rw [Hsz.out]; rfl) Hone.out ?_))
          have hlast := hz.whole rs
          have hinfo : (Tryd.prog.info? 70).map (·.size) = some rs.toArray.size := by rw [Hsz.out]; kernel_rfl
          refine bodyPost_ret (v := .agg rs.toArray) (results_cell_row rfl _ _ w.heap.size 70 rs.toArray (0, 0) _ rfl hlast Tryd.underlying70 rfl hinfo) rfl ?_
          exact ⟨congrArg (fun l : List Value => Ending.returned (.agg l.toArray)) HRS.out.symm, below_setRow' hbel (Nat.le_refl _) _⟩
end Go.Proofs.YtcmledlghipcbaaDoor
