/-
  OF THE WALK: VQ.
-/
import Derived.Laws.EntriesVeiled
import Derived.Test.YthbmknpbcgnabaaGreatDoorP37
namespace Go.Proofs.YthbmknpbcgnabaaGreatDoor
open Go.RowKit Aes Ctr Sl Dsk
set_option maxRecDepth 100000 in
theorem Jstep_ww {w : World} {P C : Nat} {Q : World → Prop} (hnx : w.cell? ⟨P, 84, none⟩ = some (wrV C)) (hf : Calls Tryz.prog 51 #[PT C] w fun e w' => e = .returned (wrV C) ∧ w'.cell? ⟨P, 84, none⟩ = some (wrV C) ∧ w'.frozen? ⟨P, 84, none⟩ = false ∧ Q w') :
    Calls Tryz.prog 19 #[PT P] w fun e w'' => e = .returned (.tuple #[.bool false, .int .i64 0]) ∧ ∃ w', Q w' ∧ w'' = w'.setCell ⟨P, 84, none⟩ (wrV C) := by
  have HB := Lib.hid (JBusy_fn hnx)
  have HF := Lib.hid hf
  have HB2 : Hid (∀ W : World, W.cell? ⟨P, 84, none⟩ = some (wrV C) → Calls Tryz.prog 29 #[PT P] W fun e w' => e = .returned (.bool true) ∧ w' = W) := fun W hW => JBusy_fn hW
  clear hf
  go_enter Tryz.func19, Tryz.ntmps19
  go_wp2_with fail
  refine HB.out.mono ?_
  rintro e w0 ⟨rfl, hw⟩
  rw [hw]
  clear hw w0 HB
  go_wp2_with fail
  refine HF.out.mono ?_
  rintro e w1 ⟨rfl, hc, hz, hQ⟩
  have HQ := Lib.hid hQ
  have HS : Hid ((w1.setCell ⟨P, 84, none⟩ (wrV C)).cell? ⟨P, 84, none⟩ = some (wrV C)) := World.cell?_setCell_same _ _ _ hc
  clear HF hQ hnx
  go_wp2_with fail
  refine (HB2.out _ HS.out).mono ?_
  rintro e w2 ⟨rfl, hw⟩
  rw [hw]
  clear hw w2 HB2
  go_wp2
  go_ret2
  exact ⟨rfl, w1, HQ.out, rfl⟩
set_option maxRecDepth 100000 in
theorem Jstep_wf {w : World} {P C : Nat} {Q : World → Prop} (hnx : w.cell? ⟨P, 84, none⟩ = some (wrV C)) (hf : Calls Tryz.prog 51 #[PT C] w fun e w' => e = .returned (flV C) ∧ w'.cell? ⟨P, 84, none⟩ = some (wrV C) ∧ w'.frozen? ⟨P, 84, none⟩ = false ∧ Q w') :
    Calls Tryz.prog 19 #[PT P] w fun e w'' => e = .returned (.tuple #[.bool false, .int .i64 0]) ∧ ∃ w', Q w' ∧ w'' = w'.setCell ⟨P, 84, none⟩ (flV C) := by
  have HB := Lib.hid (JBusy_fn hnx)
  have HF := Lib.hid hf
  have HB2 : Hid (∀ W : World, W.cell? ⟨P, 84, none⟩ = some (flV C) → Calls Tryz.prog 29 #[PT P] W fun e w' => e = .returned (.bool true) ∧ w' = W) := fun W hW => JBusy_fn hW
  clear hf
  go_enter Tryz.func19, Tryz.ntmps19
  go_wp2_with fail
  refine HB.out.mono ?_
  rintro e w0 ⟨rfl, hw⟩
  rw [hw]
  clear hw w0 HB
  go_wp2_with fail
  refine HF.out.mono ?_
  rintro e w1 ⟨rfl, hc, hz, hQ⟩
  have HQ := Lib.hid hQ
  have HS : Hid ((w1.setCell ⟨P, 84, none⟩ (flV C)).cell? ⟨P, 84, none⟩ = some (flV C)) := World.cell?_setCell_same _ _ _ hc
  clear HF hQ hnx
  go_wp2_with fail
  refine (HB2.out _ HS.out).mono ?_
  rintro e w2 ⟨rfl, hw⟩
  rw [hw]
  clear hw w2 HB2
  go_wp2
  go_ret2
  exact ⟨rfl, w1, HQ.out, rfl⟩
set_option maxRecDepth 100000 in
theorem Jstep_ff {w : World} {P C : Nat} {Q : World → Prop} (hnx : w.cell? ⟨P, 84, none⟩ = some (flV C)) (hf : Calls Tryz.prog 92 #[PT C] w fun e w' => e = .returned (fiV C) ∧ w'.cell? ⟨P, 84, none⟩ = some (flV C) ∧ w'.frozen? ⟨P, 84, none⟩ = false ∧ Q w') :
    Calls Tryz.prog 19 #[PT P] w fun e w'' => e = .returned (.tuple #[.bool false, .int .i64 0]) ∧ ∃ w', Q w' ∧ w'' = w'.setCell ⟨P, 84, none⟩ (fiV C) := by
  have HB := Lib.hid (JBusy_fn hnx)
  have HF := Lib.hid hf
  have HB2 : Hid (∀ W : World, W.cell? ⟨P, 84, none⟩ = some (fiV C) → Calls Tryz.prog 29 #[PT P] W fun e w' => e = .returned (.bool true) ∧ w' = W) := fun W hW => JBusy_fn hW
  clear hf
  go_enter Tryz.func19, Tryz.ntmps19
  go_wp2_with fail
  refine HB.out.mono ?_
  rintro e w0 ⟨rfl, hw⟩
  rw [hw]
  clear hw w0 HB
  go_wp2_with fail
  refine HF.out.mono ?_
  rintro e w1 ⟨rfl, hc, hz, hQ⟩
  have HQ := Lib.hid hQ
  have HS : Hid ((w1.setCell ⟨P, 84, none⟩ (fiV C)).cell? ⟨P, 84, none⟩ = some (fiV C)) := World.cell?_setCell_same _ _ _ hc
  clear HF hQ hnx
  go_wp2_with fail
  refine (HB2.out _ HS.out).mono ?_
  rintro e w2 ⟨rfl, hw⟩
  rw [hw]
  clear hw w2 HB2
  go_wp2
  go_ret2
  exact ⟨rfl, w1, HQ.out, rfl⟩
set_option maxRecDepth 100000 in
theorem Jstep_fn {w : World} {P C : Nat} {Q : World → Prop} (hnx : w.cell? ⟨P, 84, none⟩ = some (fiV C)) (hf : Calls Tryz.prog 124 #[PT C] w fun e w' => e = .returned (Value.nilFunc) ∧ w'.cell? ⟨P, 84, none⟩ = some (fiV C) ∧ w'.frozen? ⟨P, 84, none⟩ = false ∧ Q w') :
    Calls Tryz.prog 19 #[PT P] w fun e w'' => e = .returned (.tuple #[.bool true, .int .i64 0]) ∧ ∃ w', Q w' ∧ w'' = w'.setCell ⟨P, 84, none⟩ (Value.nilFunc) := by
  have HB := Lib.hid (JBusy_fn hnx)
  have HF := Lib.hid hf
  have HB2 : Hid (∀ W : World, W.cell? ⟨P, 84, none⟩ = some (Value.nilFunc) → Calls Tryz.prog 29 #[PT P] W fun e w' => e = .returned (.bool false) ∧ w' = W) := fun W hW => JBusy_nil hW
  clear hf
  go_enter Tryz.func19, Tryz.ntmps19
  go_wp2_with fail
  refine HB.out.mono ?_
  rintro e w0 ⟨rfl, hw⟩
  rw [hw]
  clear hw w0 HB
  go_wp2_with fail
  refine HF.out.mono ?_
  rintro e w1 ⟨rfl, hc, hz, hQ⟩
  have HQ := Lib.hid hQ
  have HS : Hid ((w1.setCell ⟨P, 84, none⟩ (Value.nilFunc)).cell? ⟨P, 84, none⟩ = some (Value.nilFunc)) := World.cell?_setCell_same _ _ _ hc
  clear HF hQ hnx
  go_wp2_with fail
  refine (HB2.out _ HS.out).mono ?_
  rintro e w2 ⟨rfl, hw⟩
  rw [hw]
  clear hw w2 HB2
  go_wp2
  go_ret2
  exact ⟨rfl, w1, HQ.out, rfl⟩
set_option maxRecDepth 100000 in
theorem Jstep_none {w : World} {P : Nat} (hnx : w.cell? ⟨P, 84, none⟩ = some .nilFunc) : Calls Tryz.prog 19 #[PT P] w fun e w' => e = .returned (.tuple #[.bool false, .int .i64 2]) ∧ w' = w := by
  have HB := Lib.hid (JBusy_nil hnx)
  clear hnx
  go_enter Tryz.func19, Tryz.ntmps19
  go_wp2_with fail
  refine HB.out.mono ?_
  rintro e w0 ⟨rfl, hw⟩
  rw [hw]
  clear hw w0 HB
  go_wp2
  go_ret2
  exact ⟨rfl, rfl⟩
theorem HeadL.step {w : World} {P d : Nat} {ek mk : List UInt8} {s : Bk.Bn} {ks : List Value} {T : Nat} {FT : Nat → Prop} {nx : Value} {S : List Bool} {V : Nat} (h : HeadL w P d ek mk s ks T FT nx S V) (v : Value) :
    HeadL (w.setCell ⟨P, 84, none⟩ v) P d ek mk s ks T FT v S V ∧ Chg (fun k _ => k = P) w (w.setCell ⟨P, 84, none⟩ v) := by
  have hc : Chg (fun k _ => k = P) w (w.setCell ⟨P, 84, none⟩ v) := (Chg.refl _ w).setCell (p := ⟨P, 84, none⟩) rfl (fun _ => rfl) (headP_some h.at_).2.1 _
  exact ⟨⟨h.at_.next h.kl h.r32 v, h.keys, Mr.treeAll.stay h.tree hc fun k _ hk e => h.PF (e ▸ hk), h.tl, h.n8, h.r32, h.b1, h.PF⟩, hc⟩
set_option maxHeartbeats 1000000 in
theorem Jstep_any {w : World} {F G : Nat → Prop} {P d : Nat} {ek mk : List UInt8} {s : Bk.Bn} {D : List Blk} (h : BL w F P d ek mk s) (hD : DiskAt w G d D) (hFG : ∀ k, F k → ¬ G k) (hl : D.length = 2 * s.n) (hep : s.ep ≤ 1000000) (hT : Hm.Tab w) (hNF : NoTab F) :
    Calls Tryz.prog 19 #[PT P] w fun e w' => e = .returned (.tuple #[.bool (Bk.step ek mk s D).2.1, .int .i64 ((Bk.step ek mk s D).2.2 : Int)]) ∧ AfterB BL w F G w' P d ek mk (Bk.step ek mk s D).1.1 (Bk.step ek mk s D).1.2 := by
  have h0 := h
  obtain ⟨ks, T, FT, nx, S, V, hH, hFP, hFT, hFl, hb⟩ := h
  rcases hb with ⟨hL, rfl⟩ | ⟨C, T2, FT2, KB, rt, bv, S2, hC, rfl, hFC, hF2, hC1, hC2, hC3⟩
  · have e : Bk.step ek mk s D = ((s, D), false, 2) := by rw [Bk.step, if_pos hL]
    rw [e]
    refine (Jstep_none hH.at_.cells.2.2.2.2).mono ?_
    rintro e w' ⟨rfl, rfl⟩
    exact ⟨rfl, F, G, h0, hD, hFG, fun _ hk => .inl hk, fun _ hk => .inl hk, Chg.refl _ _⟩
  · have hL : s.L ≠ [] := hC.busy hH.n8
    have hU : Under w P d ek mk s ks T FT (nextV s C) S V C T2 FT2 KB G rt bv S2 D := ⟨hH, hC, hD, hl, hFC, hF2, hFG P hFP, hFG C hC1, fun k hk => hFG k (hFT k hk), fun k hk => hFG k (hC2 k hk), fun k hk => hFG k (hC3 k hk), fun k hk => hFl k (hC3 k hk)⟩
    -- still under way: the bank as it lies behind the write of its next step
    have still : ∀ {s' : Bk.Bn} {D' : List Blk} {w' : World} {FT2' G' : Nat → Prop} {S2' : List Bool}, Under w' P d ek mk s' ks T FT (nextV s C) S V C T2 FT2' KB G' rt bv S2' D' → (∀ k, FT2' k → FT2 k ∨ w.heap.size ≤ k) → (∀ k, G' k → G k ∨ w.heap.size ≤ k) → Chg (fun k _ => F k ∨ G k) w w' →
        AfterB BL w F G (w'.setCell ⟨P, 84, none⟩ (nextV s' C)) P d ek mk s' D' := fun {s' D' w' FT2' G' S2'} hu hf hg hc => by
      obtain ⟨hh, hcp⟩ := hu.head.step (nextV s' C)
      have hsz : (w'.setCell ⟨P, 84, none⟩ (nextV s' C)).heap.size = w'.heap.size := by simp [World.setCell]
      have hFT2l : ∀ k, FT2' k → k < w'.heap.size := Mr.treeAll.lt hu.com.tree
      refine ⟨fun k => F k ∨ FT2' k, G', ⟨ks, T, FT, _, S, V, hh, .inl hFP, fun k hk => .inl (hFT k hk), fun k hk => ?_, .inr ⟨C, T2, FT2', KB, rt, bv, S2', hu.com.chg hcp (fun _ e => hu.com.CP e) (fun k _ hk e => hu.com.PF (e ▸ hk)) (fun k _ hk e => hu.com.KP (e ▸ hk)), rfl, hu.FC, hu.F2, .inl hC1, fun k hk => .inr hk, fun k hk => .inl (hC3 k hk)⟩⟩, hu.disk.stay hcp fun k _ hk e => hu.GP (e ▸ hk), fun k hk hk2 => ?_, fun k hk => ?_, hg, hc.then (hcp.mono fun k _ _ e => .inl (e ▸ hFP))⟩
      · rw [hsz]
        exact hk.elim (fun h => Nat.lt_of_lt_of_le (hFl k h) hc.size) (hFT2l k)
      · rcases hk with hk | hk
        · exact (hg k hk2).elim (hFG k hk) fun h => by have := hFl k hk; omega
        · exact hu.G2 k hk hk2
      · exact hk.elim .inl fun h => (hf k h).elim (fun h => .inl (hC2 k h)) .inr
    have c84 := hH.at_.cells.2.2.2.2
    have keep : ∀ {w' : World} {s' : Bk.Bn} {T' : Nat} {FT' : Nat → Prop} {S' : List Bool} {V' : Nat}, HeadL w' P d ek mk s' ks T' FT' (nextV s C) S' V' → w'.cell? ⟨P, 84, none⟩ = some (nextV s C) ∧ w'.frozen? ⟨P, 84, none⟩ = false := fun hh => ⟨hh.at_.cells.2.2.2.2, (headP_some hh.at_).2.2.2⟩
    by_cases ha : s.at_ < s.n
    · have hv : nextV s C = wrV C := by unfold nextV; rw [if_pos ha]
      have hst : (Bk.step ek mk s D).2 = (false, 0) := by rw [Bk.step, if_neg hL, if_pos ha]
      have ha' : (Bk.step ek mk s D).1.1.at_ = s.at_ + 1 ∧ (Bk.step ek mk s D).1.1.n = s.n := by rw [Bk.step, if_neg hL, if_pos ha]; exact ⟨rfl, rfl⟩
      rw [hst]
      have hw := (Jwrite_any hU ha hep hT).mono (R' := fun e w' => e = .returned (nextV (Bk.step ek mk s D).1.1 C) ∧ w'.cell? ⟨P, 84, none⟩ = some (wrV C) ∧ w'.frozen? ⟨P, 84, none⟩ = false ∧ AfterB BL w F G (w'.setCell ⟨P, 84, none⟩ (nextV (Bk.step ek mk s D).1.1 C)) P d ek mk (Bk.step ek mk s D).1.1 (Bk.step ek mk s D).1.2) (by
        rintro e w' ⟨rfl, FT2', G', S2', hu, hf, hg, hc⟩
        have := keep hu.head
        rw [hv] at this
        exact ⟨rfl, this.1, this.2, still hu hf hg (hc.mono fun k _ _ hk => hk.elim (fun e => .inl (e ▸ hC1)) fun h => h.imp (hC2 k) id)⟩)
      rw [hv] at c84
      by_cases h1 : s.at_ + 1 < s.n
      · have hv' : nextV (Bk.step ek mk s D).1.1 C = wrV C := by unfold nextV; rw [ha'.1, ha'.2, if_pos h1]
        rw [hv'] at hw
        refine (Jstep_ww c84 hw).mono ?_
        rintro e w'' ⟨rfl, w', hA, rfl⟩
        exact ⟨rfl, hA⟩
      · have hv' : nextV (Bk.step ek mk s D).1.1 C = flV C := by unfold nextV; rw [ha'.1, ha'.2, if_neg h1, if_pos (by omega)]
        rw [hv'] at hw
        refine (Jstep_wf c84 hw).mono ?_
        rintro e w'' ⟨rfl, w', hA, rfl⟩
        exact ⟨rfl, hA⟩
    · by_cases hb : s.at_ = s.n
      · have hv : nextV s C = flV C := by unfold nextV; rw [if_neg ha, if_pos hb]
        have hst : (Bk.step ek mk s D).2 = (false, 0) := by rw [Bk.step, if_neg hL, if_neg ha, if_pos hb]
        have hv' : nextV (Bk.step ek mk s D).1.1 C = fiV C := by
          rw [Bk.step, if_neg hL, if_neg ha, if_pos hb]
          unfold nextV
          show (if s.at_ + 1 < s.n then _ else if s.at_ + 1 = s.n then _ else _) = _
          rw [if_neg (by omega), if_neg (by omega)]
        rw [hst]
        have hw := (Jflush_any hU hb).mono (R' := fun e w' => e = .returned (fiV C) ∧ w'.cell? ⟨P, 84, none⟩ = some (flV C) ∧ w'.frozen? ⟨P, 84, none⟩ = false ∧ AfterB BL w F G (w'.setCell ⟨P, 84, none⟩ (fiV C)) P d ek mk (Bk.step ek mk s D).1.1 (Bk.step ek mk s D).1.2) (by
          rintro e w' ⟨rfl, G', hu, hg, hc⟩
          have := keep hu.head
          rw [hv] at this
          have hs := still hu (fun _ hk => .inl hk) hg (hc.mono fun k _ _ hk => .inr hk)
          rw [hv'] at hs
          exact ⟨congrArg Ending.returned hv', this.1, this.2, hs⟩)
        rw [hv] at c84
        refine (Jstep_ff c84 hw).mono ?_
        rintro e w'' ⟨rfl, w', hA, rfl⟩
        exact ⟨rfl, hA⟩
      · have hat := hC.atn
        have hv : nextV s C = fiV C := by unfold nextV; rw [if_neg ha, if_neg hb]
        have hst : Bk.step ek mk s D = ((⟨s.n, s.ep + 1, 1 - s.bank, Bk.rootB mk s.next, s.next, [], 0, []⟩, D), true, 0) := by rw [Bk.step, if_neg hL, if_neg ha, if_neg hb]
        rw [hst]
        have hw := (Jfinish_any hU (by omega) hT fun k hk => hNF k (hC2 k hk)).mono (R' := fun e w' => e = .returned .nilFunc ∧ w'.cell? ⟨P, 84, none⟩ = some (fiV C) ∧ w'.frozen? ⟨P, 84, none⟩ = false ∧ AfterB BL w F G (w'.setCell ⟨P, 84, none⟩ .nilFunc) P d ek mk ⟨s.n, s.ep + 1, 1 - s.bank, Bk.rootB mk s.next, s.next, [], 0, []⟩ D) (by
          rintro e w' ⟨rfl, FT2', S', V', hh, hf, hc⟩
          have hk := keep hh
          rw [hv] at hk
          obtain ⟨hh2, hcp⟩ := hh.step .nilFunc
          have hcF : Chg (fun k _ => F k) w w' := hc.mono fun k _ _ hk => hk.elim (fun e => e ▸ hFP) fun h => h.elim (fun e => e ▸ hC1) (hC2 k)
          have hsz : (w'.setCell ⟨P, 84, none⟩ Value.nilFunc).heap.size = w'.heap.size := by simp [World.setCell]
          have hFT2l : ∀ k, FT2' k → k < w'.heap.size := Mr.treeAll.lt hh.tree
          refine ⟨rfl, hk.1, hk.2, fun k => F k ∨ FT2' k, G, ⟨ks, T2, FT2', _, S', V', hh2, .inl hFP, fun k hk => .inr hk, fun k hk => ?_, .inl ⟨rfl, rfl⟩⟩, (hD.stay hcF fun k _ hk hf => hFG k hf hk).stay hcp fun k _ hk e => hFG P hFP (e ▸ hk), fun k hk hk2 => ?_, fun k hk => ?_, fun _ hk => .inl hk, (hcF.mono fun k _ _ hk => .inl hk).then (hcp.mono fun k _ _ e => .inl (e ▸ hFP))⟩
          · rw [hsz]
            exact hk.elim (fun h => Nat.lt_of_lt_of_le (hFl k h) hcF.size) (hFT2l k)
          · rcases hk with hk | hk
            · exact hFG k hk hk2
            · exact (hf k hk).elim (fun h => hFG k (hC2 k h) hk2) fun h => by have := hD.lt k hk2; omega
          · exact hk.elim .inl fun h => (hf k h).elim (fun h => .inl (hC2 k h)) .inr)
        rw [hv] at c84
        refine (Jstep_fn c84 hw).mono ?_
        rintro e w'' ⟨rfl, w', hA, rfl⟩
        exact ⟨rfl, hA⟩
end Go.Proofs.YthbmknpbcgnabaaGreatDoor
