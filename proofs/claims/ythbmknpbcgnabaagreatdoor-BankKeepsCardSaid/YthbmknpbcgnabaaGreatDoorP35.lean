/-
  OF THE WALK: VL, VM.
-/
import Derived.Laws.EntriesVeiled
import Derived.Test.YthbmknpbcgnabaaGreatDoorP34
namespace Go.Proofs.YthbmknpbcgnabaaGreatDoor
open Go.RowKit Aes Ctr Sl Dsk
def cmC (P n : Nat) (RG : List Value) (Ac : Option Addr) (cc T2 : Nat) : List Value := PT P :: (RG ++ [.slice Ac n cc, zI, PT T2])
theorem cmC_built (P T2 n cc : Nat) (RG : List Value) (Ac : Option Addr) (h : RG.length = 34) : Tryz.prog.built 117 [(0, PT P), (1, .agg RG.toArray), (2, .slice Ac n cc), (4, PT T2)] = some (cmC P n RG Ac cc T2).toArray := commitOf P T2 RG (.slice Ac n cc) rfl h
set_option maxRecDepth 100000 in
set_option maxHeartbeats 1000000 in
theorem Jbegin_ok {w : World} {P d T : Nat} {ek mk : List UInt8} {s : Bk.Bn} {ks : List Value} {F FT : Nat → Prop} {nx : Value} {S : List Bool} {V : Nat} (h : HeadL w P d ek mk s ks T FT nx S V) (hnx : nx = .nilFunc) (hFP : F P) (hFT : ∀ k, FT k → F k) (hFl : ∀ k, F k → k < w.heap.size)
    {K : Nat → Prop} {v : Value} {l : List (List UInt8)} (hPt : PartsOn w K v l) (hep : s.ep ≤ 1000000) (hT : Hm.Tab w) (hl : l.length = s.n) (h64 : ∀ x ∈ l, x.length = 64) :
    Calls Tryz.prog 16 #[PT P, v] w fun e w' => e = .returned (.int .i64 0) ∧ ∃ F', BL w' F' P d ek mk { s with L := l, at_ := 0, next := [] } ∧ (∀ k, F' k → F k ∨ w.heap.size ≤ k) ∧ Chg (fun k _ => F k) w w' := by
  subst hnx
  have hn100 := h.n100
  have h8 := h.n8
  have hb1 := h.b1
  have hkl := h.kl
  obtain ⟨Av, cv, rfl⟩ := hPt.form
  obtain ⟨ep, hepe⟩ : ∃ x, x = s.ep := ⟨_, rfl⟩
  obtain ⟨bank, hbke⟩ : ∃ x, x = s.bank := ⟨_, rfl⟩
  obtain ⟨n, hne⟩ : ∃ x, x = s.n := ⟨_, rfl⟩
  obtain ⟨ep1, hep1⟩ : ∃ x, x = ep + 1 := ⟨_, rfl⟩
  obtain ⟨bk1, hbk1⟩ : ∃ x, x = 1 - bank := ⟨_, rfl⟩
  obtain ⟨RG, hRG⟩ : ∃ r : List Value, r = .int .u64 (ep1 : Int) :: .int .i64 (bk1 : Int) :: Zt32 := ⟨_, rfl⟩
  have HRG := Lib.hid hRG
  have HRl : Hid (RG.length = 34) := by show _ = _; rw [hRG]; rfl
  clear hRG
  have HKeep : Hid (∀ W, Below w.heap.size w W → W.cell? ⟨P, 49, none⟩ = some (.int .u64 (ep : Int)) ∧ W.cell? ⟨P, 50, none⟩ = some (IV bank) ∧ W.rangeAt P 1 ks) := fun W hW => by
    have hc := (h.below hW).at_.cells
    rw [hepe, hbke]
    exact ⟨hc.2.1, hc.2.2.1, (h.below hW).at_.ks.1⟩
  have HNx : Hid (∀ W, Below w.heap.size w W → W.cell? ⟨P, 84, none⟩ = some .nilFunc ∧ W.frozen? ⟨P, 84, none⟩ = false) := fun W hW => ⟨(h.below hW).at_.cells.2.2.2.2, (headP_some (h.below hW).at_).2.2.2⟩
  have HSz : Hid (∀ W, Below w.heap.size w W → Calls Tryz.prog 47 #[PT P] W fun e w' => e = .returned (IV n) ∧ Below W.heap.size W w') := fun W hW => by rw [hne]; exact Jsize_any (h.below hW)
  have HBu := Lib.hid (JBusy_nil (h.at_.cells.2.2.2.2))
  have HSz0 := Lib.hid (Jsize_any h)
  rw [← hne] at HSz0
  have HWh := Lib.hid (fun W (hW : Below w.heap.size w W) => Jwhole_any (hPt.below hW) (show l.length ≤ 1000 by omega) n)
  rw [hl, ← hne] at HWh
  have hdec : decide (n = n ∧ ∀ x ∈ l, x.length = 64) = true := decide_eq_true ⟨rfl, h64⟩
  rw [hdec] at HWh
  have HCp : Hid (∀ W, Below w.heap.size w W → Calls Tryz.prog 49 #[.slice Av n cv] W fun e w' => (∃ A c, e = .returned (.slice A n c) ∧ Hid (PartsOn w' (fun k => w.heap.size ≤ k) (.slice A n c) l)) ∧ Below W.heap.size W w') := fun W hW => by
    have hc := Jcopied_any (hPt.below hW) (by omega) h64
    rw [hl, ← hne] at hc
    refine hc.mono ?_
    rintro e w' ⟨⟨r, rfl, HR⟩, hb⟩
    have hp := HR.out.partsOn (Nat.le_refl _)
    obtain ⟨A, c, rfl⟩ := hp.form
    rw [hl, ← hne] at hp ⊢
    exact ⟨⟨A, c, rfl, hp.imp fun k hk _ => Nat.le_trans hW.size hk⟩, hb⟩
  have HNt : Hid (∀ W, Below w.heap.size w W → Calls Tryz.prog 50 #[.agg ks.toArray, IV n] W fun e w' => ∃ T F, e = .returned (PT T) ∧ Mr.T9 w' F T mk (List.replicate n Mr.Mk.zero) (List.replicate n false) 0 ∧ (∀ k, F k → W.heap.size ≤ k) ∧ Below W.heap.size W w') :=
    fun W hW => JnoTags_any ek mk ks h.keys n (by omega) (by omega) W (hT.below hW)
  have HEnd : Hid (∀ (W : World) (C T2 : Nat) (FT2 : Nat → Prop) (Ac : Option Addr) (cc N1 : Nat), Row W C 117 (cmC P n RG Ac cc T2) → Mr.T9 W FT2 T2 mk (List.replicate n Mr.Mk.zero) (List.replicate n false) 0 →
      PartsOn W (fun k => w.heap.size ≤ k ∧ k < N1) (.slice Ac n cc) l → (∀ k, FT2 k → N1 ≤ k) → (∀ k, FT2 k → k < C) → N1 ≤ C → w.heap.size ≤ N1 → Below w.heap.size w W →
      ∃ F', BL (W.setCell ⟨P, 84, none⟩ (wrV C)) F' P d ek mk { s with L := l, at_ := 0, next := [] } ∧ (∀ k, F' k → F k ∨ w.heap.size ≤ k) ∧ Chg (fun k _ => F k) w (W.setCell ⟨P, 84, none⟩ (wrV C))) := fun W C T2 FT2 Ac cc N1 hR hTr hPW hF1 hF2 hNC hwN hB => by
    have hP := hFl P hFP
    have hHW := h.below hB
    have hsm := (headP_some hHW.at_).2.1
    have hc1 : Chg (fun k _ => k = P) W (W.setCell ⟨P, 84, none⟩ (wrV C)) := (Chg.refl _ W).setCell (p := ⟨P, 84, none⟩) rfl (fun _ => rfl) hsm _
    have hCl := hR.lt
    refine ⟨fun k => F k ∨ (w.heap.size ≤ k ∧ k < W.heap.size), ⟨ks, T, FT, wrV C, S, V, ?_, .inl hFP, fun k hk => .inl (hFT k hk), fun k hk => ?_, .inr ⟨C, T2, FT2, fun k => w.heap.size ≤ k ∧ k < N1, List.replicate 32 0, .slice Ac n cc, List.replicate n false, ?_, ?_, fun hk => by have := hFl C (hFT C hk); omega, fun k h1 h2 => by have := hFl k (hFT k h2); have := hF1 k h1; omega, .inr ⟨by omega, hCl⟩, fun k hk => .inr ⟨by have := hF1 k hk; omega, by have := hF2 k hk; omega⟩, fun k hk => .inr ⟨hk.1, by omega⟩⟩⟩, fun k hk => hk.imp id fun h => h.1, ?_⟩
    · exact ⟨hHW.at_.next hkl h.r32 _, h.keys, Mr.treeAll.stay hHW.tree hc1 fun k _ hk e => h.PF (e ▸ hk), h.tl, h.n8, h.r32, h.b1, h.PF⟩
    · rw [show (W.setCell ⟨P, 84, none⟩ (wrV C)).heap.size = W.heap.size by simp [World.setCell]]
      rcases hk with hk | hk
      · exact Nat.lt_of_lt_of_le (hFl k hk) hB.size
      · exact hk.2
    · have hat : CommP W C P ep1 bk1 (List.replicate 32 0) (.slice Ac n cc) 0 T2 := commP_of (show Here W C 0 (commB P ep1 bk1 (List.replicate 32 0) (.slice Ac n cc) 0 T2) from by have := hR.here; rw [cmC, HRG.out] at this; exact this) List.length_replicate
      have hat2 := hat.chg hc1 fun o e => by omega
      refine ⟨?_, List.length_replicate, ?_, hPW.chg hc1 fun k _ hk e => by omega, hl, h64, Nat.zero_le _, (Nat.zero_min _).symm, fun hk => by have := hF2 C hk; omega, fun hk => by have := hF1 P hk; omega, fun k hk h2 => by have := hF1 k h2; omega, fun hk => by omega, fun hk => by omega, by omega⟩
      · show CommP _ C P (s.ep + 1) (1 - s.bank) _ _ (min 0 s.n) T2
        rw [Nat.zero_min, ← hepe, ← hbke, ← hep1, ← hbk1]
        exact hat2
      · show Mr.T9 _ FT2 T2 mk ([] ++ List.replicate (s.n - 0) Mr.Mk.zero) _ 0
        rw [List.nil_append, Nat.sub_zero, ← hne]
        exact Mr.treeAll.stay hTr hc1 fun k _ hk e => by have := hF1 k hk; omega
    · show wrV C = nextV _ C
      unfold nextV
      rw [if_pos (show 0 < s.n by omega)]
    · exact (Chg.below hB _).then (hc1.mono fun k _ _ e => e ▸ hFP)
  have Hm1 : Hid (IntKind.u64.wrap ((ep : Int) + 1) = (ep1 : Int)) := by
    show _ = _
    rw [hep1, show (ep : Int) + 1 = ((ep + 1 : Nat) : Int) by simp]
    show ((ep + 1 : Nat) : Int) % (2 ^ 64) = _
    omega
  have Hm2 : Hid (IntKind.i64.wrap (1 - (bank : Int)) = (bk1 : Int)) := by show _ = _; rw [IntWalk.i64_in _ (by omega), hbk1]; omega
  have hi1 : (Tryz.prog.info? 29).map (·.size) = some ks.length := by rw [hkl]; kernel_rfl
  have Hn0 : Hid (((n : Int) == 0) = false) := beq_false_of_ne (by omega)
  have HNe := Lib.hid hne
  rw [hl, ← hne]
  clear h hPt hep hT hl h64 hn100 h8 hb1 hkl hepe hbke hne hep1 hbk1 hFP hFT hFl
  go_enter Tryz.func16, Tryz.ntmps16
  go_wp2_with fail
  refine HBu.out.mono ?_
  rintro e w1 ⟨rfl, hw⟩
  rw [hw]
  clear hw w1
  go_wp2_with fail
  refine HSz0.out.mono ?_
  rintro e w1 ⟨rfl, hb1⟩
  have HB1 := Lib.hid hb1
  have h0 := Hn0.out
  clear hb1 HBu HSz0
  go_wp2_with fail
  refine (HSz.out _ HB1.out).mono ?_
  rintro e w2 ⟨rfl, hb2⟩
  have HB2 := Lib.hid (HB1.out.trans (hb2.mono HB1.out.size))
  clear hb2 HB1
  go_wp2_with fail
  refine (HWh.out _ HB2.out).mono ?_
  rintro e w3 ⟨rfl, hb3⟩
  have HB3 := Lib.hid (HB2.out.trans (hb3.mono HB2.out.size))
  clear hb3 HB2 HWh h0 Hn0
  have up : Hid (∀ W, Below w3.heap.size w3 W → Below w.heap.size w W) := fun W hW => HB3.out.trans (hW.mono HB3.out.size)
  replace HKeep := Lib.hid (fun W (hW : Below w3.heap.size w3 W) => HKeep.out W (up.out W hW))
  replace HNx := Lib.hid (fun W (hW : Below w3.heap.size w3 W) => HNx.out W (up.out W hW))
  replace HSz := Lib.hid (fun W (hW : Below w3.heap.size w3 W) => HSz.out W (up.out W hW))
  replace HCp := Lib.hid (fun W (hW : Below w3.heap.size w3 W) => HCp.out W (up.out W hW))
  replace HNt := Lib.hid (fun W (hW : Below w3.heap.size w3 W) => HNt.out W (up.out W hW))
  clear HB3
  go_wp2_with fail
  have hC : Below w3.heap.size w3 w3.drew := below_drewN (Below.refl _ _) 1
  refine wp_region_held_drew (S := (fun W => W.cell? ⟨P, 49, none⟩ = some (.int .u64 (ep : Int)) ∧ W.cell? ⟨P, 50, none⟩ = some (IV bank) ∧ W.rangeAt P 1 ks)) (by kernel_rfl) (HKeep.out _ hC) (fun hHeld => ?_)
  generalize w3.drew = w3d at *
  refine wpAnyH_take (i := 0) (oi := ⟨some 18, _, _, _, _, _⟩) (v := ?_) rfl (by kernel_rfl) (by kernel_rfl) (by kernel_rfl) (fun _ _ _ h => h) (Or.inl ⟨by rfl, ?_⟩) hHeld ?_
  rotate_left
  · intro w hSw
    go_simp
    with_reducible rfl
  try go_frame
  refine wpAnyH_take (i := 1) (oi := ⟨some 19, _, _, _, _, _⟩) (v := ?_) rfl (by kernel_rfl) (by kernel_rfl) (by kernel_rfl) (fun _ _ _ h => h) (Or.inl ⟨by rfl, ?_⟩) hHeld ?_
  rotate_left
  · intro w hSw
    go_simp
    with_reducible rfl
  try go_frame
  refine wpAnyH_take (i := 2) (oi := ⟨some 20, _, _, _, _, _⟩) (v := ?_) rfl (by kernel_rfl) (by kernel_rfl) (by kernel_rfl) (fun _ _ _ h => h) (Or.inl ⟨by rfl, ?_⟩) hHeld ?_
  rotate_left
  · intro w hSw
    go_simp
    with_reducible rfl
  try go_frame
  refine wpAnyH_take (i := 3) (oi := ⟨some 21, _, _, _, _, _⟩) (v := ?_) rfl (by kernel_rfl) (by kernel_rfl) (by kernel_rfl) (fun _ _ _ h => h) (Or.inl ⟨by rfl, ?_⟩) hHeld ?_
  rotate_left
  · intro w hSw
    go_simp
    with_reducible rfl
  try go_frame
  refine wpAnyH_take (i := 4) (oi := ⟨some 22, _, _, _, _, _⟩) (v := ?_) rfl (by kernel_rfl) (by kernel_rfl) (by kernel_rfl) (fun _ _ _ h => h) (Or.inl ⟨by rfl, ?_⟩) hHeld ?_
  rotate_left
  · intro w hSw
    go_simp
    with_reducible rfl
  try go_frame
  refine wpAnyH_take (i := 5) (oi := ⟨some 23, _, _, _, _, _⟩) (v := ?_) rfl (by kernel_rfl) (by kernel_rfl) (by kernel_rfl) (fun _ _ _ h => h) (Or.inl ⟨by rfl, ?_⟩) hHeld ?_
  rotate_left
  · intro w hSw
    have hc := hSw.1
    go_simp
    with_reducible rfl
  try go_frame
  refine wpAnyH_take (i := 6) (oi := ⟨some 24, _, _, _, _, _⟩) (v := ?_) rfl (by kernel_rfl) (by kernel_rfl) (by kernel_rfl) (fun _ _ _ h => h) (Or.inl ⟨by rfl, ?_⟩) hHeld ?_
  rotate_left
  · intro w hSw
    have hm := Hm1.out
    go_simp
    with_reducible rfl
  try go_frame
  refine wpAnyH_take (i := 7) (oi := ⟨some 25, _, _, _, _, _⟩) (v := ?_) rfl (by kernel_rfl) (by kernel_rfl) (by kernel_rfl) (fun _ _ _ h => h) (Or.inl ⟨by rfl, ?_⟩) hHeld ?_
  rotate_left
  · intro w hSw
    go_simp
    with_reducible rfl
  try go_frame
  refine wpAnyH_take (i := 8) (oi := ⟨some 26, _, _, _, _, _⟩) (v := ?_) rfl (by kernel_rfl) (by kernel_rfl) (by kernel_rfl) (fun _ _ _ h => h) (Or.inl ⟨by rfl, ?_⟩) hHeld ?_
  rotate_left
  · intro w hSw
    go_simp
    with_reducible rfl
  try go_frame
  refine wpAnyH_take (i := 9) (oi := ⟨some 27, _, _, _, _, _⟩) (v := ?_) rfl (by kernel_rfl) (by kernel_rfl) (by kernel_rfl) (fun _ _ _ h => h) (Or.inl ⟨by rfl, ?_⟩) hHeld ?_
  rotate_left
  · intro w hSw
    go_simp
    with_reducible rfl
  try go_frame
  refine wpAnyH_take (i := 10) (oi := ⟨some 28, _, _, _, _, _⟩) (v := ?_) rfl (by kernel_rfl) (by kernel_rfl) (by kernel_rfl) (fun _ _ _ h => h) (Or.inl ⟨by rfl, ?_⟩) hHeld ?_
  rotate_left
  · intro w hSw
    go_simp
    with_reducible rfl
  try go_frame
  refine wpAnyH_take (i := 11) (oi := ⟨some 29, _, _, _, _, _⟩) (v := ?_) rfl (by kernel_rfl) (by kernel_rfl) (by kernel_rfl) (fun _ _ _ h => h) (Or.inl ⟨by rfl, ?_⟩) hHeld ?_
  rotate_left
  · intro w hSw
    have hc := hSw.2.1
    go_simp
    with_reducible rfl
  try go_frame
  refine wpAnyH_take (i := 12) (oi := ⟨some 30, _, _, _, _, _⟩) (v := ?_) rfl (by kernel_rfl) (by kernel_rfl) (by kernel_rfl) (fun _ _ _ h => h) (Or.inl ⟨by rfl, ?_⟩) hHeld ?_
  rotate_left
  · intro w hSw
    have hm := Hm2.out
    go_simp
    with_reducible rfl
  try go_frame
  refine wpAnyH_take (i := 13) (oi := ⟨some 31, _, _, _, _, _⟩) (v := .agg (RG).toArray) rfl (by kernel_rfl) (by kernel_rfl) (by kernel_rfl) (fun _ _ _ h => h) (yieldsIf_buildN (by rfl) 41 [(0, .tmp 24), (1, .tmp 30)] rfl [(0, .int .u64 (ep1 : Int)), (1, .int .i64 (bk1 : Int))] (by rfl) _ (HRG.out ▸ regOf ep1 bk1)) hHeld ?_
  try go_frame
  refine wpAnyH_take (i := 14) (oi := ⟨some 32, _, _, _, _, _⟩) (v := ?_) rfl (by kernel_rfl) (by kernel_rfl) (by kernel_rfl) (fun _ _ _ h => h) (Or.inl ⟨by rfl, ?_⟩) hHeld ?_
  rotate_left
  · intro w hSw
    go_simp
    with_reducible rfl
  try go_frame
  refine wpAnyH_take (i := 16) (oi := ⟨some 34, _, _, _, _, _⟩) (v := ?_) rfl (by kernel_rfl) (by kernel_rfl) (by kernel_rfl) (fun _ _ _ h => h) (Or.inl ⟨by rfl, ?_⟩) hHeld ?_
  rotate_left
  · intro w hSw
    go_simp
    with_reducible rfl
  try go_frame
  refine wpAnyH_take (i := 17) (oi := ⟨some 35, _, _, _, _, _⟩) (v := ?_) rfl (by kernel_rfl) (by kernel_rfl) (by kernel_rfl) (fun _ _ _ h => h) (Or.inl ⟨by rfl, ?_⟩) hHeld ?_
  rotate_left
  · intro w hSw
    go_simp
    with_reducible rfl
  try go_frame
  refine wpAnyH_take (i := 18) (oi := ⟨some 36, _, _, _, _, _⟩) (v := ?_) rfl (by kernel_rfl) (by kernel_rfl) (by kernel_rfl) (fun _ _ _ h => h) (Or.inl ⟨by rfl, ?_⟩) hHeld ?_
  rotate_left
  · intro w hSw
    go_simp
    with_reducible rfl
  try go_frame
  refine wpAnyH_take (i := 19) (oi := ⟨some 37, _, _, _, _, _⟩) (v := .agg (ks).toArray) rfl (by kernel_rfl) (by kernel_rfl) (by kernel_rfl) (fun _ _ _ h => h) (yieldsIf_load_mid (by rfl) 29 (.tmp 36) rfl (P) 1 rfl (ks) _ (fun W h => h.2.2) Tryz.underlying29 rfl hi1) hHeld ?_
  try go_frame
  refine wpAnyH_take (i := 20) (oi := ⟨some 38, _, _, _, _, _⟩) (v := ?_) rfl (by kernel_rfl) (by kernel_rfl) (by kernel_rfl) (fun _ _ _ h => h) (Or.inl ⟨by rfl, ?_⟩) hHeld ?_
  rotate_left
  · intro w hSw
    go_simp
    with_reducible rfl
  try go_frame
  refine wpAnyH_ready (rs := [15]) (by kernel_rfl) (by simp) ?_
  refine AllReadyH.cons (o := ⟨some 33, _, _, _, _, _⟩) rfl (fun K hK => ?_) AllReadyH.nil
  go_simp
  go_at_call 49
  refine (HCp.out w3d hC).mono ?_
  rintro e w3d_cp ⟨⟨Ac, cc, rfl, hPt⟩, hb⟩
  have F_pt : Hid (PartsOn w3d_cp (fun k => w.heap.size ≤ k ∧ k < w3d_cp.heap.size) (.slice Ac n cc) l) := hPt.out.imp fun k h1 h2 => ⟨h1, h2⟩
  replace hC := hC.trans (hb.mono hC.size)
  refine hK.out _ _ (HKeep.out _ hC) (fun hHeld => ?_)
  clear hK K hb 
  have HN1 : Hid (w.heap.size ≤ w3d_cp.heap.size) := (up.out _ hC).size
  clear hPt
  try go_frame
  refine wpAnyH_ready (rs := [21]) (by kernel_rfl) (by simp) ?_
  refine AllReadyH.cons (o := ⟨some 39, _, _, _, _, _⟩) rfl (fun K hK => ?_) AllReadyH.nil
  go_simp
  go_at_call 47
  refine (HSz.out w3d_cp hC).mono ?_
  rintro e w3d_cp_sz ⟨rfl, hb⟩
  have HN2 : Hid (w3d_cp.heap.size ≤ w3d_cp_sz.heap.size) := hb.size
  replace hC := hC.trans (hb.mono hC.size)
  replace F_pt := Lib.hid (F_pt.out.below hb)
  refine hK.out _ _ (HKeep.out _ hC) (fun hHeld => ?_)
  clear hK K hb 
  try go_frame
  refine wpAnyH_ready (rs := [22]) (by kernel_rfl) (by simp) ?_
  refine AllReadyH.cons (o := ⟨some 40, _, _, _, _, _⟩) rfl (fun K hK => ?_) AllReadyH.nil
  go_simp
  go_at_call 50
  refine (HNt.out w3d_cp_sz hC).mono ?_
  rintro e w3d_cp_sz_nt ⟨T2, FT2, rfl, hT, hFT, hb⟩
  have F_T : Hid (Mr.T9 w3d_cp_sz_nt FT2 T2 mk (List.replicate n Mr.Mk.zero) (List.replicate n false) 0) := hT
  have hFT0 : Hid (∀ k, FT2 k → w3d_cp.heap.size ≤ k) := fun k hk => Nat.le_trans HN2.out (hFT k hk)
  have HN3 : Hid (w3d_cp.heap.size ≤ w3d_cp_sz_nt.heap.size) := Nat.le_trans HN2.out hb.size
  replace hC := hC.trans (hb.mono hC.size)
  replace F_pt := Lib.hid (F_pt.out.below hb)
  refine hK.out _ _ (HKeep.out _ hC) (fun hHeld => ?_)
  clear hK K hb 
  clear hT hFT
  try go_frame
  refine wpAnyH_take (i := 23) (oi := ⟨some 41, _, _, _, _, _⟩) (v := .agg (cmC P n RG Ac cc T2).toArray) rfl (by kernel_rfl) (by kernel_rfl) (by kernel_rfl) (fun _ _ _ h => h) (yieldsIf_buildN (by rfl) 117 [(0, .tmp 18), (1, .tmp 31), (2, .tmp 33), (4, .tmp 40)] rfl [(0, PT P), (1, .agg (RG).toArray), (2, .slice Ac n cc), (4, PT T2)] (by rfl) _ (cmC_built P T2 n cc RG Ac HRl.out)) hHeld ?_
  try go_frame
  refine wpAnyH_ready (rs := [24]) (by kernel_rfl) (by simp) ?_
  refine AllReadyH.cons (o := ⟨some 42, _, _, _, _, _⟩) rfl (fun K hK => ?_) AllReadyH.nil
  go_simp
  have hb : Below w3d_cp_sz_nt.heap.size w3d_cp_sz_nt (w3d_cp_sz_nt.alloc (.cells (cmC P n RG Ac cc T2).toArray 117)) := Joins.below_alloc1 _ _
  have hg_bk := hC.size
  obtain ⟨g_bk, Hg_bk⟩ : ∃ g, Hid (g = w3d_cp_sz_nt.heap.size) := ⟨_, rfl⟩
  have R_bk : Hid (Row (w3d_cp_sz_nt.alloc (.cells (cmC P n RG Ac cc T2).toArray 117)) w3d_cp_sz_nt.heap.size 117 (cmC P n RG Ac cc T2)) := Row.new w3d_cp_sz_nt 117 _
  have F_TP : Hid (∀ k, FT2 k → k < w3d_cp_sz_nt.heap.size) := Mr.treeAll.lt F_T.out
  have F_N : Hid (w3d_cp.heap.size ≤ w3d_cp_sz_nt.heap.size) := HN3.out
  replace hC := hC.trans (hb.mono hC.size)
  replace F_pt := Lib.hid (F_pt.out.below hb)
  replace F_T := Lib.hid (Mr.treeAll.stay F_T.out (Chg.below hb fun _ _ => False) fun _ _ _ x => x)
  refine hK.out _ _ (HKeep.out _ hC) (fun hHeld => ?_)
  clear hK K hb
  generalize (w3d_cp_sz_nt.alloc (.cells (cmC P n RG Ac cc T2).toArray 117)) = w3d_cp_sz_nt_bk at *
  rw [← Hg_bk.out] at hg_bk ⊢
  rw [← Hg_bk.out] at R_bk
  rw [← Hg_bk.out] at F_TP
  rw [← Hg_bk.out] at F_N
  clear Hg_bk
  try go_frame
  refine wpAnyH_take (i := 25) (oi := ⟨some 5, _, _, _, _, _⟩) (v := ?_) rfl (by kernel_rfl) (by kernel_rfl) (by kernel_rfl) (fun _ _ _ h => h) (Or.inl ⟨by rfl, ?_⟩) hHeld ?_
  rotate_left
  · intro w hSw
    go_simp
    with_reducible rfl
  try go_frame
  refine wpAnyH_done (by kernel_rfl) ?_ _
  clear HKeep hHeld HCp HSz HNt
  have HE := Lib.hid (HEnd.out _ g_bk T2 FT2 Ac cc w3d_cp.heap.size R_bk.out F_T.out F_pt.out hFT0.out F_TP.out F_N.out HN1.out (up.out _ hC))
  obtain ⟨hc84, hf84⟩ := HNx.out _ hC
  clear hC HEnd HNx
  go_wp2
  go_ret
  have HE2 := HE.out
  rw [← HNe.out] at HE2
  exact ⟨rfl, HE2⟩
end Go.Proofs.YthbmknpbcgnabaaGreatDoor
namespace Go.Proofs.YthbmknpbcgnabaaGreatDoor
open Go.RowKit Aes Ctr Sl Dsk
theorem Jbegin_busy {w : World} {P : Nat} {v : Value} {A : Option Addr} {n cv : Nat} (hv : v = .slice A n cv) (hB : Calls Tryz.prog 29 #[PT P] w fun e w' => e = .returned (.bool true) ∧ Below w.heap.size w w') :
    Calls Tryz.prog 16 #[PT P, v] w fun e w' => e = .returned (.int .i64 12) ∧ Below w.heap.size w w' := by
  subst hv
  have HB := Lib.hid hB
  clear hB
  go_enter Tryz.func16, Tryz.ntmps16
  go_wp2_with fail
  refine HB.out.mono ?_
  rintro e w' ⟨rfl, hb⟩
  go_wp2
  go_ret
  exact ⟨rfl, hb⟩
set_option maxRecDepth 100000 in
set_option maxHeartbeats 1000000 in
theorem Jbegin_bad {w : World} {P n m cv : Nat} {A : Option Addr} (hn : 0 < n) (hn2 : n ≤ 1000) (hB : Calls Tryz.prog 29 #[PT P] w fun e w' => e = .returned (.bool false) ∧ Below w.heap.size w w')
    (hS : ∀ W, Below w.heap.size w W → Calls Tryz.prog 47 #[PT P] W fun e w' => e = .returned (IV n) ∧ Below W.heap.size W w')
    (hW : ∀ W, Below w.heap.size w W → Calls Tryz.prog 48 #[.slice A m cv, IV n] W fun e w' => e = .returned (.bool false) ∧ Below W.heap.size W w') :
    Calls Tryz.prog 16 #[PT P, .slice A m cv] w fun e w' => e = .returned (.int .i64 1) ∧ Below w.heap.size w w' := by
  have HB := Lib.hid hB
  have HS := Lib.hid hS
  have HW := Lib.hid hW
  have Hn0 : Hid (((n : Int) == 0) = false) := beq_false_of_ne (by omega)
  clear hB hS hW hn hn2
  go_enter Tryz.func16, Tryz.ntmps16
  go_wp2_with fail
  refine HB.out.mono ?_
  rintro e w1 ⟨rfl, hb1⟩
  have HB1 := Lib.hid hb1
  clear hb1 HB
  go_wp2_with fail
  refine (HS.out _ HB1.out).mono ?_
  rintro e w2 ⟨rfl, hb2⟩
  have HB2 := Lib.hid (HB1.out.trans (hb2.mono HB1.out.size))
  have h0 := Hn0.out
  clear hb2 HB1 Hn0
  go_wp2_with fail
  refine (HS.out _ HB2.out).mono ?_
  rintro e w3 ⟨rfl, hb3⟩
  have HB3 := Lib.hid (HB2.out.trans (hb3.mono HB2.out.size))
  clear hb3 HB2 HS
  go_wp2_with fail
  refine (HW.out _ HB3.out).mono ?_
  rintro e w4 ⟨rfl, hb4⟩
  have HB4 := Lib.hid (HB3.out.trans (hb4.mono HB3.out.size))
  clear hb4 HB3 HW h0
  go_wp2
  go_ret
  exact ⟨rfl, HB4.out⟩
theorem Jbegin_any {w : World} {F : Nat → Prop} {P d : Nat} {ek mk : List UInt8} {s : Bk.Bn} (h : BL w F P d ek mk s) (K : Nat → Prop) (v : Value) (l : List (List UInt8)) (hP : PartsOn w K v l) (hep : s.ep ≤ 1000000) (hT : Hm.Tab w) (hl : l.length ≤ 1000) :
    Calls Tryz.prog 16 #[PT P, v] w fun e w' => e = .returned (.int .i64 ((Bk.begin_ s l).2 : Int)) ∧ ∃ F', BL w' F' P d ek mk (Bk.begin_ s l).1 ∧ (∀ k, F' k → F k ∨ w.heap.size ≤ k) ∧ Chg (fun k _ => F k) w w' := by
  have same : ∀ w', Below w.heap.size w w' → ∃ F', BL w' F' P d ek mk s ∧ (∀ k, F' k → F k ∨ w.heap.size ≤ k) ∧ Chg (fun k _ => F k) w w' := fun w' hb => ⟨F, h.stay (Chg.below hb fun _ _ => False) fun _ _ _ x => x, fun _ hk => .inl hk, Chg.below hb _⟩
  have hbusy := JBusy_any h
  obtain ⟨A, cv, hv⟩ := hP.form
  by_cases hL : s.L = []
  · rw [decide_eq_false (fun k => k hL)] at hbusy
    have hb2 := h
    obtain ⟨ks, T, FT, nx, S, V, hH, hFP, hFT, hFl, hc⟩ := hb2
    have h8 := hH.n8
    have h100 := hH.n100
    by_cases hw : (∀ x ∈ l, x.length = 64) ∧ l.length = s.n
    · have e : Bk.begin_ s l = ({ s with L := l, at_ := 0, next := [] }, 0) := by unfold Bk.begin_; rw [if_neg (fun k => k hL), if_pos hw]
      rw [e]
      rcases hc with ⟨_, hnx⟩ | ⟨C, T2, FT2, KB, rt, bv, S2, hC, _⟩
      · exact Jbegin_ok hH hnx hFP hFT hFl hP hep hT hw.2 hw.1
      · exact absurd hL (hC.busy h8)
    · have e : Bk.begin_ s l = (s, 1) := by unfold Bk.begin_; rw [if_neg (fun k => k hL), if_neg hw]
      rw [e]
      have hwh : ∀ W, Below w.heap.size w W → Calls Tryz.prog 48 #[.slice A l.length cv, IV s.n] W fun e w' => e = .returned (.bool false) ∧ Below W.heap.size W w' := fun W hW => by
        have := Jwhole_any (hP.below hW) hl s.n
        rw [decide_eq_false (fun k => hw ⟨k.2, k.1⟩), hv] at this
        exact this
      rw [hv]
      refine (Jbegin_bad (by omega) (by omega) hbusy (fun W hW => Jsize_any (hH.below hW)) hwh).mono ?_
      rintro e w' ⟨rfl, hb⟩
      exact ⟨rfl, same w' hb⟩
  · have e : Bk.begin_ s l = (s, 12) := by unfold Bk.begin_; rw [if_pos hL]
    rw [decide_eq_true hL] at hbusy
    rw [e]
    refine (Jbegin_busy hv hbusy).mono ?_
    rintro e w' ⟨rfl, hb⟩
    exact ⟨rfl, same w' hb⟩
end Go.Proofs.YthbmknpbcgnabaaGreatDoor
