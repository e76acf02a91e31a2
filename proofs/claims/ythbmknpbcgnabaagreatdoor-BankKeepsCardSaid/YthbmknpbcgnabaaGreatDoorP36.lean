/-
  OF THE WALK: VN.
-/
import Derived.Test.YthbmknpbcgnabaaGreatDoorP35
namespace Go.Proofs.YthbmknpbcgnabaaGreatDoor
open Go.RowKit Aes Ctr Sl Dsk
theorem DiskAt.lt {w : World} {F : Nat → Prop} {D : Nat} {L : List Blk} (h : DiskAt w F D L) : ∀ k, F k → k < w.heap.size := by
  obtain ⟨g, ps, h⟩ := h
  exact h.lt
theorem arg_lt {w : World} {g o n c : Nat} {bs : List UInt8} (h : Arg w (.slice (some ⟨g, o, none⟩) n c) bs) (hp : 0 < bs.length) : g < w.heap.size := by
  rcases h with ⟨A, e, hn⟩ | ⟨b, o', c', e, hb, _⟩
  · rw [hn] at hp; simp at hp
  · injection e with e1 _ _
    injection e1 with e1
    injection e1 with e1 _ _
    rw [e1]; exact hb
theorem nmN (i : Nat) (h : i < 2 ^ 32) : nm (i : Int) = i := by unfold nm; omega
structure Under (w : World) (P d : Nat) (ek mk : List UInt8) (s : Bk.Bn) (ks : List Value) (T : Nat) (FT : Nat → Prop) (nx : Value) (S : List Bool) (V : Nat) (C T2 : Nat) (FT2 KB G : Nat → Prop) (rt : List UInt8) (bv : Value) (S2 : List Bool) (D : List Blk) : Prop where
  head : HeadL w P d ek mk s ks T FT nx S V
  com : ComL w P mk s C T2 FT2 KB rt bv S2
  disk : DiskAt w G d D
  dl : D.length = 2 * s.n
  FC : ¬ FT C
  F2 : ∀ k, FT2 k → ¬ FT k
  GP : ¬ G P
  GC : ¬ G C
  GF : ∀ k, FT k → ¬ G k
  G2 : ∀ k, FT2 k → ¬ G k
  GK : ∀ k, KB k → ¬ G k
  KL : ∀ k, KB k → k < w.heap.size
theorem Under.below {w w' : World} {P d : Nat} {ek mk : List UInt8} {s : Bk.Bn} {ks : List Value} {T : Nat} {FT : Nat → Prop} {nx : Value} {S : List Bool} {V : Nat} {C T2 : Nat} {FT2 KB G : Nat → Prop} {rt : List UInt8} {bv : Value} {S2 : List Bool} {D : List Blk}
    (h : Under w P d ek mk s ks T FT nx S V C T2 FT2 KB G rt bv S2 D) (hb : Below w.heap.size w w') : Under w' P d ek mk s ks T FT nx S V C T2 FT2 KB G rt bv S2 D :=
  ⟨h.head.below hb, h.com.below hb, h.disk.below hb, h.dl, h.FC, h.F2, h.GP, h.GC, h.GF, h.G2, h.GK, fun k hk => Nat.lt_of_lt_of_le (h.KL k hk) hb.size⟩
theorem Under.drewn {w : World} {P d : Nat} {ek mk : List UInt8} {s : Bk.Bn} {ks : List Value} {T : Nat} {FT : Nat → Prop} {nx : Value} {S : List Bool} {V : Nat} {C T2 : Nat} {FT2 KB G : Nat → Prop} {rt : List UInt8} {bv : Value} {S2 : List Bool} {D : List Blk}
    (h : Under w P d ek mk s ks T FT nx S V C T2 FT2 KB G rt bv S2 D) (n : Nat) : Under (w.drewN n) P d ek mk s ks T FT nx S V C T2 FT2 KB G rt bv S2 D := h.below (below_drewN (Below.refl _ _) n)
set_option maxRecDepth 100000 in
set_option maxHeartbeats 4000000 in
theorem Jwrite_any {w : World} {P d : Nat} {ek mk : List UInt8} {s : Bk.Bn} {ks : List Value} {T : Nat} {FT : Nat → Prop} {nx : Value} {S : List Bool} {V : Nat} {C T2 : Nat} {FT2 KB G : Nat → Prop} {rt : List UInt8} {bv : Value} {S2 : List Bool} {D : List Blk}
    (h : Under w P d ek mk s ks T FT nx S V C T2 FT2 KB G rt bv S2 D) (ha : s.at_ < s.n) (hep : s.ep ≤ 1000000) (hT : Hm.Tab w) :
    Calls Tryz.prog 51 #[PT C] w fun e w' => e = .returned (nextV (Bk.step ek mk s D).1.1 C) ∧ ∃ FT2' G' S2', Under w' P d ek mk (Bk.step ek mk s D).1.1 ks T FT nx S V C T2 FT2' KB G' rt bv S2' (Bk.step ek mk s D).1.2 ∧ (∀ k, FT2' k → FT2 k ∨ w.heap.size ≤ k) ∧ (∀ k, G' k → G k ∨ w.heap.size ≤ k) ∧ Chg (fun k _ => k = C ∨ FT2 k ∨ G k) w w' := by
  have hn100 := h.head.n100
  have h8 := h.head.n8
  have hb1 := h.head.b1
  have hkl := h.head.kl
  have hL : s.L ≠ [] := h.com.busy h8
  have hst : Bk.step ek mk s D = (({ s with at_ := s.at_ + 1, next := s.next ++ [(Bk.put ek mk s.n (1 - s.bank) s.at_ (s.ep + 1) (s.L.getD s.at_ []) D).2] }, (Bk.put ek mk s.n (1 - s.bank) s.at_ (s.ep + 1) (s.L.getD s.at_ []) D).1), false, 0) := by rw [Bk.step, if_neg hL, if_pos ha]
  rw [hst]
  clear hst
  obtain ⟨Ab, cv, hbv⟩ := h.com.parts.form
  rw [h.com.len] at hbv
  obtain ⟨bb, ob, hAb, hbl, hKb, hcell⟩ := (hbv ▸ h.com.parts : PartsOn w KB (.slice Ab s.n cv) s.L).at_ h.com.len (by omega)
  obtain ⟨A1, c1, hc1, harg1⟩ := hcell s.at_ ha
  have hp64 : (s.L.getD s.at_ []).length = 64 := h.com.l64 _ (by rw [List.getD_eq_getElem?_getD, List.getElem?_eq_getElem (by rw [h.com.len]; exact ha)]; exact List.getElem_mem _)
  rw [hp64] at hc1 harg1
  rw [hAb] at hbv
  obtain ⟨pl, hpl⟩ : ∃ x, x = s.L.getD s.at_ [] := ⟨_, rfl⟩
  rw [← hpl] at hp64 harg1 ⊢
  obtain ⟨n, hn⟩ : ∃ x, x = s.n := ⟨_, rfl⟩
  obtain ⟨i, hi⟩ : ∃ x, x = s.at_ := ⟨_, rfl⟩
  obtain ⟨i1, hi1e⟩ : ∃ x, x = i + 1 := ⟨_, rfl⟩
  obtain ⟨ep1, hep1⟩ : ∃ x, x = s.ep + 1 := ⟨_, rfl⟩
  obtain ⟨bk1, hbk1⟩ : ∃ x, x = 1 - s.bank := ⟨_, rfl⟩
  obtain ⟨k, hk⟩ : ∃ x, x = bk1 * n + i := ⟨_, rfl⟩
  obtain ⟨raw, hraw⟩ : ∃ r, r = rw_ ek i ep1 pl := ⟨_, rfl⟩
  obtain ⟨tag, htag⟩ : ∃ r, r = tg mk i raw := ⟨_, rfl⟩
  have hput : Bk.put ek mk s.n (1 - s.bank) s.at_ (s.ep + 1) pl D = (writeL D (k : Int) raw, tag) := by rw [htag, hraw, hk, hn, hi, hep1, hbk1]; rfl
  rw [hput]
  have hrl : raw.length = 72 := by rw [hraw, rw_length, hp64]
  have hmin : min s.at_ s.n = i := by rw [hi]; omega
  have hcc := h.com.at_.cells
  have HBV := Lib.hid hbv
  have HU := Lib.hid h
  have HS2 : Hid (∀ W, Below w.heap.size w W → W.cell? ⟨C, 0, none⟩ = some (PT P) ∧ W.rangeAt P 1 ks ∧ W.cell? ⟨C, 1, none⟩ = some (.int .u64 (ep1 : Int)) ∧ W.cell? ⟨C, 35, none⟩ = some (.slice (some ⟨bb, ob, none⟩) n cv) ∧ W.cell? ⟨bb, ob + i, none⟩ = some (.slice A1 64 c1)) := fun W hW => by
    have hc := (h.com.below hW).at_.cells
    refine ⟨hc.1, (h.head.below hW).at_.ks.1, by rw [hep1]; exact hc.2.1, by rw [hn, ← hbv]; exact hc.2.2.2.1, ?_⟩
    rw [hi]
    exact (World.cell?_of_block (w := w) (hW.block bb hbl)).trans hc1
  have HCl : Hid (∀ W, Below w.heap.size w W → Calls Tryz.prog 90 #[.agg ks.toArray, IV i, .int .u64 (ep1 : Int), .slice A1 64 c1] W fun e w' => ∃ g cap rs, e = .returned (.tuple #[.slice (some ⟨g, 0, none⟩) 72 cap, .agg (List.toArray rs), .int .i64 0]) ∧ W.heap.size ≤ g ∧ Arg w' (.slice (some ⟨g, 0, none⟩) 72 cap) raw ∧ Hid (Vec 32 tag rs) ∧ Below W.heap.size W w') := fun W hW => by
    have := SClose_ok ek mk ks h.head.keys (i : Int) ep1 (by omega) pl hp64 _ W (hT.below hW) (harg1.arg.below hW)
    rw [nmN i (by omega), ← hraw, ← htag] at this
    refine this.mono ?_
    rintro e w' ⟨g, cap, rs, he, _, hg, hA, hV, hb⟩
    exact ⟨g, cap, rs, he, hg, hA, hV, hb⟩
  have HCT := Lib.hid hcc.2.2.2.2.1
  rw [hmin] at HCT
  have HIn : Hid ((i : Int) < (n : Int)) := by show _ < _; omega
  have HM1 : Hid (IntKind.i64.wrap ((bk1 : Int) * (n : Int)) = ((bk1 * n : Nat) : Int)) := by
    show _ = _
    have : bk1 * n ≤ 100 := Nat.le_trans (Nat.mul_le_mul_right _ (show bk1 ≤ 1 by omega)) (by omega)
    rw [show (bk1 : Int) * (n : Int) = ((bk1 * n : Nat) : Int) by simp, IntWalk.i64_in _ (by omega)]
  have HM2 : Hid (IntKind.i64.wrap (((bk1 * n : Nat) : Int) + (i : Int)) = (k : Int)) := by
    show _ = _
    have : bk1 * n ≤ 100 := Nat.le_trans (Nat.mul_le_mul_right _ (show bk1 ≤ 1 by omega)) (by omega)
    rw [IntWalk.i64_in _ (by omega), hk]; simp
  have HM3 : Hid (IntKind.i64.wrap ((i : Int) + 1) = (i1 : Int)) := by show _ = _; rw [IntWalk.i64_in _ (by omega), hi1e]; simp
  have HI1 := Lib.hid hi1e
  have HRl := Lib.hid hrl
  have hi1 : (Tryz.prog.info? 29).map (·.size) = some ks.length := by rw [hkl]; kernel_rfl
  have HTl : Hid (tag.length = 32) := by show _ = _; rw [htag, tg_length]
  have HNi : Hid (i < n ∧ n ≤ 100) := ⟨by omega, by omega⟩
  have HN := Lib.hid hn
  have HI := Lib.hid hi
  have HE1 := Lib.hid hep1
  have HB1 := Lib.hid hbk1
  have hz := Hm.zeroTag
  generalize bk1 * n = bn at HM1 HM2
  clear h ha hep hT hn100 h8 hb1 hkl hL hbv hAb hbl hKb hcell hc1 harg1 hp64 hpl hn hi hi1e hep1 hbk1 hk hraw htag hput hrl hmin hcc
  go_enter Tryz.func51, Tryz.ntmps51
  have hct := HCT.out
  go_wp2_with fail
  clear hct HCT
  have HKeep := HS2
  have hC : Below w.heap.size w w.drew := below_drewN (Below.refl _ _) 1
  refine wp_region_held_drew (S := (fun W => W.cell? ⟨C, 0, none⟩ = some (PT P) ∧ W.rangeAt P 1 ks ∧ W.cell? ⟨C, 1, none⟩ = some (.int .u64 (ep1 : Int)) ∧ W.cell? ⟨C, 35, none⟩ = some (.slice (some ⟨bb, ob, none⟩) n cv) ∧ W.cell? ⟨bb, ob + i, none⟩ = some (.slice A1 64 c1))) (by kernel_rfl) (HKeep.out _ hC) (fun hHeld => ?_)
  generalize w.drew = wd at *
  refine wpAnyH_take (i := 0) (oi := ⟨some 12, _, _, _, _, _⟩) (v := ?_) rfl (by kernel_rfl) (by kernel_rfl) (by kernel_rfl) (fun _ _ _ h => h) (Or.inl ⟨by rfl, ?_⟩) hHeld ?_
  rotate_left
  · intro w hSw
    go_simp
    with_reducible rfl
  try go_frame
  refine wpAnyH_take (i := 1) (oi := ⟨some 13, _, _, _, _, _⟩) (v := ?_) rfl (by kernel_rfl) (by kernel_rfl) (by kernel_rfl) (fun _ _ _ h => h) (Or.inl ⟨by rfl, ?_⟩) hHeld ?_
  rotate_left
  · intro w hSw
    go_simp
    with_reducible rfl
  try go_frame
  refine wpAnyH_take (i := 2) (oi := ⟨some 14, _, _, _, _, _⟩) (v := ?_) rfl (by kernel_rfl) (by kernel_rfl) (by kernel_rfl) (fun _ _ _ h => h) (Or.inl ⟨by rfl, ?_⟩) hHeld ?_
  rotate_left
  · intro w hSw
    go_simp
    with_reducible rfl
  try go_frame
  refine wpAnyH_take (i := 3) (oi := ⟨some 15, _, _, _, _, _⟩) (v := ?_) rfl (by kernel_rfl) (by kernel_rfl) (by kernel_rfl) (fun _ _ _ h => h) (Or.inl ⟨by rfl, ?_⟩) hHeld ?_
  rotate_left
  · intro w hSw
    have hc := hSw.1
    go_simp
    with_reducible rfl
  try go_frame
  refine wpAnyH_take (i := 4) (oi := ⟨some 16, _, _, _, _, _⟩) (v := ?_) rfl (by kernel_rfl) (by kernel_rfl) (by kernel_rfl) (fun _ _ _ h => h) (Or.inl ⟨by rfl, ?_⟩) hHeld ?_
  rotate_left
  · intro w hSw
    go_simp
    with_reducible rfl
  try go_frame
  refine wpAnyH_take (i := 5) (oi := ⟨some 17, _, _, _, _, _⟩) (v := ?_) rfl (by kernel_rfl) (by kernel_rfl) (by kernel_rfl) (fun _ _ _ h => h) (Or.inl ⟨by rfl, ?_⟩) hHeld ?_
  rotate_left
  · intro w hSw
    go_simp
    with_reducible rfl
  try go_frame
  refine wpAnyH_take (i := 6) (oi := ⟨some 18, _, _, _, _, _⟩) (v := .agg (ks).toArray) rfl (by kernel_rfl) (by kernel_rfl) (by kernel_rfl) (fun _ _ _ h => h) (yieldsIf_load_mid (by rfl) 29 (.tmp 17) rfl (P) 1 rfl (ks) _ (fun W h => h.2.1) Tryz.underlying29 rfl hi1) hHeld ?_
  try go_frame
  refine wpAnyH_take (i := 7) (oi := ⟨some 19, _, _, _, _, _⟩) (v := ?_) rfl (by kernel_rfl) (by kernel_rfl) (by kernel_rfl) (fun _ _ _ h => h) (Or.inl ⟨by rfl, ?_⟩) hHeld ?_
  rotate_left
  · intro w hSw
    go_simp
    with_reducible rfl
  try go_frame
  refine wpAnyH_take (i := 8) (oi := ⟨some 20, _, _, _, _, _⟩) (v := ?_) rfl (by kernel_rfl) (by kernel_rfl) (by kernel_rfl) (fun _ _ _ h => h) (Or.inl ⟨by rfl, ?_⟩) hHeld ?_
  rotate_left
  · intro w hSw
    go_simp
    with_reducible rfl
  try go_frame
  refine wpAnyH_take (i := 9) (oi := ⟨some 21, _, _, _, _, _⟩) (v := ?_) rfl (by kernel_rfl) (by kernel_rfl) (by kernel_rfl) (fun _ _ _ h => h) (Or.inl ⟨by rfl, ?_⟩) hHeld ?_
  rotate_left
  · intro w hSw
    go_simp
    with_reducible rfl
  try go_frame
  refine wpAnyH_take (i := 10) (oi := ⟨some 22, _, _, _, _, _⟩) (v := ?_) rfl (by kernel_rfl) (by kernel_rfl) (by kernel_rfl) (fun _ _ _ h => h) (Or.inl ⟨by rfl, ?_⟩) hHeld ?_
  rotate_left
  · intro w hSw
    go_simp
    with_reducible rfl
  try go_frame
  refine wpAnyH_take (i := 11) (oi := ⟨some 23, _, _, _, _, _⟩) (v := ?_) rfl (by kernel_rfl) (by kernel_rfl) (by kernel_rfl) (fun _ _ _ h => h) (Or.inl ⟨by rfl, ?_⟩) hHeld ?_
  rotate_left
  · intro w hSw
    go_simp
    with_reducible rfl
  try go_frame
  refine wpAnyH_take (i := 12) (oi := ⟨some 24, _, _, _, _, _⟩) (v := ?_) rfl (by kernel_rfl) (by kernel_rfl) (by kernel_rfl) (fun _ _ _ h => h) (Or.inl ⟨by rfl, ?_⟩) hHeld ?_
  rotate_left
  · intro w hSw
    have hc := hSw.2.2.1
    go_simp
    with_reducible rfl
  try go_frame
  refine wpAnyH_take (i := 13) (oi := ⟨some 25, _, _, _, _, _⟩) (v := ?_) rfl (by kernel_rfl) (by kernel_rfl) (by kernel_rfl) (fun _ _ _ h => h) (Or.inl ⟨by rfl, ?_⟩) hHeld ?_
  rotate_left
  · intro w hSw
    go_simp
    with_reducible rfl
  try go_frame
  refine wpAnyH_take (i := 14) (oi := ⟨some 26, _, _, _, _, _⟩) (v := ?_) rfl (by kernel_rfl) (by kernel_rfl) (by kernel_rfl) (fun _ _ _ h => h) (Or.inl ⟨by rfl, ?_⟩) hHeld ?_
  rotate_left
  · intro w hSw
    go_simp
    with_reducible rfl
  try go_frame
  refine wpAnyH_take (i := 15) (oi := ⟨some 27, _, _, _, _, _⟩) (v := ?_) rfl (by kernel_rfl) (by kernel_rfl) (by kernel_rfl) (fun _ _ _ h => h) (Or.inl ⟨by rfl, ?_⟩) hHeld ?_
  rotate_left
  · intro w hSw
    go_simp
    with_reducible rfl
  try go_frame
  refine wpAnyH_take (i := 16) (oi := ⟨some 28, _, _, _, _, _⟩) (v := ?_) rfl (by kernel_rfl) (by kernel_rfl) (by kernel_rfl) (fun _ _ _ h => h) (Or.inl ⟨by rfl, ?_⟩) hHeld ?_
  rotate_left
  · intro w hSw
    have hc := hSw.2.2.2.1
    go_simp
    with_reducible rfl
  try go_frame
  refine wpAnyH_take (i := 17) (oi := ⟨some 29, _, _, _, _, _⟩) (v := ?_) rfl (by kernel_rfl) (by kernel_rfl) (by kernel_rfl) (fun _ _ _ h => h) (Or.inl ⟨by rfl, ?_⟩) hHeld ?_
  rotate_left
  · intro w hSw
    go_simp
    with_reducible rfl
  try go_frame
  refine wpAnyH_take (i := 18) (oi := ⟨some 30, _, _, _, _, _⟩) (v := ?_) rfl (by kernel_rfl) (by kernel_rfl) (by kernel_rfl) (fun _ _ _ h => h) (Or.inl ⟨by rfl, ?_⟩) hHeld ?_
  rotate_left
  · intro w hSw
    have hc := HIn.out
    go_simp
    with_reducible rfl
  try go_frame
  refine wpAnyH_take (i := 19) (oi := ⟨some 31, _, _, _, _, _⟩) (v := ?_) rfl (by kernel_rfl) (by kernel_rfl) (by kernel_rfl) (fun _ _ _ h => h) (Or.inl ⟨by rfl, ?_⟩) hHeld ?_
  rotate_left
  · intro w hSw
    have hc := hSw.2.2.2.2
    go_simp
    with_reducible rfl
  try go_frame
  refine wpAnyH_ready (rs := [20, 25]) (by kernel_rfl) (by simp) ?_
  refine AllReadyH.cons (o := ⟨some 32, _, _, _, _, _⟩) rfl (fun K hK => ?_) ?_
  · skip
    go_simp
    go_at_call 90
    refine (HCl.out wd hC).mono ?_
    rintro e wd_cl ⟨g_cl, cap, rs, rfl, hg_cl, hAr, Hrs, hb⟩
    have F_raw : Hid (Arg wd_cl (.slice (some ⟨g_cl, 0, none⟩) 72 cap) raw) := hAr
    replace hC := hC.trans (hb.mono hC.size)
    refine hK.out _ _ (HKeep.out _ hC) (fun hHeld => ?_)
    clear hK K hb 
    have Hsz : Hid (rs.toArray.size = 32) := Hrs.out.size
    have Hone : Hid (rs.toArray.all (·.oneCell') = true) := Hrs.out.one
    clear hAr
    try go_frame
    refine wpAnyH_take (i := 21) (oi := ⟨some 11, _, _, _, _, _⟩) (v := ?_) rfl (by kernel_rfl) (by kernel_rfl) (by kernel_rfl) (fun _ _ _ h => h) (Or.inl ⟨by rfl, ?_⟩) hHeld ?_
    rotate_left
    · intro w hSw
      go_simp
      with_reducible rfl
    try go_frame
    refine wpAnyH_take (i := 22) (oi := ⟨some 33, _, _, _, _, _⟩) (v := ?_) rfl (by kernel_rfl) (by kernel_rfl) (by kernel_rfl) (fun _ _ _ h => h) (Or.inl ⟨by rfl, ?_⟩) hHeld ?_
    rotate_left
    · intro w hSw
      go_simp
      with_reducible rfl
    try go_frame
    refine wpAnyH_take (i := 23) (oi := ⟨some 34, _, _, _, _, _⟩) (v := ?_) rfl (by kernel_rfl) (by kernel_rfl) (by kernel_rfl) (fun _ _ _ h => h) (Or.inl ⟨by rfl, ?_⟩) hHeld ?_
    rotate_left
    · intro w hSw
      go_simp
      with_reducible rfl
    try go_frame
    refine wpAnyH_take (i := 24) (oi := ⟨some 35, _, _, _, _, _⟩) (v := ?_) rfl (by kernel_rfl) (by kernel_rfl) (by kernel_rfl) (fun _ _ _ h => h) (Or.inl ⟨by rfl, ?_⟩) hHeld ?_
    rotate_left
    · intro w hSw
      go_simp
      with_reducible rfl
    try go_frame
    refine wpAnyH_ready (rs := [25]) (by kernel_rfl) (by simp) ?_
    refine AllReadyH.cons (o := ⟨some 5, _, _, _, _, _⟩) rfl (fun K hK => ?_) AllReadyH.nil
    go_simp
    have hb : Below wd_cl.heap.size wd_cl (wd_cl.alloc (.cells Hm.Z32.toArray 27)) := Joins.below_alloc1 _ _
    have hg_tg := hC.size
    obtain ⟨g_tg, Hg_tg⟩ : ∃ g, Hid (g = wd_cl.heap.size) := ⟨_, rfl⟩
    have R_tg : Hid (Row (wd_cl.alloc (.cells Hm.Z32.toArray 27)) wd_cl.heap.size 27 Hm.Z32) := Row.new wd_cl 27 _
    have HNE : Hid (g_cl ≠ wd_cl.heap.size) := by have := arg_lt F_raw.out (by rw [HRl.out]; omega); show _ ≠ _; omega
    replace hC := hC.trans (hb.mono hC.size)
    replace F_raw := Lib.hid (F_raw.out.below hb)
    refine hK.out _ _ (HKeep.out _ hC) (fun hHeld => ?_)
    clear hK K hb
    generalize (wd_cl.alloc (.cells Hm.Z32.toArray 27)) = wd_cl_tg at *
    rw [← Hg_tg.out] at hg_tg ⊢
    rw [← Hg_tg.out] at R_tg
    rw [← Hg_tg.out] at HNE
    clear Hg_tg
    try go_frame
    refine wpAnyH_take (i := 26) (oi := ⟨some 4, _, _, _, _, _⟩) (v := ?_) rfl (by kernel_rfl) (by kernel_rfl) (by kernel_rfl) (fun _ _ _ h => h) (Or.inl ⟨by rfl, ?_⟩) hHeld ?_
    rotate_left
    · intro w hSw
      go_simp
      with_reducible rfl
    try go_frame
    refine wpAnyH_ready (rs := [27]) (by kernel_rfl) (by simp) ?_
    refine AllReadyH.cons (o := ⟨none, _, _, _, _, _⟩) rfl (fun K hK => ?_) AllReadyH.nil
    rw [if_pos (by rfl)]
    refine Go.wp_store_row 27 (.tmp 5) (.tmp 34) rfl g_tg rs.toArray rfl rfl 27 _ R_tg.out (by rw [Hsz.out]; kernel_rfl) (by rw [Hsz.out]; rfl) Hone.out ?_
    replace R_tg := Lib.hid (R_tg.out.whole rs)
    replace hC := below_setRow' hC (k := g_tg) hg_tg rs.toArray
    replace F_raw := Lib.hid (F_raw.out.off HNE.out rs.toArray)
    refine hK.out _ _ (HKeep.out _ hC) (fun hHeld => ?_)
    clear hK K
    generalize (wd_cl_tg.setRow g_tg rs.toArray) = wd_cl_tg_st at *
    try go_frame
    refine wpAnyH_take (i := 28) (oi := ⟨some 6, _, _, _, _, _⟩) (v := ?_) rfl (by kernel_rfl) (by kernel_rfl) (by kernel_rfl) (fun _ _ _ h => h) (Or.inl ⟨by rfl, ?_⟩) hHeld ?_
    rotate_left
    · intro w hSw
      go_simp
      with_reducible rfl
    try go_frame
    refine wpAnyH_done (by kernel_rfl) ?_ _
    clear hHeld HKeep HNE hz HCl
    have HBw := Lib.hid hC
    have HGT : Hid (¬ G g_tg) := fun hg => by have := HU.out.disk.lt _ hg; omega
    have HT6 : Hid (∀ k, FT2 k → k ≠ g_tg) := fun k hk e => by have := Mr.treeAll.lt HU.out.com.tree k hk; omega
    have HU2 : Hid (Under wd_cl_tg_st P d ek mk s ks T FT nx S V C T2 FT2 KB G rt bv S2 D) := ⟨HU.out.head.below hC, HU.out.com.below hC, HU.out.disk.below hC, HU.out.dl, HU.out.FC, HU.out.F2, HU.out.GP, HU.out.GC, HU.out.GF, HU.out.G2, HU.out.GK, fun k hk => Nat.lt_of_lt_of_le (HU.out.KL k hk) hC.size⟩
    clear hC HU
    generalize wd_cl_tg_st = w5 at *
    go_wp2_with fail
    have HS3 : Hid (∀ W, Chg (fun k _ => G k) w5 W → (fun W => W.cell? ⟨C, 0, none⟩ = some (PT P) ∧ W.cell? ⟨P, 0, none⟩ = some (PT d) ∧ W.cell? ⟨C, 2, none⟩ = some (IV bk1) ∧ W.cell? ⟨C, 35, none⟩ = some (.slice (some ⟨bb, ob, none⟩) n cv)) W) := fun W hW => by
      have hc := (HU2.out.com.chg hW (fun _ => HU2.out.GC) (fun k _ hk => HU2.out.G2 k hk) (fun k _ hk => HU2.out.GK k hk)).at_.cells
      have hp := (HU2.out.head.chg hW (fun _ => HU2.out.GP) (fun k _ hk => HU2.out.GF k hk)).at_.cells
      exact ⟨hc.1, hp.1, by rw [HB1.out]; exact hc.2.2.1, by rw [HN.out, ← HBV.out]; exact hc.2.2.2.1⟩
    have HDr : Hid (Chg (fun k _ => G k) w5 w5.drew) := (Chg.refl _ w5).drew
    have HDk : Hid (DiskAt w5.drew G d D) := HU2.out.disk.below (below_drewN (Below.refl _ _) 1)
    have HAr : Hid (Arg w5.drew (.slice (some ⟨g_cl, 0, none⟩) 72 cap) raw) := F_raw.out.below (below_drewN (Below.refl _ _) 1)
    refine wp_region_held_drew (S := (fun W => W.cell? ⟨C, 0, none⟩ = some (PT P) ∧ W.cell? ⟨P, 0, none⟩ = some (PT d) ∧ W.cell? ⟨C, 2, none⟩ = some (IV bk1) ∧ W.cell? ⟨C, 35, none⟩ = some (.slice (some ⟨bb, ob, none⟩) n cv))) (by kernel_rfl) (HS3.out _ HDr.out) (fun hHeld => ?_)
    generalize w5.drew = w5d at *
    refine wpAnyH_take (i := 0) (oi := ⟨some 36, _, _, _, _, _⟩) (v := ?_) rfl (by kernel_rfl) (by kernel_rfl) (by kernel_rfl) (fun _ _ _ h => h) (Or.inl ⟨by rfl, ?_⟩) hHeld ?_
    rotate_left
    · intro w hSw
      go_simp
      with_reducible rfl
    try go_frame
    refine wpAnyH_take (i := 1) (oi := ⟨some 37, _, _, _, _, _⟩) (v := ?_) rfl (by kernel_rfl) (by kernel_rfl) (by kernel_rfl) (fun _ _ _ h => h) (Or.inl ⟨by rfl, ?_⟩) hHeld ?_
    rotate_left
    · intro w hSw
      go_simp
      with_reducible rfl
    try go_frame
    refine wpAnyH_take (i := 2) (oi := ⟨some 38, _, _, _, _, _⟩) (v := ?_) rfl (by kernel_rfl) (by kernel_rfl) (by kernel_rfl) (fun _ _ _ h => h) (Or.inl ⟨by rfl, ?_⟩) hHeld ?_
    rotate_left
    · intro w hSw
      go_simp
      with_reducible rfl
    try go_frame
    refine wpAnyH_take (i := 3) (oi := ⟨some 39, _, _, _, _, _⟩) (v := ?_) rfl (by kernel_rfl) (by kernel_rfl) (by kernel_rfl) (fun _ _ _ h => h) (Or.inl ⟨by rfl, ?_⟩) hHeld ?_
    rotate_left
    · intro w hSw
      have hc := hSw.1
      go_simp
      with_reducible rfl
    try go_frame
    refine wpAnyH_take (i := 4) (oi := ⟨some 40, _, _, _, _, _⟩) (v := ?_) rfl (by kernel_rfl) (by kernel_rfl) (by kernel_rfl) (fun _ _ _ h => h) (Or.inl ⟨by rfl, ?_⟩) hHeld ?_
    rotate_left
    · intro w hSw
      go_simp
      with_reducible rfl
    try go_frame
    refine wpAnyH_take (i := 5) (oi := ⟨some 41, _, _, _, _, _⟩) (v := ?_) rfl (by kernel_rfl) (by kernel_rfl) (by kernel_rfl) (fun _ _ _ h => h) (Or.inl ⟨by rfl, ?_⟩) hHeld ?_
    rotate_left
    · intro w hSw
      go_simp
      with_reducible rfl
    try go_frame
    refine wpAnyH_take (i := 6) (oi := ⟨some 42, _, _, _, _, _⟩) (v := ?_) rfl (by kernel_rfl) (by kernel_rfl) (by kernel_rfl) (fun _ _ _ h => h) (Or.inl ⟨by rfl, ?_⟩) hHeld ?_
    rotate_left
    · intro w hSw
      have hc := hSw.2.1
      go_simp
      with_reducible rfl
    try go_frame
    refine wpAnyH_take (i := 7) (oi := ⟨some 43, _, _, _, _, _⟩) (v := ?_) rfl (by kernel_rfl) (by kernel_rfl) (by kernel_rfl) (fun _ _ _ h => h) (Or.inl ⟨by rfl, ?_⟩) hHeld ?_
    rotate_left
    · intro w hSw
      go_simp
      with_reducible rfl
    try go_frame
    refine wpAnyH_take (i := 8) (oi := ⟨some 44, _, _, _, _, _⟩) (v := ?_) rfl (by kernel_rfl) (by kernel_rfl) (by kernel_rfl) (fun _ _ _ h => h) (Or.inl ⟨by rfl, ?_⟩) hHeld ?_
    rotate_left
    · intro w hSw
      go_simp
      with_reducible rfl
    try go_frame
    refine wpAnyH_take (i := 9) (oi := ⟨some 45, _, _, _, _, _⟩) (v := ?_) rfl (by kernel_rfl) (by kernel_rfl) (by kernel_rfl) (fun _ _ _ h => h) (Or.inl ⟨by rfl, ?_⟩) hHeld ?_
    rotate_left
    · intro w hSw
      go_simp
      with_reducible rfl
    try go_frame
    refine wpAnyH_take (i := 10) (oi := ⟨some 46, _, _, _, _, _⟩) (v := ?_) rfl (by kernel_rfl) (by kernel_rfl) (by kernel_rfl) (fun _ _ _ h => h) (Or.inl ⟨by rfl, ?_⟩) hHeld ?_
    rotate_left
    · intro w hSw
      go_simp
      with_reducible rfl
    try go_frame
    refine wpAnyH_take (i := 11) (oi := ⟨some 47, _, _, _, _, _⟩) (v := ?_) rfl (by kernel_rfl) (by kernel_rfl) (by kernel_rfl) (fun _ _ _ h => h) (Or.inl ⟨by rfl, ?_⟩) hHeld ?_
    rotate_left
    · intro w hSw
      have hc := hSw.2.2.1
      go_simp
      with_reducible rfl
    try go_frame
    refine wpAnyH_take (i := 12) (oi := ⟨some 48, _, _, _, _, _⟩) (v := ?_) rfl (by kernel_rfl) (by kernel_rfl) (by kernel_rfl) (fun _ _ _ h => h) (Or.inl ⟨by rfl, ?_⟩) hHeld ?_
    rotate_left
    · intro w hSw
      go_simp
      with_reducible rfl
    try go_frame
    refine wpAnyH_take (i := 13) (oi := ⟨some 49, _, _, _, _, _⟩) (v := ?_) rfl (by kernel_rfl) (by kernel_rfl) (by kernel_rfl) (fun _ _ _ h => h) (Or.inl ⟨by rfl, ?_⟩) hHeld ?_
    rotate_left
    · intro w hSw
      go_simp
      with_reducible rfl
    try go_frame
    refine wpAnyH_take (i := 14) (oi := ⟨some 50, _, _, _, _, _⟩) (v := ?_) rfl (by kernel_rfl) (by kernel_rfl) (by kernel_rfl) (fun _ _ _ h => h) (Or.inl ⟨by rfl, ?_⟩) hHeld ?_
    rotate_left
    · intro w hSw
      go_simp
      with_reducible rfl
    try go_frame
    refine wpAnyH_take (i := 15) (oi := ⟨some 51, _, _, _, _, _⟩) (v := ?_) rfl (by kernel_rfl) (by kernel_rfl) (by kernel_rfl) (fun _ _ _ h => h) (Or.inl ⟨by rfl, ?_⟩) hHeld ?_
    rotate_left
    · intro w hSw
      have hc := hSw.2.2.2
      go_simp
      with_reducible rfl
    try go_frame
    refine wpAnyH_take (i := 16) (oi := ⟨some 52, _, _, _, _, _⟩) (v := ?_) rfl (by kernel_rfl) (by kernel_rfl) (by kernel_rfl) (fun _ _ _ h => h) (Or.inl ⟨by rfl, ?_⟩) hHeld ?_
    rotate_left
    · intro w hSw
      go_simp
      with_reducible rfl
    try go_frame
    refine wpAnyH_take (i := 17) (oi := ⟨some 53, _, _, _, _, _⟩) (v := ?_) rfl (by kernel_rfl) (by kernel_rfl) (by kernel_rfl) (fun _ _ _ h => h) (Or.inl ⟨by rfl, ?_⟩) hHeld ?_
    rotate_left
    · intro w hSw
      have hm := HM1.out
      go_simp
      with_reducible rfl
    try go_frame
    refine wpAnyH_take (i := 18) (oi := ⟨some 54, _, _, _, _, _⟩) (v := ?_) rfl (by kernel_rfl) (by kernel_rfl) (by kernel_rfl) (fun _ _ _ h => h) (Or.inl ⟨by rfl, ?_⟩) hHeld ?_
    rotate_left
    · intro w hSw
      go_simp
      with_reducible rfl
    try go_frame
    refine wpAnyH_take (i := 19) (oi := ⟨some 55, _, _, _, _, _⟩) (v := ?_) rfl (by kernel_rfl) (by kernel_rfl) (by kernel_rfl) (fun _ _ _ h => h) (Or.inl ⟨by rfl, ?_⟩) hHeld ?_
    rotate_left
    · intro w hSw
      have hm := HM2.out
      go_simp
      with_reducible rfl
    try go_frame
    refine wpAnyH_take (i := 20) (oi := ⟨some 56, _, _, _, _, _⟩) (v := ?_) rfl (by kernel_rfl) (by kernel_rfl) (by kernel_rfl) (fun _ _ _ h => h) (Or.inl ⟨by rfl, ?_⟩) hHeld ?_
    rotate_left
    · intro w hSw
      go_simp
      with_reducible rfl
    try go_frame
    refine wpAnyH_ready (rs := [21]) (by kernel_rfl) (by simp) ?_
    refine AllReadyH.cons (o := ⟨some 57, _, _, _, _, _⟩) rfl (fun K hK => ?_) AllReadyH.nil
    go_simp
    go_at_call 91
    refine (DWrite_any HDk.out (k : Int) _ raw HAr.out).mono ?_
    rintro e w6 ⟨rfl, G', hD6, hG6, hC6⟩
    have HD6 := Lib.hid hD6
    have HG6 : Hid (∀ k, G' k → G k ∨ w5.heap.size ≤ k) := fun k hk => (hG6 k hk).imp id (Nat.le_trans HDr.out.size)
    have HC6 : Hid (Chg (fun k _ => G k) w5 w6) := HDr.out.then hC6
    clear hD6 hG6 hC6
    refine hK.out _ _ (HS3.out _ HC6.out) (fun hHeld => ?_)
    clear hK K
    try go_frame
    refine wpAnyH_done (by kernel_rfl) ?_ _
    clear hHeld HDr HDk HAr HS3
    have HGx : Hid (∀ k, G k → k < w5.heap.size) := HU2.out.disk.lt
    have HX : Hid (HeadL w6 P d ek mk s ks T FT nx S V ∧ ComL w6 P mk s C T2 FT2 KB rt bv S2) := ⟨HU2.out.head.chg HC6.out (fun _ => HU2.out.GP) (fun k _ hk => HU2.out.GF k hk), HU2.out.com.chg HC6.out (fun _ => HU2.out.GC) (fun k _ hk => HU2.out.G2 k hk) (fun k _ hk => HU2.out.GK k hk)⟩
    have HR6 : Hid (Row w6 g_tg 27 rs) := R_tg.out.same (HC6.out.block g_tg R_tg.out.lt fun _ hg => HGT.out hg)
    clear F_raw R_tg
    have HS4 : Hid (∀ W, Chg (fun k _ => FT2 k) w6 W → (fun W => W.cell? ⟨C, 37, none⟩ = some (PT T2) ∧ W.rangeAt g_tg 0 rs) W) := fun W hW => ⟨(HX.out.2.at_.chg hW fun _ => HX.out.2.CF).cells.2.2.2.2.2, (HR6.out.here.chg hW fun j _ hk => HT6.out _ hk rfl).1⟩
    have HDr : Hid (Chg (fun k _ => FT2 k) w6 w6.drew) := (Chg.refl _ w6).drew
    have HTr : Hid (Mr.T9 w6.drew FT2 T2 mk (s.next ++ List.replicate (s.n - s.next.length) Mr.Mk.zero) S2 0) := Mr.treeAll.stay HX.out.2.tree (Chg.below (below_drewN (Below.refl _ _) 1) fun _ _ => False) fun _ _ _ x => x
    have HLt : Hid (i < (s.next ++ List.replicate (s.n - s.next.length) Mr.Mk.zero).length) := by
      have h1 := HX.out.2.nlen
      have h2 := HNi.out.1
      have h3 := HN.out
      have h4 := HI.out
      show _ < _
      rw [List.length_append, List.length_replicate, h1]
      omega
    have hi2 : (Tryz.prog.info? 27).map (·.size) = some rs.length := by rw [← List.size_toArray, Hsz.out]; kernel_rfl
    go_wp2_with fail
    refine wp_region_held_drew (S := (fun W => W.cell? ⟨C, 37, none⟩ = some (PT T2) ∧ W.rangeAt g_tg 0 rs)) (by kernel_rfl) (HS4.out _ HDr.out) (fun hHeld => ?_)
    generalize w6.drew = w6d at *
    refine wpAnyH_take (i := 0) (oi := ⟨some 58, _, _, _, _, _⟩) (v := ?_) rfl (by kernel_rfl) (by kernel_rfl) (by kernel_rfl) (fun _ _ _ h => h) (Or.inl ⟨by rfl, ?_⟩) hHeld ?_
    rotate_left
    · intro w hSw
      go_simp
      with_reducible rfl
    try go_frame
    refine wpAnyH_take (i := 1) (oi := ⟨some 59, _, _, _, _, _⟩) (v := ?_) rfl (by kernel_rfl) (by kernel_rfl) (by kernel_rfl) (fun _ _ _ h => h) (Or.inl ⟨by rfl, ?_⟩) hHeld ?_
    rotate_left
    · intro w hSw
      go_simp
      with_reducible rfl
    try go_frame
    refine wpAnyH_take (i := 2) (oi := ⟨some 60, _, _, _, _, _⟩) (v := ?_) rfl (by kernel_rfl) (by kernel_rfl) (by kernel_rfl) (fun _ _ _ h => h) (Or.inl ⟨by rfl, ?_⟩) hHeld ?_
    rotate_left
    · intro w hSw
      go_simp
      with_reducible rfl
    try go_frame
    refine wpAnyH_take (i := 3) (oi := ⟨some 61, _, _, _, _, _⟩) (v := ?_) rfl (by kernel_rfl) (by kernel_rfl) (by kernel_rfl) (fun _ _ _ h => h) (Or.inl ⟨by rfl, ?_⟩) hHeld ?_
    rotate_left
    · intro w hSw
      have hc := hSw.1
      go_simp
      with_reducible rfl
    try go_frame
    refine wpAnyH_take (i := 4) (oi := ⟨some 62, _, _, _, _, _⟩) (v := ?_) rfl (by kernel_rfl) (by kernel_rfl) (by kernel_rfl) (fun _ _ _ h => h) (Or.inl ⟨by rfl, ?_⟩) hHeld ?_
    rotate_left
    · intro w hSw
      go_simp
      with_reducible rfl
    try go_frame
    refine wpAnyH_take (i := 5) (oi := ⟨some 63, _, _, _, _, _⟩) (v := .agg (rs).toArray) rfl (by kernel_rfl) (by kernel_rfl) (by kernel_rfl) (fun _ _ _ h => h) (yieldsIf_load_mid (by rfl) 27 (.tmp 5) rfl (g_tg) 0 rfl (rs) _ (fun W h => h.2) Tryz.underlying27 rfl hi2) hHeld ?_
    try go_frame
    refine wpAnyH_ready (rs := [6]) (by kernel_rfl) (by simp) ?_
    refine AllReadyH.cons (o := ⟨some 64, _, _, _, _, _⟩) rfl (fun K hK => ?_) AllReadyH.nil
    go_simp
    go_at_call 35
    refine (Mr.treeAll.setOk HTr.out i tag rs HLt.out Hrs.out).mono ?_
    rintro e w7 ⟨rfl, FT2', hT7, hF7, hC7⟩
    have HT7 := Lib.hid hT7
    have HF7 : Hid (∀ k, FT2' k → FT2 k ∨ w6.heap.size ≤ k) := fun k hk => (hF7 k hk).imp id (Nat.le_trans HDr.out.size)
    have HC7 : Hid (Chg (fun k _ => FT2 k) w6 w7) := HDr.out.then hC7
    clear hT7 hF7 hC7
    refine hK.out _ _ (HS4.out _ HC7.out) (fun hHeld => ?_)
    clear hK K
    try go_frame
    refine wpAnyH_done (by kernel_rfl) ?_ _
    clear hHeld HDr HTr HLt HS4 HR6 hi2
    have HN5 : Hid (Below w.heap.size w w5) := HBw.out
    have HFin : Hid (w7.cell? ⟨C, 36, none⟩ = some (IV i) ∧ w7.frozen? ⟨C, 36, none⟩ = false ∧ (w7.setCell ⟨C, 36, none⟩ (IV i1)).cell? ⟨C, 36, none⟩ = some (IV i1) ∧ (w7.setCell ⟨C, 36, none⟩ (IV i1)).cell? ⟨C, 35, none⟩ = some (.slice (some ⟨bb, ob, none⟩) n cv)
        ∧ Under (w7.setCell ⟨C, 36, none⟩ (IV i1)) P d ek mk { s with at_ := s.at_ + 1, next := s.next ++ [tag] } ks T FT nx S V C T2 FT2' KB G' rt bv (S2.set i true) (writeL D (k : Int) raw) ∧ (∀ k, FT2' k → FT2 k ∨ w.heap.size ≤ k) ∧ (∀ k, G' k → G k ∨ w.heap.size ≤ k) ∧ Chg (fun k _ => k = C ∨ FT2 k ∨ G k) w (w7.setCell ⟨C, 36, none⟩ (IV i1))) := by
      have hi := HI.out
      have hn := HN.out
      have hin := HNi.out.1
      have hs5 := HN5.out.size
      have hs6 := HC6.out.size
      have hmin : min s.at_ s.n = i := by omega
      have hH7 := HX.out.1.chg HC7.out (fun _ => HX.out.2.PF) (fun k _ hk h2 => HU2.out.F2 k h2 hk)
      have hc7 := HX.out.2.at_.chg HC7.out fun _ => HX.out.2.CF
      rw [hmin] at hc7
      have hp7 := HX.out.2.parts.chg HC7.out fun k _ hk h2 => HX.out.2.KF k hk h2
      have hFl : ∀ k, FT2 k → k < w5.heap.size := Mr.treeAll.lt HU2.out.com.tree
      have hG5 : ∀ k, G' k → ¬ FT2 k := fun k hk h2 => (HG6.out k hk).elim (fun hg => HU2.out.G2 k h2 hg) fun hl => by have := hFl k h2; omega
      have hd7 := HD6.out.stay HC7.out fun k _ hk h2 => hG5 k hk h2
      have hCl : C < w5.heap.size := HU2.out.com.at_.c0.lt (by simp)
      have hPl : P < w5.heap.size := HU2.out.head.at_.c0.lt (by simp)
      have hFTl : ∀ k, FT k → k < w5.heap.size := Mr.treeAll.lt HU2.out.head.tree
      have hFP : ∀ k, FT2' k → FT2 k ∨ w6.heap.size ≤ k := HF7.out
      have hcw := hc7.wrote HX.out.2.r32 i1
      have hc8 : Chg (fun k _ => k = C) w7 (w7.setCell ⟨C, 36, none⟩ (IV i1)) := (Chg.refl _ w7).setCell (p := ⟨C, 36, none⟩) rfl (fun _ => rfl) (by rw [here_one hc7.c36]; rfl) _
      have hnl : s.next.length = i := by rw [HX.out.2.nlen, hmin]
      have hset : (s.next ++ List.replicate (s.n - s.next.length) Mr.Mk.zero).set i tag = (s.next ++ [tag]) ++ List.replicate (s.n - (s.next ++ [tag]).length) Mr.Mk.zero := by
        rw [List.length_append, hnl, List.length_singleton, show s.n - i = (s.n - (i + 1)) + 1 by omega, List.replicate_succ, List.append_assoc, List.singleton_append, ← hnl]
        simp
      have hKl : ∀ k, KB k → k ≠ C := fun k hk e => HX.out.2.KC (e ▸ hk)
      have hT8 := Mr.treeAll.stay HT7.out hc8 fun k _ hk e => by
        subst e
        exact (hFP k hk).elim HX.out.2.CF fun hl => by omega
      rw [hset] at hT8
      refine ⟨here_one hc7.c36, by have := hc7.c36.free (j := 0) (by simp); rwa [Nat.add_zero] at this, here_one hcw.c36, by rw [here_one hcw.c35, HBV.out, hn], ⟨?_, ?_, ?_, ?_, HU2.out.FC, fun k hk h2 => ?_, fun hk => ?_, fun hk => ?_, fun k h2 hk => ?_, fun k h2 hk => ?_, fun k h2 hk => ?_, fun k hk => Nat.lt_of_lt_of_le (HU2.out.KL k hk) (Nat.le_trans hs6 (Nat.le_trans HC7.out.size hc8.size))⟩, fun k hk => (hFP k hk).imp id fun h => by omega, fun k hk => (HG6.out k hk).imp id fun h => by omega, ?_⟩
      · have hx := hH7.chg hc8 (fun _ e => HX.out.2.CP e.symm) fun k _ hk e => HU2.out.FC (e ▸ hk)
        exact ⟨hx.at_, hx.keys, hx.tree, hx.tl, hx.n8, hx.r32, hx.b1, hx.PF⟩
      · refine ⟨?_, HX.out.2.r32, hT8, hp7.chg hc8 fun k _ hk e => hKl k hk e, HX.out.2.len, HX.out.2.l64, by show s.at_ + 1 ≤ s.n + 1; omega, ?_, fun hk => (hFP C hk).elim HX.out.2.CF fun h => by omega, fun hk => (hFP P hk).elim HX.out.2.PF fun h => by omega, fun k hk h2 => ?_, HX.out.2.KC, HX.out.2.KP, HX.out.2.CP⟩
        · show CommP _ C P (s.ep + 1) (1 - s.bank) rt bv (min (s.at_ + 1) s.n) T2
          rw [show min (s.at_ + 1) s.n = i1 by rw [HI1.out]; omega]
          exact hcw
        · show (s.next ++ [tag]).length = min (s.at_ + 1) s.n
          rw [List.length_append, hnl, List.length_singleton]; omega
        · rcases hFP k h2 with h | h
          · exact HX.out.2.KF k hk h
          · have := HU2.out.KL k hk; omega
      · exact hd7.stay hc8 fun k _ hk e => by
          subst e
          exact (HG6.out k hk).elim HU2.out.GC fun h => by omega
      · rw [← HU2.out.dl]
        unfold writeL
        split
        · exact upd1_length _ _ _
        · rfl
      · rcases hFP k hk with h | h
        · exact HU2.out.F2 k h h2
        · have := hFTl k h2; omega
      · exact (HG6.out P hk).elim HU2.out.GP fun h => by omega
      · exact (HG6.out C hk).elim HU2.out.GC fun h => by omega
      · exact (HG6.out k hk).elim (HU2.out.GF k h2) fun h => by have := hFTl k h2; omega
      · rcases hFP k h2 with h | h
        · exact hG5 k hk h
        · have := HD6.out.lt k hk; omega
      · rcases HG6.out k hk with h | h
        · exact HU2.out.GK k h2 h
        · have := HU2.out.KL k h2; omega
      · refine ((Chg.below HN5.out _).then ((HC6.out.mono fun k _ _ hk => .inr (.inr hk)).then ((HC7.out.mono fun k _ _ hk => .inr (.inl hk)).then (hc8.mono fun k _ _ hk => .inl hk))))
    have HD8 : Hid (nextV { s with at_ := s.at_ + 1, next := s.next ++ [tag] } C = if i1 < n then wrV C else flV C) := by
      show _ = _
      have hi := HI.out
      have hn := HN.out
      have hi1' := HI1.out
      have hin := HNi.out.1
      unfold nextV
      show (if s.at_ + 1 < s.n then _ else if s.at_ + 1 = s.n then _ else _) = _
      by_cases h : i1 < n
      · rw [if_pos h, if_pos (by omega)]
      · rw [if_neg h, if_neg (by omega), if_pos (by omega)]
    obtain ⟨c36, f36, c36b, c35b, HFn⟩ := HFin.out
    have HFn' := Lib.hid HFn
    have hm3 := HM3.out
    clear HFin HFn HX HC6 HC7 HD6 HG6 HT7 HF7 HU2 HBw HN5 HGx
    by_cases hlt : i1 < n
    · go_wp2_with fail
      generalize w7.setCell ⟨C, 36, none⟩ (IV i1) = w8 at *
      go_quiet (fail)
      go_wp2
      go_ret
      exact ⟨congrArg Ending.returned (HD8.out.trans (if_pos hlt)).symm, _, _, _, HFn'.out.1.drewn _, HFn'.out.2.1, HFn'.out.2.2.1, HFn'.out.2.2.2.drewN _⟩
    · go_wp2_with fail
      generalize w7.setCell ⟨C, 36, none⟩ (IV i1) = w8 at *
      go_quiet (fail)
      go_wp2
      go_ret
      exact ⟨congrArg Ending.returned (HD8.out.trans (if_neg hlt)).symm, _, _, _, HFn'.out.1.drewn _, HFn'.out.2.1, HFn'.out.2.2.1, HFn'.out.2.2.2.drewN _⟩
  refine AllReadyH.cons (o := ⟨some 5, _, _, _, _, _⟩) rfl (fun K hK => ?_) ?_
  · skip
    go_simp
    have hb : Below wd.heap.size wd (wd.alloc (.cells Hm.Z32.toArray 27)) := Joins.below_alloc1 _ _
    have hg_tg := hC.size
    obtain ⟨g_tg, Hg_tg⟩ : ∃ g, Hid (g = wd.heap.size) := ⟨_, rfl⟩
    have R_tg : Hid (Row (wd.alloc (.cells Hm.Z32.toArray 27)) wd.heap.size 27 Hm.Z32) := Row.new wd 27 _
    replace hC := hC.trans (hb.mono hC.size)
    refine hK.out _ _ (HKeep.out _ hC) (fun hHeld => ?_)
    clear hK K hb
    generalize (wd.alloc (.cells Hm.Z32.toArray 27)) = wd_tg at *
    rw [← Hg_tg.out] at hg_tg ⊢
    rw [← Hg_tg.out] at R_tg
    clear Hg_tg
    try go_frame
    refine wpAnyH_ready (rs := [20]) (by kernel_rfl) (by simp) ?_
    refine AllReadyH.cons (o := ⟨some 32, _, _, _, _, _⟩) rfl (fun K hK => ?_) AllReadyH.nil
    go_simp
    go_at_call 90
    refine (HCl.out wd_tg hC).mono ?_
    rintro e wd_tg_cl ⟨g_cl, cap, rs, rfl, hg_cl, hAr, Hrs, hb⟩
    have F_raw : Hid (Arg wd_tg_cl (.slice (some ⟨g_cl, 0, none⟩) 72 cap) raw) := hAr
    have HNE : Hid (g_cl ≠ g_tg) := by have := R_tg.out.lt; show _ ≠ _; omega
    replace hC := hC.trans (hb.mono hC.size)
    replace R_tg := Lib.hid (R_tg.out.below hb R_tg.out.lt)
    refine hK.out _ _ (HKeep.out _ hC) (fun hHeld => ?_)
    clear hK K hb 
    have Hsz : Hid (rs.toArray.size = 32) := Hrs.out.size
    have Hone : Hid (rs.toArray.all (·.oneCell') = true) := Hrs.out.one
    clear hAr
    try go_frame
    refine wpAnyH_take (i := 21) (oi := ⟨some 11, _, _, _, _, _⟩) (v := ?_) rfl (by kernel_rfl) (by kernel_rfl) (by kernel_rfl) (fun _ _ _ h => h) (Or.inl ⟨by rfl, ?_⟩) hHeld ?_
    rotate_left
    · intro w hSw
      go_simp
      with_reducible rfl
    try go_frame
    refine wpAnyH_take (i := 22) (oi := ⟨some 33, _, _, _, _, _⟩) (v := ?_) rfl (by kernel_rfl) (by kernel_rfl) (by kernel_rfl) (fun _ _ _ h => h) (Or.inl ⟨by rfl, ?_⟩) hHeld ?_
    rotate_left
    · intro w hSw
      go_simp
      with_reducible rfl
    try go_frame
    refine wpAnyH_take (i := 23) (oi := ⟨some 34, _, _, _, _, _⟩) (v := ?_) rfl (by kernel_rfl) (by kernel_rfl) (by kernel_rfl) (fun _ _ _ h => h) (Or.inl ⟨by rfl, ?_⟩) hHeld ?_
    rotate_left
    · intro w hSw
      go_simp
      with_reducible rfl
    try go_frame
    refine wpAnyH_take (i := 24) (oi := ⟨some 35, _, _, _, _, _⟩) (v := ?_) rfl (by kernel_rfl) (by kernel_rfl) (by kernel_rfl) (fun _ _ _ h => h) (Or.inl ⟨by rfl, ?_⟩) hHeld ?_
    rotate_left
    · intro w hSw
      go_simp
      with_reducible rfl
    try go_frame
    refine wpAnyH_take (i := 26) (oi := ⟨some 4, _, _, _, _, _⟩) (v := ?_) rfl (by kernel_rfl) (by kernel_rfl) (by kernel_rfl) (fun _ _ _ h => h) (Or.inl ⟨by rfl, ?_⟩) hHeld ?_
    rotate_left
    · intro w hSw
      go_simp
      with_reducible rfl
    try go_frame
    refine wpAnyH_ready (rs := [27]) (by kernel_rfl) (by simp) ?_
    refine AllReadyH.cons (o := ⟨none, _, _, _, _, _⟩) rfl (fun K hK => ?_) AllReadyH.nil
    rw [if_pos (by rfl)]
    refine Go.wp_store_row 27 (.tmp 5) (.tmp 34) rfl g_tg rs.toArray rfl rfl 27 _ R_tg.out (by rw [Hsz.out]; kernel_rfl) (by rw [Hsz.out]; rfl) Hone.out ?_
    replace R_tg := Lib.hid (R_tg.out.whole rs)
    replace hC := below_setRow' hC (k := g_tg) hg_tg rs.toArray
    replace F_raw := Lib.hid (F_raw.out.off HNE.out rs.toArray)
    refine hK.out _ _ (HKeep.out _ hC) (fun hHeld => ?_)
    clear hK K
    generalize (wd_tg_cl.setRow g_tg rs.toArray) = wd_tg_cl_st at *
    try go_frame
    refine wpAnyH_take (i := 28) (oi := ⟨some 6, _, _, _, _, _⟩) (v := ?_) rfl (by kernel_rfl) (by kernel_rfl) (by kernel_rfl) (fun _ _ _ h => h) (Or.inl ⟨by rfl, ?_⟩) hHeld ?_
    rotate_left
    · intro w hSw
      go_simp
      with_reducible rfl
    try go_frame
    refine wpAnyH_done (by kernel_rfl) ?_ _
    clear hHeld HKeep HNE hz HCl
    have HBw := Lib.hid hC
    have HGT : Hid (¬ G g_tg) := fun hg => by have := HU.out.disk.lt _ hg; omega
    have HT6 : Hid (∀ k, FT2 k → k ≠ g_tg) := fun k hk e => by have := Mr.treeAll.lt HU.out.com.tree k hk; omega
    have HU2 : Hid (Under wd_tg_cl_st P d ek mk s ks T FT nx S V C T2 FT2 KB G rt bv S2 D) := ⟨HU.out.head.below hC, HU.out.com.below hC, HU.out.disk.below hC, HU.out.dl, HU.out.FC, HU.out.F2, HU.out.GP, HU.out.GC, HU.out.GF, HU.out.G2, HU.out.GK, fun k hk => Nat.lt_of_lt_of_le (HU.out.KL k hk) hC.size⟩
    clear hC HU
    generalize wd_tg_cl_st = w5 at *
    go_wp2_with fail
    have HS3 : Hid (∀ W, Chg (fun k _ => G k) w5 W → (fun W => W.cell? ⟨C, 0, none⟩ = some (PT P) ∧ W.cell? ⟨P, 0, none⟩ = some (PT d) ∧ W.cell? ⟨C, 2, none⟩ = some (IV bk1) ∧ W.cell? ⟨C, 35, none⟩ = some (.slice (some ⟨bb, ob, none⟩) n cv)) W) := fun W hW => by
      have hc := (HU2.out.com.chg hW (fun _ => HU2.out.GC) (fun k _ hk => HU2.out.G2 k hk) (fun k _ hk => HU2.out.GK k hk)).at_.cells
      have hp := (HU2.out.head.chg hW (fun _ => HU2.out.GP) (fun k _ hk => HU2.out.GF k hk)).at_.cells
      exact ⟨hc.1, hp.1, by rw [HB1.out]; exact hc.2.2.1, by rw [HN.out, ← HBV.out]; exact hc.2.2.2.1⟩
    have HDr : Hid (Chg (fun k _ => G k) w5 w5.drew) := (Chg.refl _ w5).drew
    have HDk : Hid (DiskAt w5.drew G d D) := HU2.out.disk.below (below_drewN (Below.refl _ _) 1)
    have HAr : Hid (Arg w5.drew (.slice (some ⟨g_cl, 0, none⟩) 72 cap) raw) := F_raw.out.below (below_drewN (Below.refl _ _) 1)
    refine wp_region_held_drew (S := (fun W => W.cell? ⟨C, 0, none⟩ = some (PT P) ∧ W.cell? ⟨P, 0, none⟩ = some (PT d) ∧ W.cell? ⟨C, 2, none⟩ = some (IV bk1) ∧ W.cell? ⟨C, 35, none⟩ = some (.slice (some ⟨bb, ob, none⟩) n cv))) (by kernel_rfl) (HS3.out _ HDr.out) (fun hHeld => ?_)
    generalize w5.drew = w5d at *
    refine wpAnyH_take (i := 0) (oi := ⟨some 36, _, _, _, _, _⟩) (v := ?_) rfl (by kernel_rfl) (by kernel_rfl) (by kernel_rfl) (fun _ _ _ h => h) (Or.inl ⟨by rfl, ?_⟩) hHeld ?_
    rotate_left
    · intro w hSw
      go_simp
      with_reducible rfl
    try go_frame
    refine wpAnyH_take (i := 1) (oi := ⟨some 37, _, _, _, _, _⟩) (v := ?_) rfl (by kernel_rfl) (by kernel_rfl) (by kernel_rfl) (fun _ _ _ h => h) (Or.inl ⟨by rfl, ?_⟩) hHeld ?_
    rotate_left
    · intro w hSw
      go_simp
      with_reducible rfl
    try go_frame
    refine wpAnyH_take (i := 2) (oi := ⟨some 38, _, _, _, _, _⟩) (v := ?_) rfl (by kernel_rfl) (by kernel_rfl) (by kernel_rfl) (fun _ _ _ h => h) (Or.inl ⟨by rfl, ?_⟩) hHeld ?_
    rotate_left
    · intro w hSw
      go_simp
      with_reducible rfl
    try go_frame
    refine wpAnyH_take (i := 3) (oi := ⟨some 39, _, _, _, _, _⟩) (v := ?_) rfl (by kernel_rfl) (by kernel_rfl) (by kernel_rfl) (fun _ _ _ h => h) (Or.inl ⟨by rfl, ?_⟩) hHeld ?_
    rotate_left
    · intro w hSw
      have hc := hSw.1
      go_simp
      with_reducible rfl
    try go_frame
    refine wpAnyH_take (i := 4) (oi := ⟨some 40, _, _, _, _, _⟩) (v := ?_) rfl (by kernel_rfl) (by kernel_rfl) (by kernel_rfl) (fun _ _ _ h => h) (Or.inl ⟨by rfl, ?_⟩) hHeld ?_
    rotate_left
    · intro w hSw
      go_simp
      with_reducible rfl
    try go_frame
    refine wpAnyH_take (i := 5) (oi := ⟨some 41, _, _, _, _, _⟩) (v := ?_) rfl (by kernel_rfl) (by kernel_rfl) (by kernel_rfl) (fun _ _ _ h => h) (Or.inl ⟨by rfl, ?_⟩) hHeld ?_
    rotate_left
    · intro w hSw
      go_simp
      with_reducible rfl
    try go_frame
    refine wpAnyH_take (i := 6) (oi := ⟨some 42, _, _, _, _, _⟩) (v := ?_) rfl (by kernel_rfl) (by kernel_rfl) (by kernel_rfl) (fun _ _ _ h => h) (Or.inl ⟨by rfl, ?_⟩) hHeld ?_
    rotate_left
    · intro w hSw
      have hc := hSw.2.1
      go_simp
      with_reducible rfl
    try go_frame
    refine wpAnyH_take (i := 7) (oi := ⟨some 43, _, _, _, _, _⟩) (v := ?_) rfl (by kernel_rfl) (by kernel_rfl) (by kernel_rfl) (fun _ _ _ h => h) (Or.inl ⟨by rfl, ?_⟩) hHeld ?_
    rotate_left
    · intro w hSw
      go_simp
      with_reducible rfl
    try go_frame
    refine wpAnyH_take (i := 8) (oi := ⟨some 44, _, _, _, _, _⟩) (v := ?_) rfl (by kernel_rfl) (by kernel_rfl) (by kernel_rfl) (fun _ _ _ h => h) (Or.inl ⟨by rfl, ?_⟩) hHeld ?_
    rotate_left
    · intro w hSw
      go_simp
      with_reducible rfl
    try go_frame
    refine wpAnyH_take (i := 9) (oi := ⟨some 45, _, _, _, _, _⟩) (v := ?_) rfl (by kernel_rfl) (by kernel_rfl) (by kernel_rfl) (fun _ _ _ h => h) (Or.inl ⟨by rfl, ?_⟩) hHeld ?_
    rotate_left
    · intro w hSw
      go_simp
      with_reducible rfl
    try go_frame
    refine wpAnyH_take (i := 10) (oi := ⟨some 46, _, _, _, _, _⟩) (v := ?_) rfl (by kernel_rfl) (by kernel_rfl) (by kernel_rfl) (fun _ _ _ h => h) (Or.inl ⟨by rfl, ?_⟩) hHeld ?_
    rotate_left
    · intro w hSw
      go_simp
      with_reducible rfl
    try go_frame
    refine wpAnyH_take (i := 11) (oi := ⟨some 47, _, _, _, _, _⟩) (v := ?_) rfl (by kernel_rfl) (by kernel_rfl) (by kernel_rfl) (fun _ _ _ h => h) (Or.inl ⟨by rfl, ?_⟩) hHeld ?_
    rotate_left
    · intro w hSw
      have hc := hSw.2.2.1
      go_simp
      with_reducible rfl
    try go_frame
    refine wpAnyH_take (i := 12) (oi := ⟨some 48, _, _, _, _, _⟩) (v := ?_) rfl (by kernel_rfl) (by kernel_rfl) (by kernel_rfl) (fun _ _ _ h => h) (Or.inl ⟨by rfl, ?_⟩) hHeld ?_
    rotate_left
    · intro w hSw
      go_simp
      with_reducible rfl
    try go_frame
    refine wpAnyH_take (i := 13) (oi := ⟨some 49, _, _, _, _, _⟩) (v := ?_) rfl (by kernel_rfl) (by kernel_rfl) (by kernel_rfl) (fun _ _ _ h => h) (Or.inl ⟨by rfl, ?_⟩) hHeld ?_
    rotate_left
    · intro w hSw
      go_simp
      with_reducible rfl
    try go_frame
    refine wpAnyH_take (i := 14) (oi := ⟨some 50, _, _, _, _, _⟩) (v := ?_) rfl (by kernel_rfl) (by kernel_rfl) (by kernel_rfl) (fun _ _ _ h => h) (Or.inl ⟨by rfl, ?_⟩) hHeld ?_
    rotate_left
    · intro w hSw
      go_simp
      with_reducible rfl
    try go_frame
    refine wpAnyH_take (i := 15) (oi := ⟨some 51, _, _, _, _, _⟩) (v := ?_) rfl (by kernel_rfl) (by kernel_rfl) (by kernel_rfl) (fun _ _ _ h => h) (Or.inl ⟨by rfl, ?_⟩) hHeld ?_
    rotate_left
    · intro w hSw
      have hc := hSw.2.2.2
      go_simp
      with_reducible rfl
    try go_frame
    refine wpAnyH_take (i := 16) (oi := ⟨some 52, _, _, _, _, _⟩) (v := ?_) rfl (by kernel_rfl) (by kernel_rfl) (by kernel_rfl) (fun _ _ _ h => h) (Or.inl ⟨by rfl, ?_⟩) hHeld ?_
    rotate_left
    · intro w hSw
      go_simp
      with_reducible rfl
    try go_frame
    refine wpAnyH_take (i := 17) (oi := ⟨some 53, _, _, _, _, _⟩) (v := ?_) rfl (by kernel_rfl) (by kernel_rfl) (by kernel_rfl) (fun _ _ _ h => h) (Or.inl ⟨by rfl, ?_⟩) hHeld ?_
    rotate_left
    · intro w hSw
      have hm := HM1.out
      go_simp
      with_reducible rfl
    try go_frame
    refine wpAnyH_take (i := 18) (oi := ⟨some 54, _, _, _, _, _⟩) (v := ?_) rfl (by kernel_rfl) (by kernel_rfl) (by kernel_rfl) (fun _ _ _ h => h) (Or.inl ⟨by rfl, ?_⟩) hHeld ?_
    rotate_left
    · intro w hSw
      go_simp
      with_reducible rfl
    try go_frame
    refine wpAnyH_take (i := 19) (oi := ⟨some 55, _, _, _, _, _⟩) (v := ?_) rfl (by kernel_rfl) (by kernel_rfl) (by kernel_rfl) (fun _ _ _ h => h) (Or.inl ⟨by rfl, ?_⟩) hHeld ?_
    rotate_left
    · intro w hSw
      have hm := HM2.out
      go_simp
      with_reducible rfl
    try go_frame
    refine wpAnyH_take (i := 20) (oi := ⟨some 56, _, _, _, _, _⟩) (v := ?_) rfl (by kernel_rfl) (by kernel_rfl) (by kernel_rfl) (fun _ _ _ h => h) (Or.inl ⟨by rfl, ?_⟩) hHeld ?_
    rotate_left
    · intro w hSw
      go_simp
      with_reducible rfl
    try go_frame
    refine wpAnyH_ready (rs := [21]) (by kernel_rfl) (by simp) ?_
    refine AllReadyH.cons (o := ⟨some 57, _, _, _, _, _⟩) rfl (fun K hK => ?_) AllReadyH.nil
    go_simp
    go_at_call 91
    refine (DWrite_any HDk.out (k : Int) _ raw HAr.out).mono ?_
    rintro e w6 ⟨rfl, G', hD6, hG6, hC6⟩
    have HD6 := Lib.hid hD6
    have HG6 : Hid (∀ k, G' k → G k ∨ w5.heap.size ≤ k) := fun k hk => (hG6 k hk).imp id (Nat.le_trans HDr.out.size)
    have HC6 : Hid (Chg (fun k _ => G k) w5 w6) := HDr.out.then hC6
    clear hD6 hG6 hC6
    refine hK.out _ _ (HS3.out _ HC6.out) (fun hHeld => ?_)
    clear hK K
    try go_frame
    refine wpAnyH_done (by kernel_rfl) ?_ _
    clear hHeld HDr HDk HAr HS3
    have HGx : Hid (∀ k, G k → k < w5.heap.size) := HU2.out.disk.lt
    have HX : Hid (HeadL w6 P d ek mk s ks T FT nx S V ∧ ComL w6 P mk s C T2 FT2 KB rt bv S2) := ⟨HU2.out.head.chg HC6.out (fun _ => HU2.out.GP) (fun k _ hk => HU2.out.GF k hk), HU2.out.com.chg HC6.out (fun _ => HU2.out.GC) (fun k _ hk => HU2.out.G2 k hk) (fun k _ hk => HU2.out.GK k hk)⟩
    have HR6 : Hid (Row w6 g_tg 27 rs) := R_tg.out.same (HC6.out.block g_tg R_tg.out.lt fun _ hg => HGT.out hg)
    clear F_raw R_tg
    have HS4 : Hid (∀ W, Chg (fun k _ => FT2 k) w6 W → (fun W => W.cell? ⟨C, 37, none⟩ = some (PT T2) ∧ W.rangeAt g_tg 0 rs) W) := fun W hW => ⟨(HX.out.2.at_.chg hW fun _ => HX.out.2.CF).cells.2.2.2.2.2, (HR6.out.here.chg hW fun j _ hk => HT6.out _ hk rfl).1⟩
    have HDr : Hid (Chg (fun k _ => FT2 k) w6 w6.drew) := (Chg.refl _ w6).drew
    have HTr : Hid (Mr.T9 w6.drew FT2 T2 mk (s.next ++ List.replicate (s.n - s.next.length) Mr.Mk.zero) S2 0) := Mr.treeAll.stay HX.out.2.tree (Chg.below (below_drewN (Below.refl _ _) 1) fun _ _ => False) fun _ _ _ x => x
    have HLt : Hid (i < (s.next ++ List.replicate (s.n - s.next.length) Mr.Mk.zero).length) := by
      have h1 := HX.out.2.nlen
      have h2 := HNi.out.1
      have h3 := HN.out
      have h4 := HI.out
      show _ < _
      rw [List.length_append, List.length_replicate, h1]
      omega
    have hi2 : (Tryz.prog.info? 27).map (·.size) = some rs.length := by rw [← List.size_toArray, Hsz.out]; kernel_rfl
    go_wp2_with fail
    refine wp_region_held_drew (S := (fun W => W.cell? ⟨C, 37, none⟩ = some (PT T2) ∧ W.rangeAt g_tg 0 rs)) (by kernel_rfl) (HS4.out _ HDr.out) (fun hHeld => ?_)
    generalize w6.drew = w6d at *
    refine wpAnyH_take (i := 0) (oi := ⟨some 58, _, _, _, _, _⟩) (v := ?_) rfl (by kernel_rfl) (by kernel_rfl) (by kernel_rfl) (fun _ _ _ h => h) (Or.inl ⟨by rfl, ?_⟩) hHeld ?_
    rotate_left
    · intro w hSw
      go_simp
      with_reducible rfl
    try go_frame
    refine wpAnyH_take (i := 1) (oi := ⟨some 59, _, _, _, _, _⟩) (v := ?_) rfl (by kernel_rfl) (by kernel_rfl) (by kernel_rfl) (fun _ _ _ h => h) (Or.inl ⟨by rfl, ?_⟩) hHeld ?_
    rotate_left
    · intro w hSw
      go_simp
      with_reducible rfl
    try go_frame
    refine wpAnyH_take (i := 2) (oi := ⟨some 60, _, _, _, _, _⟩) (v := ?_) rfl (by kernel_rfl) (by kernel_rfl) (by kernel_rfl) (fun _ _ _ h => h) (Or.inl ⟨by rfl, ?_⟩) hHeld ?_
    rotate_left
    · intro w hSw
      go_simp
      with_reducible rfl
    try go_frame
    refine wpAnyH_take (i := 3) (oi := ⟨some 61, _, _, _, _, _⟩) (v := ?_) rfl (by kernel_rfl) (by kernel_rfl) (by kernel_rfl) (fun _ _ _ h => h) (Or.inl ⟨by rfl, ?_⟩) hHeld ?_
    rotate_left
    · intro w hSw
      have hc := hSw.1
      go_simp
      with_reducible rfl
    try go_frame
    refine wpAnyH_take (i := 4) (oi := ⟨some 62, _, _, _, _, _⟩) (v := ?_) rfl (by kernel_rfl) (by kernel_rfl) (by kernel_rfl) (fun _ _ _ h => h) (Or.inl ⟨by rfl, ?_⟩) hHeld ?_
    rotate_left
    · intro w hSw
      go_simp
      with_reducible rfl
    try go_frame
    refine wpAnyH_take (i := 5) (oi := ⟨some 63, _, _, _, _, _⟩) (v := .agg (rs).toArray) rfl (by kernel_rfl) (by kernel_rfl) (by kernel_rfl) (fun _ _ _ h => h) (yieldsIf_load_mid (by rfl) 27 (.tmp 5) rfl (g_tg) 0 rfl (rs) _ (fun W h => h.2) Tryz.underlying27 rfl hi2) hHeld ?_
    try go_frame
    refine wpAnyH_ready (rs := [6]) (by kernel_rfl) (by simp) ?_
    refine AllReadyH.cons (o := ⟨some 64, _, _, _, _, _⟩) rfl (fun K hK => ?_) AllReadyH.nil
    go_simp
    go_at_call 35
    refine (Mr.treeAll.setOk HTr.out i tag rs HLt.out Hrs.out).mono ?_
    rintro e w7 ⟨rfl, FT2', hT7, hF7, hC7⟩
    have HT7 := Lib.hid hT7
    have HF7 : Hid (∀ k, FT2' k → FT2 k ∨ w6.heap.size ≤ k) := fun k hk => (hF7 k hk).imp id (Nat.le_trans HDr.out.size)
    have HC7 : Hid (Chg (fun k _ => FT2 k) w6 w7) := HDr.out.then hC7
    clear hT7 hF7 hC7
    refine hK.out _ _ (HS4.out _ HC7.out) (fun hHeld => ?_)
    clear hK K
    try go_frame
    refine wpAnyH_done (by kernel_rfl) ?_ _
    clear hHeld HDr HTr HLt HS4 HR6 hi2
    have HN5 : Hid (Below w.heap.size w w5) := HBw.out
    have HFin : Hid (w7.cell? ⟨C, 36, none⟩ = some (IV i) ∧ w7.frozen? ⟨C, 36, none⟩ = false ∧ (w7.setCell ⟨C, 36, none⟩ (IV i1)).cell? ⟨C, 36, none⟩ = some (IV i1) ∧ (w7.setCell ⟨C, 36, none⟩ (IV i1)).cell? ⟨C, 35, none⟩ = some (.slice (some ⟨bb, ob, none⟩) n cv)
        ∧ Under (w7.setCell ⟨C, 36, none⟩ (IV i1)) P d ek mk { s with at_ := s.at_ + 1, next := s.next ++ [tag] } ks T FT nx S V C T2 FT2' KB G' rt bv (S2.set i true) (writeL D (k : Int) raw) ∧ (∀ k, FT2' k → FT2 k ∨ w.heap.size ≤ k) ∧ (∀ k, G' k → G k ∨ w.heap.size ≤ k) ∧ Chg (fun k _ => k = C ∨ FT2 k ∨ G k) w (w7.setCell ⟨C, 36, none⟩ (IV i1))) := by
      have hi := HI.out
      have hn := HN.out
      have hin := HNi.out.1
      have hs5 := HN5.out.size
      have hs6 := HC6.out.size
      have hmin : min s.at_ s.n = i := by omega
      have hH7 := HX.out.1.chg HC7.out (fun _ => HX.out.2.PF) (fun k _ hk h2 => HU2.out.F2 k h2 hk)
      have hc7 := HX.out.2.at_.chg HC7.out fun _ => HX.out.2.CF
      rw [hmin] at hc7
      have hp7 := HX.out.2.parts.chg HC7.out fun k _ hk h2 => HX.out.2.KF k hk h2
      have hFl : ∀ k, FT2 k → k < w5.heap.size := Mr.treeAll.lt HU2.out.com.tree
      have hG5 : ∀ k, G' k → ¬ FT2 k := fun k hk h2 => (HG6.out k hk).elim (fun hg => HU2.out.G2 k h2 hg) fun hl => by have := hFl k h2; omega
      have hd7 := HD6.out.stay HC7.out fun k _ hk h2 => hG5 k hk h2
      have hCl : C < w5.heap.size := HU2.out.com.at_.c0.lt (by simp)
      have hPl : P < w5.heap.size := HU2.out.head.at_.c0.lt (by simp)
      have hFTl : ∀ k, FT k → k < w5.heap.size := Mr.treeAll.lt HU2.out.head.tree
      have hFP : ∀ k, FT2' k → FT2 k ∨ w6.heap.size ≤ k := HF7.out
      have hcw := hc7.wrote HX.out.2.r32 i1
      have hc8 : Chg (fun k _ => k = C) w7 (w7.setCell ⟨C, 36, none⟩ (IV i1)) := (Chg.refl _ w7).setCell (p := ⟨C, 36, none⟩) rfl (fun _ => rfl) (by rw [here_one hc7.c36]; rfl) _
      have hnl : s.next.length = i := by rw [HX.out.2.nlen, hmin]
      have hset : (s.next ++ List.replicate (s.n - s.next.length) Mr.Mk.zero).set i tag = (s.next ++ [tag]) ++ List.replicate (s.n - (s.next ++ [tag]).length) Mr.Mk.zero := by
        rw [List.length_append, hnl, List.length_singleton, show s.n - i = (s.n - (i + 1)) + 1 by omega, List.replicate_succ, List.append_assoc, List.singleton_append, ← hnl]
        simp
      have hKl : ∀ k, KB k → k ≠ C := fun k hk e => HX.out.2.KC (e ▸ hk)
      have hT8 := Mr.treeAll.stay HT7.out hc8 fun k _ hk e => by
        subst e
        exact (hFP k hk).elim HX.out.2.CF fun hl => by omega
      rw [hset] at hT8
      refine ⟨here_one hc7.c36, by have := hc7.c36.free (j := 0) (by simp); rwa [Nat.add_zero] at this, here_one hcw.c36, by rw [here_one hcw.c35, HBV.out, hn], ⟨?_, ?_, ?_, ?_, HU2.out.FC, fun k hk h2 => ?_, fun hk => ?_, fun hk => ?_, fun k h2 hk => ?_, fun k h2 hk => ?_, fun k h2 hk => ?_, fun k hk => Nat.lt_of_lt_of_le (HU2.out.KL k hk) (Nat.le_trans hs6 (Nat.le_trans HC7.out.size hc8.size))⟩, fun k hk => (hFP k hk).imp id fun h => by omega, fun k hk => (HG6.out k hk).imp id fun h => by omega, ?_⟩
      · have hx := hH7.chg hc8 (fun _ e => HX.out.2.CP e.symm) fun k _ hk e => HU2.out.FC (e ▸ hk)
        exact ⟨hx.at_, hx.keys, hx.tree, hx.tl, hx.n8, hx.r32, hx.b1, hx.PF⟩
      · refine ⟨?_, HX.out.2.r32, hT8, hp7.chg hc8 fun k _ hk e => hKl k hk e, HX.out.2.len, HX.out.2.l64, by show s.at_ + 1 ≤ s.n + 1; omega, ?_, fun hk => (hFP C hk).elim HX.out.2.CF fun h => by omega, fun hk => (hFP P hk).elim HX.out.2.PF fun h => by omega, fun k hk h2 => ?_, HX.out.2.KC, HX.out.2.KP, HX.out.2.CP⟩
        · show CommP _ C P (s.ep + 1) (1 - s.bank) rt bv (min (s.at_ + 1) s.n) T2
          rw [show min (s.at_ + 1) s.n = i1 by rw [HI1.out]; omega]
          exact hcw
        · show (s.next ++ [tag]).length = min (s.at_ + 1) s.n
          rw [List.length_append, hnl, List.length_singleton]; omega
        · rcases hFP k h2 with h | h
          · exact HX.out.2.KF k hk h
          · have := HU2.out.KL k hk; omega
      · exact hd7.stay hc8 fun k _ hk e => by
          subst e
          exact (HG6.out k hk).elim HU2.out.GC fun h => by omega
      · rw [← HU2.out.dl]
        unfold writeL
        split
        · exact upd1_length _ _ _
        · rfl
      · rcases hFP k hk with h | h
        · exact HU2.out.F2 k h h2
        · have := hFTl k h2; omega
      · exact (HG6.out P hk).elim HU2.out.GP fun h => by omega
      · exact (HG6.out C hk).elim HU2.out.GC fun h => by omega
      · exact (HG6.out k hk).elim (HU2.out.GF k h2) fun h => by have := hFTl k h2; omega
      · rcases hFP k h2 with h | h
        · exact hG5 k hk h
        · have := HD6.out.lt k hk; omega
      · rcases HG6.out k hk with h | h
        · exact HU2.out.GK k h2 h
        · have := HU2.out.KL k h2; omega
      · refine ((Chg.below HN5.out _).then ((HC6.out.mono fun k _ _ hk => .inr (.inr hk)).then ((HC7.out.mono fun k _ _ hk => .inr (.inl hk)).then (hc8.mono fun k _ _ hk => .inl hk))))
    have HD8 : Hid (nextV { s with at_ := s.at_ + 1, next := s.next ++ [tag] } C = if i1 < n then wrV C else flV C) := by
      show _ = _
      have hi := HI.out
      have hn := HN.out
      have hi1' := HI1.out
      have hin := HNi.out.1
      unfold nextV
      show (if s.at_ + 1 < s.n then _ else if s.at_ + 1 = s.n then _ else _) = _
      by_cases h : i1 < n
      · rw [if_pos h, if_pos (by omega)]
      · rw [if_neg h, if_neg (by omega), if_pos (by omega)]
    obtain ⟨c36, f36, c36b, c35b, HFn⟩ := HFin.out
    have HFn' := Lib.hid HFn
    have hm3 := HM3.out
    clear HFin HFn HX HC6 HC7 HD6 HG6 HT7 HF7 HU2 HBw HN5 HGx
    by_cases hlt : i1 < n
    · go_wp2_with fail
      generalize w7.setCell ⟨C, 36, none⟩ (IV i1) = w8 at *
      go_quiet (fail)
      go_wp2
      go_ret
      exact ⟨congrArg Ending.returned (HD8.out.trans (if_pos hlt)).symm, _, _, _, HFn'.out.1.drewn _, HFn'.out.2.1, HFn'.out.2.2.1, HFn'.out.2.2.2.drewN _⟩
    · go_wp2_with fail
      generalize w7.setCell ⟨C, 36, none⟩ (IV i1) = w8 at *
      go_quiet (fail)
      go_wp2
      go_ret
      exact ⟨congrArg Ending.returned (HD8.out.trans (if_neg hlt)).symm, _, _, _, HFn'.out.1.drewn _, HFn'.out.2.1, HFn'.out.2.2.1, HFn'.out.2.2.2.drewN _⟩
  exact AllReadyH.nil
end Go.Proofs.YthbmknpbcgnabaaGreatDoor
