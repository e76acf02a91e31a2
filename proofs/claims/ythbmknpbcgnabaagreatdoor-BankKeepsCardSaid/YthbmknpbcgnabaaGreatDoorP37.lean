/-
  OF THE WALK: VO, VP.
-/
import Derived.Test.YthbmknpbcgnabaaGreatDoorP36
namespace Go.Proofs.YthbmknpbcgnabaaGreatDoor
open Go.RowKit Aes Ctr Sl Dsk
set_option maxRecDepth 100000 in
set_option maxHeartbeats 1000000 in
theorem Jflush_any {w : World} {P d : Nat} {ek mk : List UInt8} {s : Bk.Bn} {ks : List Value} {T : Nat} {FT : Nat → Prop} {nx : Value} {S : List Bool} {V : Nat} {C T2 : Nat} {FT2 KB G : Nat → Prop} {rt : List UInt8} {bv : Value} {S2 : List Bool} {D : List Blk}
    (h : Under w P d ek mk s ks T FT nx S V C T2 FT2 KB G rt bv S2 D) (ha : s.at_ = s.n) :
    Calls Tryz.prog 92 #[PT C] w fun e w' => e = .returned (nextV (Bk.step ek mk s D).1.1 C) ∧ ∃ G', Under w' P d ek mk (Bk.step ek mk s D).1.1 ks T FT nx S V C T2 FT2 KB G' rt bv S2 (Bk.step ek mk s D).1.2 ∧ (∀ k, G' k → G k ∨ w.heap.size ≤ k) ∧ Chg (fun k _ => G k) w w' := by
  have hL : s.L ≠ [] := h.com.busy h.head.n8
  have hst : Bk.step ek mk s D = (({ s with at_ := s.at_ + 1 }, Bk.flush D), false, 0) := by rw [Bk.step, if_neg hL, if_neg (by omega), if_pos ha]
  rw [hst]
  have hnx : nextV { s with at_ := s.at_ + 1 } C = fiV C := by
    unfold nextV
    show (if s.at_ + 1 < s.n then _ else if s.at_ + 1 = s.n then _ else _) = _
    rw [if_neg (by omega), if_neg (by omega)]
  rw [hnx]
  clear hnx hst hL
  have c0 := h.com.at_.cells.1
  have p0 := h.head.at_.cells.1
  have HF := Lib.hid (DFlush_any h.disk)
  have HEnd : Hid (∀ w', After w G w' d (crash (fun _ => true) D) → ∃ G', Under w' P d ek mk { s with at_ := s.at_ + 1 } ks T FT nx S V C T2 FT2 KB G' rt bv S2 (Bk.flush D) ∧ (∀ k, G' k → G k ∨ w.heap.size ≤ k) ∧ Chg (fun k _ => G k) w w') := fun w' ⟨G', hD, hG', hC⟩ => by
    have hFl : ∀ k, FT2 k → k < w.heap.size := Mr.treeAll.lt h.com.tree
    have hFTl : ∀ k, FT k → k < w.heap.size := Mr.treeAll.lt h.head.tree
    have hCl : C < w.heap.size := h.com.at_.c0.lt (by simp)
    have hPl : P < w.heap.size := h.head.at_.c0.lt (by simp)
    have hx := h.head.chg hC (fun _ => h.GP) fun k _ hk => h.GF k hk
    have hy := h.com.chg hC (fun _ => h.GC) (fun k _ hk => h.G2 k hk) fun k _ hk => h.GK k hk
    refine ⟨G', ⟨⟨hx.at_, hx.keys, hx.tree, hx.tl, hx.n8, hx.r32, hx.b1, hx.PF⟩, ⟨?_, hy.r32, hy.tree, hy.parts, hy.len, hy.l64, by show s.at_ + 1 ≤ s.n + 1; omega, ?_, hy.CF, hy.PF, hy.KF, hy.KC, hy.KP, hy.CP⟩, hD, ?_, h.FC, h.F2, fun hk => (hG' P hk).elim h.GP fun h => by omega, fun hk => (hG' C hk).elim h.GC fun h => by omega, fun k h2 hk => (hG' k hk).elim (h.GF k h2) fun h => by have := hFTl k h2; omega, fun k h2 hk => (hG' k hk).elim (h.G2 k h2) fun h => by have := hFl k h2; omega, fun k h2 hk => (hG' k hk).elim (h.GK k h2) fun h1 => by have := h.KL k h2; omega, fun k hk => Nat.lt_of_lt_of_le (h.KL k hk) hC.size⟩, hG', hC⟩
    · have := hy.at_
      rw [show min s.at_ s.n = min (s.at_ + 1) s.n by omega] at this
      exact this
    · show s.next.length = min (s.at_ + 1) s.n
      rw [hy.nlen]; omega
    · rw [Bk.flush_length]; exact h.dl
  clear h ha
  go_enter Tryz.func92, Tryz.ntmps92
  go_wp2_with fail
  refine HF.out.mono ?_
  rintro e w' ⟨rfl, hA⟩
  have HE := Lib.hid (HEnd.out _ hA)
  clear HF HEnd hA c0 p0
  go_wp2
  go_ret
  exact ⟨rfl, HE.out⟩
end Go.Proofs.YthbmknpbcgnabaaGreatDoor
namespace Go.Proofs.YthbmknpbcgnabaaGreatDoor
open Go.RowKit Aes Ctr Sl Dsk
set_option maxRecDepth 100000 in
set_option maxHeartbeats 2000000 in
theorem Jfinish_any {w : World} {P d : Nat} {ek mk : List UInt8} {s : Bk.Bn} {ks : List Value} {T : Nat} {FT : Nat → Prop} {nx : Value} {S : List Bool} {V : Nat} {C T2 : Nat} {FT2 KB G : Nat → Prop} {rt : List UInt8} {bv : Value} {S2 : List Bool} {D : List Blk}
    (h : Under w P d ek mk s ks T FT nx S V C T2 FT2 KB G rt bv S2 D) (ha : s.at_ = s.n + 1) (hT : Hm.Tab w) (hNT : ∀ k, FT2 k → k ≠ 0) :
    Calls Tryz.prog 124 #[PT C] w fun e w' => e = .returned .nilFunc ∧ ∃ FT2' S' V', HeadL w' P d ek mk ⟨s.n, s.ep + 1, 1 - s.bank, Bk.rootB mk s.next, s.next, [], 0, []⟩ ks T2 FT2' nx S' V' ∧ (∀ k, FT2' k → FT2 k ∨ w.heap.size ≤ k) ∧ Chg (fun k _ => k = P ∨ k = C ∨ FT2 k) w w' := by
  have hn100 := h.head.n100
  have hkl := h.head.kl
  have hnl : s.next.length = s.n := by rw [h.com.nlen]; omega
  have hLs : s.next ++ List.replicate (s.n - s.next.length) Mr.Mk.zero = s.next := by rw [hnl, Nat.sub_self, List.replicate_zero, List.append_nil]
  have htr := h.com.tree
  rw [hLs] at htr
  have c0 := h.com.at_.cells
  have HR := Lib.hid (Mr.treeAll.root htr hT hNT (by omega) (Bk.hB s.next.length) (Bk.hB_is _ (by omega)))
  have h32 := (Mr.treeAll.len htr).2.2.2
  have HRT : Hid (Bk.rootB mk s.next = Mr.Mk.root mk s.next (Bk.hB s.next.length)) := rfl
  have hrl : (Bk.rootB mk s.next).length = 32 := by rw [HRT.out, Mr.Mt.root_tv mk s.next _ (Bk.hB_is _ (by omega))]; exact Mr.Mt.tv_32 mk s.next h32 _ _
  rw [← HRT.out] at HR
  obtain ⟨root, hroot⟩ : ∃ r, r = Bk.rootB mk s.next := ⟨_, rfl⟩
  rw [← hroot] at HR hrl ⊢
  obtain ⟨ep1, hep1⟩ : ∃ x, x = s.ep + 1 := ⟨_, rfl⟩
  obtain ⟨bk1, hbk1⟩ : ∃ x, x = 1 - s.bank := ⟨_, rfl⟩
  obtain ⟨RG, hRG⟩ : ∃ r, r = regV ep1 bk1 root := ⟨_, rfl⟩
  have HRl : Hid (RG.length = 34) := by show _ = _; rw [hRG, regV_length hrl]
  have Hone2 : Hid (RG.toArray.all (·.oneCell') = true) := by
    show _ = _
    rw [hRG, regV]
    simp
    exact ⟨rfl, rfl, fun _ _ => rfl⟩
  have HU := Lib.hid h
  have hCP := h.com.CP
  -- behind Root (w1), its store (w2), both stores of the bank (w3, w4)
  have HW1 : Hid (∀ w1, Mr.AfterT Mr.T9 w FT2 w1 T2 mk s.next (List.replicate s.next.length false) (0 + Mr.Mt.st (Bk.hB s.next.length) S2) → ∀ rs : List Value, Vec 32 root rs →
      w1.there C 3 rs.toArray.size ∧ ∃ FT2', (∀ k, FT2' k → FT2 k ∨ w.heap.size ≤ k) ∧
      (∀ W, Chg (fun k _ => k = P) (w1.setCells C 3 rs) W → W.cell? ⟨C, 0, none⟩ = some (PT P) ∧ W.rangeAt C 1 RG ∧ W.cell? ⟨C, 37, none⟩ = some (PT T2)) ∧
      (∀ W, Chg (fun _ _ => False) (w1.setCells C 3 rs) W → W.there P 49 34 ∧ (W.setCells P 49 RG).cell? ⟨P, 83, none⟩ = some (PT T) ∧ (W.setCells P 49 RG).frozen? ⟨P, 83, none⟩ = false ∧ Chg (fun k _ => k = P) (w1.setCells C 3 rs) (W.setCells P 49 RG) ∧ Chg (fun k _ => k = P) (w1.setCells C 3 rs) ((W.setCells P 49 RG).setCell ⟨P, 83, none⟩ (PT T2)) ∧
        ∃ S' V', HeadL ((W.setCells P 49 RG).setCell ⟨P, 83, none⟩ (PT T2)) P d ek mk ⟨s.n, ep1, bk1, root, s.next, [], 0, []⟩ ks T2 FT2' nx S' V' ∧ Chg (fun k _ => k = P ∨ k = C ∨ FT2 k) w ((W.setCells P 49 RG).setCell ⟨P, 83, none⟩ (PT T2)))) := fun w1 ⟨FT2', hT1, hF1, hC1⟩ rs hv => by
    have hvl := hv.len
    have hrs : rs = root.map V8 := hv.1
    have hc1 := h.com.at_.chg hC1 fun _ => h.com.CF
    have hreg : Here w1 C 1 ([Value.int .u64 ((s.ep + 1 : Nat) : Int), .int .i64 ((1 - s.bank : Nat) : Int)] ++ rt.map V8) := hc1.reg
    have hth : w1.there C 3 rs.toArray.size := by
      have := hreg.right.2
      rw [List.length_map, h.com.r32] at this
      rw [List.size_toArray, hvl]; exact this
    have hc2 := hc1.rooted h.com.r32 root hrl
    rw [← hrs] at hc2
    have hC2 : Chg (fun k _ => k = C) w1 (w1.setCells C 3 rs) := (Chg.refl _ w1).setCells (fun _ _ _ => rfl) (by rw [List.size_toArray] at hth; exact hth)
    have hh1 := h.head.chg hC1 (fun _ => h.com.PF) fun k _ hk h2 => h.F2 k h2 hk
    have hh2 := hh1.chg hC2 (fun _ e => hCP e.symm) fun k _ hk e => h.FC (e ▸ hk)
    have hCl : C < w.heap.size := h.com.at_.c0.lt (by simp)
    have hPl : P < w.heap.size := h.head.at_.c0.lt (by simp)
    have hFC : ¬ FT2' C := fun hk => (hF1 C hk).elim h.com.CF fun h => by omega
    have hFP : ¬ FT2' P := fun hk => (hF1 P hk).elim h.com.PF fun h => by omega
    have hT2 := Mr.treeAll.stay hT1 hC2 fun k _ hk e => hFC (e ▸ hk)
    refine ⟨hth, FT2', hF1, fun W hW => ?_, fun W hW => ?_⟩
    · have hc3 := hc2.chg hW fun _ e => hCP e
      refine ⟨hc3.cells.1, ?_, hc3.cells.2.2.2.2.2⟩
      rw [hRG, hep1, hbk1]
      exact hc3.reg.1
    · have hh3 := hh2.chg hW (fun _ x => x) fun _ _ _ x => x
      have hl34 : ∀ {a b : Nat} {r : List UInt8}, r.length = 32 → (regV a b r).length = 34 := fun h => regV_length h
      have hth3 : W.there P 49 34 := by have := hh3.at_.reg.2; rwa [hl34 h.head.r32] at this
      have hh4 := hh3.at_.regs hkl h.head.r32 ep1 bk1 root hrl
      rw [← hRG] at hh4
      have hC4 : Chg (fun k _ => k = P) W (W.setCells P 49 RG) := (Chg.refl _ W).setCells (fun _ _ _ => rfl) (by rw [HRl.out]; exact hth3)
      have hh5 := hh4.treed hkl hrl T2
      have hs := headP_some hh4
      have hC5 : Chg (fun k _ => k = P) (W.setCells P 49 RG) ((W.setCells P 49 RG).setCell ⟨P, 83, none⟩ (PT T2)) := (Chg.refl _ _).setCell (p := ⟨P, 83, none⟩) rfl (fun _ => rfl) hs.1 _
      have hW' : Chg (fun k _ => k = P) (w1.setCells C 3 rs) W := hW.mono fun _ _ _ x => x.elim
      refine ⟨hth3, hh4.cells.2.2.2.1, hs.2.2.1, hW'.then hC4, hW'.then (hC4.then hC5), _, _, ⟨hh5, h.head.keys, Mr.treeAll.stay (Mr.treeAll.stay hT2 hW fun _ _ _ x => x) (hC4.then hC5) fun k _ hk e => hFP (e ▸ hk), hnl, h.head.n8, hrl, by show bk1 ≤ 1; omega, hFP⟩, ?_⟩
      exact (hC1.mono fun _ _ _ hk => .inr (.inr hk)).then ((hC2.mono fun _ _ _ hk => .inr (.inl hk)).then ((hW'.then (hC4.then hC5)).mono fun _ _ _ hk => .inl hk))
  have hc37 := c0.2.2.2.2.2
  have hi2 : (Tryz.prog.info? 41).map (·.size) = some RG.length := by rw [HRl.out]; kernel_rfl
  have HE1 := Lib.hid hep1
  have HB1 := Lib.hid hbk1
  rw [← HE1.out, ← HB1.out]
  clear h ha hT hNT hn100 hkl hnl hLs htr h32 HRT hrl hRG hep1 hbk1 hCP c0 hroot
  go_enter Tryz.func124, Tryz.ntmps124
  go_wp2_with fail
  refine HR.out.mono ?_
  rintro e w1 ⟨rs, ⟨Hrs, rfl⟩, hA⟩
  have Hsz : Hid (rs.toArray.size = 32) := Hrs.out.size
  have Hone : Hid (rs.toArray.all (·.oneCell') = true) := Hrs.out.one
  obtain ⟨hth, FT2', hF2, hS, hP⟩ := HW1.out w1 hA rs Hrs.out
  have HTh := Lib.hid hth
  have HF2 := Lib.hid hF2
  have HS := Lib.hid hS
  have HP := Lib.hid hP
  clear HW1 HR hA hth hF2 hS hP hc37
  go_wp2_with (refine wpList_store_mid rfl 27 (.tmp 11) (.tmp 8) rfl C 3 rs.toArray rfl rfl HTh.out (by rw [Hsz.out]; kernel_rfl) Hone.out ?_; rw [List.toList_toArray])
  generalize w1.setCells C 3 rs = w2 at *
  have HDr : Hid (Chg (fun _ _ => False) w2 w2.drew) := (Chg.refl _ w2).drew
  have HDp : Hid (Chg (fun k _ => k = P) w2 w2.drew) := (Chg.refl _ w2).drew
  refine wp_region_held_drew (S := (fun W => W.cell? ⟨C, 0, none⟩ = some (PT P) ∧ W.rangeAt C 1 RG ∧ W.cell? ⟨C, 37, none⟩ = some (PT T2))) (by kernel_rfl) (HS.out _ HDp.out) (fun hHeld => ?_)
  generalize w2.drew = w2d at *
  refine wpAnyH_take (i := 0) (oi := ⟨some 12, _, _, _, _, _⟩) (v := ?_) rfl (by kernel_rfl) (by kernel_rfl) (by kernel_rfl) (fun _ _ _ h => h) (Or.inl ⟨by rfl, ?_⟩) hHeld ?_
  rotate_left
  · intro w hSw
    go_simp
    with_reducible rfl
  try go_frame
  refine wpAnyH_take (i := 1) (oi := ⟨some 13, _, _, _, _, _⟩) (v := ?_) rfl (by kernel_rfl) (by kernel_rfl) (by kernel_rfl) (fun _ _ _ h => h) (Or.inl ⟨by rfl, ?_⟩) hHeld ?_
  rotate_left
  · intro w hSw
    go_simp
    with_reducible rfl
  try go_frame
  refine wpAnyH_take (i := 2) (oi := ⟨some 14, _, _, _, _, _⟩) (v := ?_) rfl (by kernel_rfl) (by kernel_rfl) (by kernel_rfl) (fun _ _ _ h => h) (Or.inl ⟨by rfl, ?_⟩) hHeld ?_
  rotate_left
  · intro w hSw
    go_simp
    with_reducible rfl
  try go_frame
  refine wpAnyH_take (i := 3) (oi := ⟨some 15, _, _, _, _, _⟩) (v := ?_) rfl (by kernel_rfl) (by kernel_rfl) (by kernel_rfl) (fun _ _ _ h => h) (Or.inl ⟨by rfl, ?_⟩) hHeld ?_
  rotate_left
  · intro w hSw
    have hc := hSw.1
    go_simp
    with_reducible rfl
  try go_frame
  refine wpAnyH_take (i := 4) (oi := ⟨some 16, _, _, _, _, _⟩) (v := ?_) rfl (by kernel_rfl) (by kernel_rfl) (by kernel_rfl) (fun _ _ _ h => h) (Or.inl ⟨by rfl, ?_⟩) hHeld ?_
  rotate_left
  · intro w hSw
    go_simp
    with_reducible rfl
  try go_frame
  refine wpAnyH_take (i := 5) (oi := ⟨some 17, _, _, _, _, _⟩) (v := ?_) rfl (by kernel_rfl) (by kernel_rfl) (by kernel_rfl) (fun _ _ _ h => h) (Or.inl ⟨by rfl, ?_⟩) hHeld ?_
  rotate_left
  · intro w hSw
    go_simp
    with_reducible rfl
  try go_frame
  refine wpAnyH_take (i := 6) (oi := ⟨some 18, _, _, _, _, _⟩) (v := ?_) rfl (by kernel_rfl) (by kernel_rfl) (by kernel_rfl) (fun _ _ _ h => h) (Or.inl ⟨by rfl, ?_⟩) hHeld ?_
  rotate_left
  · intro w hSw
    go_simp
    with_reducible rfl
  try go_frame
  refine wpAnyH_take (i := 7) (oi := ⟨some 19, _, _, _, _, _⟩) (v := ?_) rfl (by kernel_rfl) (by kernel_rfl) (by kernel_rfl) (fun _ _ _ h => h) (Or.inl ⟨by rfl, ?_⟩) hHeld ?_
  rotate_left
  · intro w hSw
    have hc := hSw.1
    go_simp
    with_reducible rfl
  try go_frame
  refine wpAnyH_take (i := 8) (oi := ⟨some 20, _, _, _, _, _⟩) (v := ?_) rfl (by kernel_rfl) (by kernel_rfl) (by kernel_rfl) (fun _ _ _ h => h) (Or.inl ⟨by rfl, ?_⟩) hHeld ?_
  rotate_left
  · intro w hSw
    go_simp
    with_reducible rfl
  try go_frame
  refine wpAnyH_take (i := 9) (oi := ⟨some 21, _, _, _, _, _⟩) (v := ?_) rfl (by kernel_rfl) (by kernel_rfl) (by kernel_rfl) (fun _ _ _ h => h) (Or.inl ⟨by rfl, ?_⟩) hHeld ?_
  rotate_left
  · intro w hSw
    go_simp
    with_reducible rfl
  try go_frame
  refine wpAnyH_take (i := 10) (oi := ⟨some 22, _, _, _, _, _⟩) (v := ?_) rfl (by kernel_rfl) (by kernel_rfl) (by kernel_rfl) (fun _ _ _ h => h) (Or.inl ⟨by rfl, ?_⟩) hHeld ?_
  rotate_left
  · intro w hSw
    go_simp
    with_reducible rfl
  try go_frame
  refine wpAnyH_take (i := 11) (oi := ⟨some 23, _, _, _, _, _⟩) (v := .agg (RG).toArray) rfl (by kernel_rfl) (by kernel_rfl) (by kernel_rfl) (fun _ _ _ h => h) (yieldsIf_load_mid (by rfl) 41 (.tmp 22) rfl (C) 1 rfl (RG) _ (fun W h => h.2.1) Tryz.underlying41 rfl hi2) hHeld ?_
  try go_frame
  refine wpAnyH_take (i := 12) (oi := ⟨some 24, _, _, _, _, _⟩) (v := ?_) rfl (by kernel_rfl) (by kernel_rfl) (by kernel_rfl) (fun _ _ _ h => h) (Or.inl ⟨by rfl, ?_⟩) hHeld ?_
  rotate_left
  · intro w hSw
    go_simp
    with_reducible rfl
  try go_frame
  refine wpAnyH_take (i := 13) (oi := ⟨some 25, _, _, _, _, _⟩) (v := ?_) rfl (by kernel_rfl) (by kernel_rfl) (by kernel_rfl) (fun _ _ _ h => h) (Or.inl ⟨by rfl, ?_⟩) hHeld ?_
  rotate_left
  · intro w hSw
    go_simp
    with_reducible rfl
  try go_frame
  refine wpAnyH_take (i := 14) (oi := ⟨some 26, _, _, _, _, _⟩) (v := ?_) rfl (by kernel_rfl) (by kernel_rfl) (by kernel_rfl) (fun _ _ _ h => h) (Or.inl ⟨by rfl, ?_⟩) hHeld ?_
  rotate_left
  · intro w hSw
    go_simp
    with_reducible rfl
  try go_frame
  refine wpAnyH_take (i := 15) (oi := ⟨some 27, _, _, _, _, _⟩) (v := ?_) rfl (by kernel_rfl) (by kernel_rfl) (by kernel_rfl) (fun _ _ _ h => h) (Or.inl ⟨by rfl, ?_⟩) hHeld ?_
  rotate_left
  · intro w hSw
    have hc := hSw.2.2
    go_simp
    with_reducible rfl
  try go_frame
  refine wpAnyH_take (i := 16) (oi := ⟨some 28, _, _, _, _, _⟩) (v := ?_) rfl (by kernel_rfl) (by kernel_rfl) (by kernel_rfl) (fun _ _ _ h => h) (Or.inl ⟨by rfl, ?_⟩) hHeld ?_
  rotate_left
  · intro w hSw
    go_simp
    with_reducible rfl
  try go_frame
  refine wpAnyH_take (i := 17) (oi := ⟨some 29, _, _, _, _, _⟩) (v := ?_) rfl (by kernel_rfl) (by kernel_rfl) (by kernel_rfl) (fun _ _ _ h => h) (Or.inl ⟨by rfl, ?_⟩) hHeld ?_
  rotate_left
  · intro w hSw
    go_simp
    with_reducible rfl
  try go_frame
  refine wpAnyH_ready (rs := [18]) (by kernel_rfl) (by simp) ?_
  refine AllReadyH.cons (o := ⟨none, _, _, _, _, _⟩) rfl (fun K hK => ?_) AllReadyH.nil
  rw [if_pos (by rfl)]
  obtain ⟨hth3, hc83, hf83, hC4, hC5, S', V', hH, hCh⟩ := HP.out _ HDr.out
  have HEnd := Lib.hid (And.intro hH hCh)
  clear hH hCh HP
  refine Go.wp_store_mid 41 (.tmp 29) (.tmp 23) rfl P 49 RG.toArray rfl rfl (by rw [List.size_toArray, HRl.out]; exact hth3) (by rw [List.size_toArray]; exact hi2) Hone2.out ?_
  rw [List.toList_toArray]
  refine hK.out _ _ (HS.out _ hC4) (fun hHeld => ?_)
  clear hK K hth3
  generalize w2d.setCells P 49 RG = w3 at *
  try go_frame
  refine wpAnyH_take (i := 19) (oi := ⟨some 30, _, _, _, _, _⟩) (v := ?_) rfl (by kernel_rfl) (by kernel_rfl) (by kernel_rfl) (fun _ _ _ h => h) (Or.inl ⟨by rfl, ?_⟩) hHeld ?_
  rotate_left
  · intro w hSw
    go_simp
    with_reducible rfl
  try go_frame
  refine wpAnyH_take (i := 20) (oi := ⟨some 31, _, _, _, _, _⟩) (v := ?_) rfl (by kernel_rfl) (by kernel_rfl) (by kernel_rfl) (fun _ _ _ h => h) (Or.inl ⟨by rfl, ?_⟩) hHeld ?_
  rotate_left
  · intro w hSw
    go_simp
    with_reducible rfl
  try go_frame
  refine wpAnyH_ready (rs := [21]) (by kernel_rfl) (by simp) ?_
  refine AllReadyH.cons (o := ⟨none, _, _, _, _, _⟩) rfl (fun K hK => ?_) AllReadyH.nil
  go_simp
  refine hK.out _ _ (HS.out _ hC5) (fun hHeld => ?_)
  clear hK K
  try go_frame
  refine wpAnyH_done (by kernel_rfl) ?_ _
  clear hHeld hC4 hC5
  go_wp2
  go_ret
  exact ⟨rfl, FT2', S', V', HEnd.out.1, HF2.out, HEnd.out.2⟩
end Go.Proofs.YthbmknpbcgnabaaGreatDoor
