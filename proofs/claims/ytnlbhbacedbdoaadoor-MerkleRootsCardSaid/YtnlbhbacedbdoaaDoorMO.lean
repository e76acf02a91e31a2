/-
  THE WALK of the law MerkleRoots.
-/
import Derived.Test.YtnlbhbacedbdoaaDoorMM
namespace Go.Proofs.YtnlbhbacedbdoaaDoor
open Go.RowKit Mk

theorem isH_le {n h : Nat} (hn : n ≤ 1000) (H : IsH n h) : h ≤ 9 := by
  rcases H.2.2 with e | e
  · omega
  · have := pow4_lt (h := h - 1) (by omega)
    omega

set_option maxRecDepth 100000 in
set_option maxHeartbeats 2000000 in
theorem MRoots_any (C : Merkle) (key : Tg) (l : List Tg) (v0 x : Value) (d m : Int) (w : World) (hT : Hm.Tab w) (h0 : Arg w v0 key) (h1 : Tags w x l) :
    Calls Tryd.prog 3 #[v0, x, .int .i64 d, .int .i64 m] w fun e w' => e = .returned (.bool true) ∧ Below w.heap.size w w' := by
  obtain ⟨A0, c0, rfl⟩ := h0.form
  obtain ⟨A1, c1, rfl⟩ : ∃ A c, x = .slice A l.length c := by obtain ⟨_, A, c, e, _⟩ := h1; exact ⟨A, c, e⟩
  obtain ⟨n0, hn0⟩ : ∃ n, n = key.length := ⟨_, rfl⟩
  obtain ⟨n, hnl⟩ : ∃ n, n = l.length := ⟨_, rfl⟩
  rw [← hn0] at h0 ⊢
  rw [← hnl] at h1 ⊢
  have HN0 := Lib.hid hn0
  have HNl := Lib.hid hnl
  have H32 : Hid (∀ t ∈ l, List.length t = 32) := h1.1
  have hz := Hm.zeroTag
  have HT := Lib.hid hT
  have HA := Lib.hid h0
  have HG := Lib.hid h1
  clear hn0 hnl hT h0 h1
  rcases Nat.lt_or_ge 100 n0 with hl0 | hl0
  · go_enter Tryd.func3, Tryd.ntmps3
    go_wp2_with fail
    refine (Mknows_any C w HT.out).mono ?_
    rintro e w1 ⟨rfl, hb⟩
    go_wp2
    go_ret
    exact ⟨rfl, hb⟩
  rcases Nat.lt_or_ge 70 n with hl1 | hl1
  · go_enter Tryd.func3, Tryd.ntmps3
    go_wp2_with fail
    refine (Mknows_any C w HT.out).mono ?_
    rintro e w1 ⟨rfl, hb⟩
    go_wp2
    go_ret
    exact ⟨rfl, hb⟩
  rcases Int.lt_or_le 100000 m with hm | hm
  · go_enter Tryd.func3, Tryd.ntmps3
    go_wp2_with fail
    refine (Mknows_any C w HT.out).mono ?_
    rintro e w1 ⟨rfl, hb⟩
    go_wp2
    go_ret
    exact ⟨rfl, hb⟩
  have HKl : Hid (key.length ≤ 1000) := by show _ ≤ _; rw [← HN0.out]; omega
  have HLl : Hid (l.length ≤ 70) := by show _ ≤ _; rw [← HNl.out]; exact hl1
  go_enter Tryd.func3, Tryd.ntmps3
  go_wp2_with fail
  refine (Hm.New_any _ key (by have := HKl.out; omega) w HA.out).mono ?_
  rintro e w1 ⟨pm, rfl, hk1, hb⟩
  obtain ⟨gm, rb, rc, cb, cc, rfl, hin⟩ := hk1.named
  have HKM := Lib.hid hk1
  have HC := Lib.hid hb
  clear hin hk1
  replace HT := Lib.hid (HT.out.below hb)
  replace HA := Lib.hid (HA.out.below hb)
  replace HG := Lib.hid (HG.out.below hb)
  clear hb
  go_wp2_with fail
  refine (RMWhole_any m hm w1).mono ?_
  rintro e w2 ⟨⟨h, N, HH, h9, HN, rfl⟩, hb⟩
  replace HC := Lib.hid (HC.out.trans (hb.mono HC.out.size))
  replace HT := Lib.hid (HT.out.below hb)
  replace HA := Lib.hid (HA.out.below hb)
  replace HG := Lib.hid (HG.out.below hb)
  replace HKM := Lib.hid (HKM.out.below hb)
  clear hb
  go_wp2_with fail
  refine (C.root key l _ _ w2 HKl.out HLl.out HT.out HA.out HG.out).mono ?_
  rintro e w4 ⟨⟨hl, rs, HHl, Hrs, rfl⟩, hb⟩
  have Hss : Hid (rs.toArray.size = 32) := Hrs.out.size
  have Hso : Hid (rs.toArray.all (·.oneCell') = true) := Hrs.out.one
  replace HC := Lib.hid (HC.out.trans (hb.mono HC.out.size))
  replace HT := Lib.hid (HT.out.below hb)
  replace HA := Lib.hid (HA.out.below hb)
  replace HG := Lib.hid (HG.out.below hb)
  replace HKM := Lib.hid (HKM.out.below hb)
  clear hb
  go_wp2_with (refine wpList_store_row rfl 30 (.tmp 12) (.tmp 37) rfl w4.heap.size rs.toArray rfl rfl 30 _ (Row.new w4 _ Hm.Z32) (by rw [Hss.out]; kernel_rfl) (by rw [Hss.out]; rfl) Hso.out ?_)
  have HX_TB : Hid (Row ((w4.alloc (.cells Hm.Z32.toArray 30)).setRow w4.heap.size rs.toArray) w4.heap.size 30 rs) := (Row.new w4 30 Hm.Z32).whole rs
  have hb : Below w4.heap.size w4 ((w4.alloc (.cells Hm.Z32.toArray 30)).setRow w4.heap.size rs.toArray) := below_setRow' ((Below.refl _ _).alloc (Nat.le_refl _) _) (Nat.le_refl _) _
  obtain ⟨TB, hTB⟩ : ∃ X, X = w4.heap.size := ⟨_, rfl⟩
  have hb2 : Below w4.heap.size w4 ((w4.alloc (.cells Hm.Z32.toArray 30)).setRow TB rs.toArray) := by rw [hTB]; exact hb
  rw [← hTB] at HX_TB ⊢
  clear hb hTB
  generalize ((w4.alloc (.cells Hm.Z32.toArray 30)).setRow TB rs.toArray) = w5 at *
  have hb := hb2
  clear hb2
  replace HC := Lib.hid (HC.out.trans (hb.mono HC.out.size))
  replace HT := Lib.hid (HT.out.below hb)
  replace HA := Lib.hid (HA.out.below hb)
  replace HG := Lib.hid (HG.out.below hb)
  replace HKM := Lib.hid (HKM.out.below hb)
  clear hb
  have HKeep : Hid (∀ W, Below w5.heap.size w5 W → (convert 22 9 (.slice (some ⟨TB, 0, none⟩) 32 32)).run Tryd.prog W = .ok (.string (strB (root key l hl))) W) := fun W hW => conv_arg ((Hrs.out.row (HX_TB.out.below hW HX_TB.out.lt)).arg 32 Hrs.out.2)
  go_wp2
  have hC : Below w5.heap.size w5 w5.drew := below_drewN (Below.refl _ _) 1
  refine wp_region_held_drew (S := (fun W => (convert 22 9 (.slice (some ⟨TB, 0, none⟩) 32 32)).run Tryd.prog W = .ok (.string (strB (root key l hl))) W)) (by kernel_rfl) (HKeep.out _ hC) (fun hHeld => ?_)
  generalize w5.drew = w5d at *
  refine wpAnyH_take (i := 0) (oi := ⟨some 38, _, _, _, _, _⟩) (v := ?_) rfl (by kernel_rfl) (by kernel_rfl) (by kernel_rfl) (fun _ _ _ h => h) (Or.inl ⟨by rfl, ?_⟩) hHeld ?_
  rotate_left
  · intro w hSw
    go_simp
    with_reducible rfl
  try go_frame
  refine wpAnyH_take (i := 2) (oi := ⟨some 40, _, _, _, _, _⟩) (v := ?_) rfl (by kernel_rfl) (by kernel_rfl) (by kernel_rfl) (fun _ _ _ h => h) (Or.inl ⟨by rfl, ?_⟩) hHeld ?_
  rotate_left
  · intro w hSw
    go_simp
    with_reducible rfl
  try go_frame
  refine wpAnyH_ready (rs := [1]) (by kernel_rfl) (by simp) ?_
  refine AllReadyH.cons (o := ⟨some 39, _, _, _, _, _⟩) rfl (fun K hK => ?_) AllReadyH.nil
  go_simp
  go_at_call 10
  refine (C.height m w5d hm).mono ?_
  rintro e w5d_ht ⟨⟨hh, Hh, _, rfl⟩, hb⟩
  replace hC := hC.trans (hb.mono hC.size)
  refine hK.out _ _ (HKeep.out _ hC) (fun hHeld => ?_)
  clear hK K hb 
  obtain rfl : h = hh := HH.out.unique Hh.out
  clear Hh
  try go_frame
  refine wpAnyH_take (i := 3) (oi := ⟨some 41, _, _, _, _, _⟩) (v := ?_) rfl (by kernel_rfl) (by kernel_rfl) (by kernel_rfl) (fun _ _ _ h => h) (Or.inl ⟨by rfl, ?_⟩) hHeld ?_
  rotate_left
  · intro w hSw
    go_simp
    with_reducible rfl
  try go_frame
  refine wpAnyH_take (i := 4) (oi := ⟨some 42, _, _, _, _, _⟩) (v := ?_) rfl (by kernel_rfl) (by kernel_rfl) (by kernel_rfl) (fun _ _ _ h => h) (Or.inl ⟨by rfl, ?_⟩) hHeld ?_
  rotate_left
  · intro w hSw
    go_simp
    with_reducible rfl
  try go_frame
  refine wpAnyH_take (i := 5) (oi := ⟨some 43, _, _, _, _, _⟩) (v := ?_) rfl (by kernel_rfl) (by kernel_rfl) (by kernel_rfl) (fun _ _ _ h => h) (Or.inl ⟨by rfl, ?_⟩) hHeld ?_
  rotate_left
  · intro w hSw
    go_simp
    with_reducible rfl
  try go_frame
  refine wpAnyH_take (i := 6) (oi := ⟨some 44, _, _, _, _, _⟩) (v := ?_) rfl (by kernel_rfl) (by kernel_rfl) (by kernel_rfl) (fun _ _ _ h => h) (Or.inl ⟨by rfl, ?_⟩) hHeld ?_
  rotate_left
  · intro w hSw
    have hS1 := hSw
    go_simp
    with_reducible rfl
  try go_frame
  refine wpAnyH_take (i := 7) (oi := ⟨some 45, _, _, _, _, _⟩) (v := ?_) rfl (by kernel_rfl) (by kernel_rfl) (by kernel_rfl) (fun _ _ _ h => h) (Or.inl ⟨by rfl, ?_⟩) hHeld ?_
  rotate_left
  · intro w hSw
    go_simp
    with_reducible rfl
  try go_frame
  refine wpAnyH_take (i := 8) (oi := ⟨some 46, _, _, _, _, _⟩) (v := ?_) rfl (by kernel_rfl) (by kernel_rfl) (by kernel_rfl) (fun _ _ _ h => h) (Or.inl ⟨by rfl, ?_⟩) hHeld ?_
  rotate_left
  · intro w hSw
    go_simp
    with_reducible rfl
  try go_frame
  refine wpAnyH_ready (rs := [9]) (by kernel_rfl) (by simp) ?_
  refine AllReadyH.cons (o := ⟨some 47, _, _, _, _, _⟩) rfl (fun K hK => ?_) AllReadyH.nil
  go_simp
  go_at_call 12
  refine (MTexts_any l (by have := HLl.out; omega) _ w5d_ht (HG.out.below hC)).mono ?_
  rintro e w5d_ht_tx ⟨⟨xr, rfl, Hxr⟩, hb⟩
  have F_x : Hid (From w5d_ht_tx xr (l.map VS)) := Hxr.out.from_
  replace hC := hC.trans (hb.mono hC.size)
  refine hK.out _ _ (HKeep.out _ hC) (fun hHeld => ?_)
  clear hK K hb 
  clear Hxr
  try go_frame
  refine wpAnyH_ready (rs := [10]) (by kernel_rfl) (by simp) ?_
  refine AllReadyH.cons (o := ⟨some 48, _, _, _, _, _⟩) rfl (fun K hK => ?_) AllReadyH.nil
  go_simp
  go_at_call 11
  refine (RMRoot_any _ key l H32.out HLl.out _ w5d_ht_tx (HKM.out.below hC) F_x.out).mono ?_
  rintro e w5d_ht_tx_rr ⟨⟨h2, Hh2, rfl⟩, hb⟩
  replace hC := hC.trans (hb.mono hC.size)
  replace F_x := Lib.hid (F_x.out.below hb)
  refine hK.out _ _ (HKeep.out _ hC) (fun hHeld => ?_)
  clear hK K hb 
  obtain rfl : hl = h2 := HHl.out.unique Hh2.out
  clear Hh2 F_x
  try go_frame
  refine wpAnyH_take (i := 11) (oi := ⟨some 49, _, _, _, _, _⟩) (v := ?_) rfl (by kernel_rfl) (by kernel_rfl) (by kernel_rfl) (fun _ _ _ h => h) (Or.inl ⟨by rfl, ?_⟩) hHeld ?_
  rotate_left
  · intro w hSw
    go_simp
    with_reducible rfl
  try go_frame
  refine wpAnyH_take (i := 12) (oi := ⟨some 50, _, _, _, _, _⟩) (v := ?_) rfl (by kernel_rfl) (by kernel_rfl) (by kernel_rfl) (fun _ _ _ h => h) (Or.inl ⟨by rfl, ?_⟩) hHeld ?_
  rotate_left
  · intro w hSw
    go_simp
    with_reducible rfl
  try go_frame
  refine wpAnyH_done (by kernel_rfl) ?_ _
  have hb := hC
  clear hC HKeep hHeld
  replace HC := Lib.hid (HC.out.trans (hb.mono HC.out.size))
  replace HT := Lib.hid (HT.out.below hb)
  replace HA := Lib.hid (HA.out.below hb)
  replace HG := Lib.hid (HG.out.below hb)
  replace HKM := Lib.hid (HKM.out.below hb)
  clear hb
  generalize w5d_ht_tx_rr = w7 at *
  clear HX_TB
  rcases Classical.em (d < 0 ∨ (n : Int) ≤ d) with hbad | hok
  · go_wp2_with fail
    refine (C.bad key l _ _ d w7 HKl.out HLl.out (by rw [← HNl.out]; exact hbad) HT.out HA.out HG.out).mono ?_
    rintro e w8 ⟨rfl, hb⟩
    replace HC := Lib.hid (HC.out.trans (hb.mono HC.out.size))
    replace HT := Lib.hid (HT.out.below hb)
    clear hb
    rcases hbad with hb1 | hb1
    · go_wp2_with fail
      refine (Mknows_any C w8 HT.out).mono ?_
      rintro e w9 ⟨rfl, hb⟩
      replace HC := Lib.hid (HC.out.trans (hb.mono HC.out.size))
      clear hb
      go_wp2
      go_ret
      exact ⟨rfl, HC.out⟩
    · have hd0 : 0 ≤ d := by omega
      go_wp2_with fail
      refine (Mknows_any C w8 HT.out).mono ?_
      rintro e w9 ⟨rfl, hb⟩
      replace HC := Lib.hid (HC.out.trans (hb.mono HC.out.size))
      clear hb
      go_wp2
      go_ret
      exact ⟨rfl, HC.out⟩
  · obtain ⟨p, rfl⟩ : ∃ p : Nat, d = (p : Int) := ⟨d.toNat, by omega⟩
    have hpn : p < n := by omega
    clear hok
    go_wp2_with fail
    refine (C.way key l _ _ p w7 HKl.out HLl.out (by rw [← HNl.out]; exact hpn) HT.out HA.out HG.out).mono ?_
    rintro e w8 ⟨⟨h3, wv, Hh3, HF, rfl⟩, hb⟩
    obtain rfl : hl = h3 := HHl.out.unique Hh3.out
    clear Hh3
    replace HC := Lib.hid (HC.out.trans (hb.mono HC.out.size))
    replace HT := Lib.hid (HT.out.below hb)
    replace HA := Lib.hid (HA.out.below hb)
    replace HG := Lib.hid (HG.out.below hb)
    replace HKM := Lib.hid (HKM.out.below hb)
    clear hb
    have Hw4 : Hid (∀ f ∈ way key l hl p, f.length = 4) := fun f hf => (HF.out.1 f hf).1
    have Hwl : Hid ((way key l hl p).length ≤ 900) := by show _ ≤ _; rw [way, List.length_map, List.length_range]; have := isH_le (by have := HLl.out; omega) HHl.out; omega
    obtain ⟨X, HX⟩ : ∃ X, Hid (X = way key l hl p) := ⟨_, rfl⟩
    rw [← HX.out] at HF Hw4 Hwl
    obtain ⟨Aw, cw, rfl⟩ : ∃ A c, wv = .slice A X.length c := by obtain ⟨_, A, c, e, _⟩ := HF.out; exact ⟨A, c, e⟩
    obtain ⟨nw, hnw⟩ : ∃ n, n = X.length := ⟨_, rfl⟩
    rw [← hnw] at HF ⊢
    have HNw := Lib.hid hnw
    clear hnw
    go_wp2_with fail
    refine (Mways_any X Hwl.out _ w8 HF.out).mono ?_
    rintro e w9 ⟨⟨r1, rfl, HR1⟩, hb⟩
    replace HC := Lib.hid (HC.out.trans (hb.mono HC.out.size))
    replace HT := Lib.hid (HT.out.below hb)
    replace HA := Lib.hid (HA.out.below hb)
    replace HG := Lib.hid (HG.out.below hb)
    replace HKM := Lib.hid (HKM.out.below hb)
    clear hb
    go_wp2_with fail
    refine (MTexts_any l (by have := HLl.out; omega) _ w9 HG.out).mono ?_
    rintro e w10 ⟨⟨xr, rfl, Hxr⟩, hb⟩
    have HF2 : Hid (From w10 xr (l.map VS)) := Hxr.out.from_
    clear Hxr
    replace HC := Lib.hid (HC.out.trans (hb.mono HC.out.size))
    replace HT := Lib.hid (HT.out.below hb)
    replace HA := Lib.hid (HA.out.below hb)
    replace HG := Lib.hid (HG.out.below hb)
    replace HKM := Lib.hid (HKM.out.below hb)
    replace HR1 := Lib.hid (HR1.out.below hb)
    clear hb
    go_wp2_with fail
    refine (RMWay_any _ key l H32.out HLl.out p (by rw [← HNl.out]; exact hpn) _ w10 HKM.out HF2.out).mono ?_
    rintro e w11 ⟨⟨h4, r2, Hh4, rfl, HR2⟩, hb⟩
    obtain rfl : hl = h4 := HHl.out.unique Hh4.out
    rw [← HX.out] at HR2
    clear Hh4 HF2
    replace HC := Lib.hid (HC.out.trans (hb.mono HC.out.size))
    replace HT := Lib.hid (HT.out.below hb)
    replace HR1 := Lib.hid (HR1.out.below hb)
    clear hb
    go_wp2_with fail
    refine (Msame_any X X Hw4.out Hw4.out (by have := Hwl.out; omega) (by have := Hwl.out; omega) _ _ w11 HR1.out HR2.out).mono ?_
    rintro e w12 ⟨rfl, hb⟩
    rw [decide_eq_true rfl]
    replace HC := Lib.hid (HC.out.trans (hb.mono HC.out.size))
    replace HT := Lib.hid (HT.out.below hb)
    clear hb
    clear HR1 HR2
    go_wp2_with fail
    refine (Mknows_any C w12 HT.out).mono ?_
    rintro e w13 ⟨rfl, hb⟩
    replace HC := Lib.hid (HC.out.trans (hb.mono HC.out.size))
    clear hb
    go_wp2
    go_ret
    exact ⟨rfl, HC.out⟩
end Go.Proofs.YtnlbhbacedbdoaaDoor
