/-
  THE WALK of the law MerkleWays.
-/
import Derived.Test.YtnlbhbacedbdoaaDoorMN
namespace Go.Proofs.YtnlbhbacedbdoaaDoor
open Go.RowKit Mk

theorem Tags.tag {w : World} {b o n c : Nat} {l : List Tg} (h : Tags w (.slice (some ⟨b, o, none⟩) n c) l) (hn : n = l.length) (p : Nat) (t : Tg) (ht : l[p]? = some t) : Sees w b (o + 32 * p) (t.map V8) := by
  obtain ⟨_, A, cap, e, hs⟩ := h
  injection e with e1 _ _
  have hp := (List.getElem?_eq_some_iff.1 ht).1
  obtain ⟨b', o', e', _, hs⟩ := hs (by omega)
  rw [← e1] at e'
  injection e' with e'
  injection e' with e2 e3 _
  subst e2 e3
  exact hs p t ht

set_option maxRecDepth 100000 in
set_option maxHeartbeats 2000000 in
theorem MWays_any (C : Merkle) (key : Tg) (l : List Tg) (v0 x : Value) (d : Int) (other : Tg) (os : List Value) (ho : Vec 32 other os) (w : World) (hT : Hm.Tab w) (h0 : Arg w v0 key) (h1 : Tags w x l) :
    Calls Tryd.prog 5 #[v0, x, .int .i64 d, .agg os.toArray] w fun e w' => e = .returned (.bool true) ∧ Below w.heap.size w w' := by
  obtain ⟨A0, c0, rfl⟩ := h0.form
  obtain ⟨A1, c1, rfl⟩ : ∃ A c, x = .slice A l.length c := by obtain ⟨_, A, c, e, _⟩ := h1; exact ⟨A, c, e⟩
  obtain ⟨n0, hn0⟩ : ∃ n, n = key.length := ⟨_, rfl⟩
  obtain ⟨n, hnl⟩ : ∃ n, n = l.length := ⟨_, rfl⟩
  rw [← hn0] at h0 ⊢
  rw [← hnl] at h1 ⊢
  have HN0 := Lib.hid hn0
  have HNl := Lib.hid hnl
  have HO := Lib.hid ho
  have Hoz : Hid (os.toArray.size = 32) := ho.size
  have H32 : Hid (∀ t ∈ l, List.length t = 32) := h1.1
  have hz := Hm.zeroTag
  obtain ⟨w0, hw0⟩ : ∃ w0, w0 = w.alloc (.cells os.toArray 30) := ⟨_, rfl⟩
  have HC : Hid (Below w.heap.size w w0) := by rw [hw0]; exact (Below.refl _ _).alloc (Nat.le_refl _) _
  have HX_O : Hid (Row w0 w.heap.size 30 os) := by rw [hw0]; exact Row.new w 30 os
  have HT : Hid (Hm.Tab w0) := hT.below HC.out
  have HA : Hid (Arg w0 (.slice A0 n0 c0) key) := h0.below HC.out
  have HG : Hid (Tags w0 (.slice A1 n c1) l) := h1.below HC.out
  have hi1 : (Tryd.prog.info? 30).map (·.size) = some os.length := by rw [ho.len]; kernel_rfl
  clear hn0 hnl ho hT h0 h1
  rcases Nat.lt_or_ge 100 n0 with hl0 | hl0
  · go_enter Tryd.func5, Tryd.ntmps5
    go_wp2_with fail
    rw [← hw0]
    refine (Mknows_any C w0 HT.out).mono ?_
    rintro e w1 ⟨rfl, hb⟩
    replace HC := Lib.hid (HC.out.trans (hb.mono HC.out.size))
    go_wp2
    go_ret
    exact ⟨rfl, HC.out⟩
  rcases Nat.lt_or_ge 70 n with hl1 | hl1
  · go_enter Tryd.func5, Tryd.ntmps5
    go_wp2_with fail
    rw [← hw0]
    refine (Mknows_any C w0 HT.out).mono ?_
    rintro e w1 ⟨rfl, hb⟩
    replace HC := Lib.hid (HC.out.trans (hb.mono HC.out.size))
    go_wp2
    go_ret
    exact ⟨rfl, HC.out⟩
  rcases Int.lt_or_le d 0 with hd0 | hd0
  · go_enter Tryd.func5, Tryd.ntmps5
    go_wp2_with fail
    rw [← hw0]
    refine (Mknows_any C w0 HT.out).mono ?_
    rintro e w1 ⟨rfl, hb⟩
    replace HC := Lib.hid (HC.out.trans (hb.mono HC.out.size))
    go_wp2
    go_ret
    exact ⟨rfl, HC.out⟩
  rcases Int.lt_or_le d n with hdn | hdn
  rotate_left
  · go_enter Tryd.func5, Tryd.ntmps5
    go_wp2_with fail
    rw [← hw0]
    refine (Mknows_any C w0 HT.out).mono ?_
    rintro e w1 ⟨rfl, hb⟩
    replace HC := Lib.hid (HC.out.trans (hb.mono HC.out.size))
    go_wp2
    go_ret
    exact ⟨rfl, HC.out⟩
  obtain ⟨p, rfl⟩ : ∃ p : Nat, d = (p : Int) := ⟨d.toNat, by omega⟩
  have hpn : p < n := by omega
  clear hd0 hdn
  have HKl : Hid (key.length ≤ 1000) := by show _ ≤ _; rw [← HN0.out]; omega
  have HLl : Hid (l.length ≤ 70) := by show _ ≤ _; rw [← HNl.out]; exact hl1
  have hpl : p < l.length := by rw [← HNl.out]; exact hpn
  obtain ⟨tp, Htp⟩ : ∃ t, Hid (l[p]? = some t) := ⟨_, List.getElem?_eq_getElem hpl⟩
  have Htd : Hid (l.getD p [] = tp) := by show _ = _; rw [List.getD_eq_getElem?_getD, Htp.out]; rfl
  have Ht32 : Hid (tp.length = 32) := H32.out tp (List.mem_of_getElem? Htp.out)
  obtain ⟨ct, Hct⟩ : ∃ c, Hid (c = tp.map V8) := ⟨_, rfl⟩
  have Hcv : Hid (Vec 32 tp ct) := ⟨Hct.out, Ht32.out⟩
  have hi3 : (Tryd.prog.info? 30).map (·.size) = some ct.length := by rw [Hcv.out.len]; kernel_rfl
  obtain ⟨b, o, rfl⟩ : ∃ b o, A1 = some ⟨b, o, none⟩ := by
    obtain ⟨_, A, c, e, hs⟩ := HG.out
    injection e with e1 _ _
    obtain ⟨b, o, e2, _⟩ := hs (by omega)
    exact ⟨b, o, by rw [e1, e2]⟩
  obtain ⟨Bo, HBo⟩ : ∃ B, Hid (B = decide (other = tp)) := ⟨_, rfl⟩
  go_enter Tryd.func5, Tryd.ntmps5
  go_wp2_with fail
  rw [← hw0]
  clear hw0
  refine (C.way key l _ _ p w0 HKl.out HLl.out hpl HT.out HA.out HG.out).mono ?_
  rintro e w1 ⟨⟨hl, wv, HHl, HF, rfl⟩, hb⟩
  replace HC := Lib.hid (HC.out.trans (hb.mono HC.out.size))
  replace HT := Lib.hid (HT.out.below hb)
  replace HA := Lib.hid (HA.out.below hb)
  replace HG := Lib.hid (HG.out.below hb)
  replace HX_O := Lib.hid (HX_O.out.below hb HX_O.out.lt)
  clear hb
  obtain ⟨X, HX⟩ : ∃ X, Hid (X = way key l hl p) := ⟨_, rfl⟩
  rw [← HX.out] at HF
  have HXl : Hid (X.length = hl) := by show _ = _; rw [HX.out, way_length]
  obtain ⟨Aw, cw, rfl⟩ : ∃ A c, wv = .slice A X.length c := by obtain ⟨_, A, c, e, _⟩ := HF.out; exact ⟨A, c, e⟩
  rw [HXl.out] at HF ⊢
  have h9 : hl ≤ 9 := isH_le (by have := HLl.out; omega) HHl.out
  have hlp : l.length ≤ 4 ^ hl := by
    have h1 := HHl.out.2.1
    have h2 := pow_int hl
    omega
  go_wp2_with fail
  refine (C.root key l _ _ w1 HKl.out HLl.out HT.out HA.out HG.out).mono ?_
  rintro e w4 ⟨⟨h2, rs, Hh2, Hrs, rfl⟩, hb⟩
  obtain rfl : hl = h2 := HHl.out.unique Hh2.out
  have Hss : Hid (rs.toArray.size = 32) := Hrs.out.size
  have Hso : Hid (rs.toArray.all (·.oneCell') = true) := Hrs.out.one
  have hi2 : (Tryd.prog.info? 30).map (·.size) = some rs.length := by rw [Hrs.out.len]; kernel_rfl
  clear Hh2
  replace HC := Lib.hid (HC.out.trans (hb.mono HC.out.size))
  replace HT := Lib.hid (HT.out.below hb)
  replace HA := Lib.hid (HA.out.below hb)
  replace HG := Lib.hid (HG.out.below hb)
  replace HF := Lib.hid (HF.out.below hb)
  replace HX_O := Lib.hid (HX_O.out.below hb HX_O.out.lt)
  clear hb
  go_wp2_with (refine wpList_store_row rfl 30 (.tmp 11) (.tmp 40) rfl w4.heap.size rs.toArray rfl rfl 30 _ (Row.new w4 _ Hm.Z32) (by rw [Hss.out]; kernel_rfl) (by rw [Hss.out]; rfl) Hso.out ?_)
  have HX_TB : Hid (Row ((w4.alloc (.cells Hm.Z32.toArray 30)).setRow w4.heap.size rs.toArray) w4.heap.size 30 rs) := (Row.new w4 30 Hm.Z32).whole rs
  have hb : Below w4.heap.size w4 ((w4.alloc (.cells Hm.Z32.toArray 30)).setRow w4.heap.size rs.toArray) := below_setRow' ((Below.refl _ _).alloc (Nat.le_refl _) _) (Nat.le_refl _) _
  obtain ⟨TB, hTB⟩ : ∃ X, X = w4.heap.size := ⟨_, rfl⟩
  have hb2 : Below w4.heap.size w4 ((w4.alloc (.cells Hm.Z32.toArray 30)).setRow TB rs.toArray) := by rw [hTB]; exact hb
  rw [← hTB] at HX_TB ⊢
  clear hb hTB
  generalize ((w4.alloc (.cells Hm.Z32.toArray 30)).setRow TB rs.toArray) = w5 at *
  have hb := hb2
  clear hb2
  replace HC := Lib.hid (HC.out.trans (hb.mono HC.out.size))
  replace HT := Lib.hid (HT.out.below hb)
  replace HA := Lib.hid (HA.out.below hb)
  replace HG := Lib.hid (HG.out.below hb)
  replace HF := Lib.hid (HF.out.below hb)
  replace HX_O := Lib.hid (HX_O.out.below hb HX_O.out.lt)
  clear hb
  have HCk1 : Hid (∀ W, Hm.Tab W → Arg W (.slice A0 n0 c0) key → Fours W (.slice Aw hl cw) X → Calls Tryd.prog 17 #[.slice A0 n0 c0, .slice Aw hl cw, .int .i64 (p : Int), .agg ct.toArray, .agg rs.toArray] W fun e w' => e = .returned (.bool true) ∧ Below W.heap.size W w') := fun W a b c => by
    have := C.check key X _ _ (p : Int) tp (root key l hl) ct rs W HKl.out (by rw [HXl.out]; omega) (by omega) (by omega) Hcv.out Hrs.out a b c
    rw [HX.out, way_chk key l hl p HHl.out.1 hlp hpl, Htd.out, decide_eq_true rfl] at this
    exact this
  have HCk2 : Hid (∀ W, Hm.Tab W → Arg W (.slice A0 n0 c0) key → Fours W (.slice Aw hl cw) X → Calls Tryd.prog 17 #[.slice A0 n0 c0, .slice Aw hl cw, .int .i64 (p : Int), .agg os.toArray, .agg rs.toArray] W fun e w' => e = .returned (.bool Bo) ∧ Below W.heap.size W w') := fun W a b c => by
    have := C.check key X _ _ (p : Int) other (root key l hl) os rs W HKl.out (by rw [HXl.out]; omega) (by omega) (by omega) HO.out Hrs.out a b c
    rw [HX.out, way_chk key l hl p HHl.out.1 hlp hpl, Htd.out, ← HBo.out] at this
    exact this
  have HKeep : Hid (∀ W, Below w5.heap.size w5 W → W.rangeAt w.heap.size 0 os ∧ W.rangeAt TB 0 rs ∧ W.rangeAt b (o + p * 32) ct) := fun W hW => ⟨(HX_O.out.below hW HX_O.out.lt).sees, (HX_TB.out.below hW HX_TB.out.lt).sees, by rw [Hct.out, Nat.mul_comm]; exact (HG.out.below hW).tag HNl.out p tp Htp.out⟩
  have HHn : Hid (IsH n hl) := by rw [HNl.out]; exact HHl.out
  go_wp2
  have hC : Below w5.heap.size w5 w5.drew := below_drewN (Below.refl _ _) 1
  refine wp_region_held_drew (S := (fun W => W.rangeAt w.heap.size 0 os ∧ W.rangeAt TB 0 rs ∧ W.rangeAt b (o + p * 32) ct)) (by kernel_rfl) (HKeep.out _ hC) (fun hHeld => ?_)
  generalize w5.drew = w5d at *
  refine wpAnyH_take (i := 0) (oi := ⟨some 41, _, _, _, _, _⟩) (v := ?_) rfl (by kernel_rfl) (by kernel_rfl) (by kernel_rfl) (fun _ _ _ h => h) (Or.inl ⟨by rfl, ?_⟩) hHeld ?_
  rotate_left
  · intro w hSw
    go_simp
    with_reducible rfl
  try go_frame
  refine wpAnyH_take (i := 1) (oi := ⟨some 42, _, _, _, _, _⟩) (v := ?_) rfl (by kernel_rfl) (by kernel_rfl) (by kernel_rfl) (fun _ _ _ h => h) (Or.inl ⟨by rfl, ?_⟩) hHeld ?_
  rotate_left
  · intro w hSw
    go_simp
    with_reducible rfl
  try go_frame
  refine wpAnyH_take (i := 2) (oi := ⟨some 43, _, _, _, _, _⟩) (v := ?_) rfl (by kernel_rfl) (by kernel_rfl) (by kernel_rfl) (fun _ _ _ h => h) (Or.inl ⟨by rfl, ?_⟩) hHeld ?_
  rotate_left
  · intro w hSw
    go_simp
    with_reducible rfl
  try go_frame
  refine wpAnyH_take (i := 3) (oi := ⟨some 44, _, _, _, _, _⟩) (v := ?_) rfl (by kernel_rfl) (by kernel_rfl) (by kernel_rfl) (fun _ _ _ h => h) (Or.inl ⟨by rfl, ?_⟩) hHeld ?_
  rotate_left
  · intro w hSw
    go_simp
    with_reducible rfl
  try go_frame
  refine wpAnyH_take (i := 4) (oi := ⟨some 45, _, _, _, _, _⟩) (v := ?_) rfl (by kernel_rfl) (by kernel_rfl) (by kernel_rfl) (fun _ _ _ h => h) (Or.inl ⟨by rfl, ?_⟩) hHeld ?_
  rotate_left
  · intro w hSw
    go_simp
    with_reducible rfl
  try go_frame
  refine wpAnyH_take (i := 5) (oi := ⟨some 46, _, _, _, _, _⟩) (v := ?_) rfl (by kernel_rfl) (by kernel_rfl) (by kernel_rfl) (fun _ _ _ h => h) (Or.inl ⟨by rfl, ?_⟩) hHeld ?_
  rotate_left
  · intro w hSw
    go_simp
    with_reducible rfl
  try go_frame
  refine wpAnyH_take (i := 6) (oi := ⟨some 47, _, _, _, _, _⟩) (v := ?_) rfl (by kernel_rfl) (by kernel_rfl) (by kernel_rfl) (fun _ _ _ h => h) (Or.inl ⟨by rfl, ?_⟩) hHeld ?_
  rotate_left
  · intro w hSw
    go_simp
    with_reducible rfl
  try go_frame
  refine wpAnyH_ready (rs := [7]) (by kernel_rfl) (by simp) ?_
  refine AllReadyH.cons (o := ⟨some 48, _, _, _, _, _⟩) rfl (fun K hK => ?_) AllReadyH.nil
  go_simp
  go_at_call 10
  refine (C.height n w5d (by omega)).mono ?_
  rintro e w5d_ht ⟨⟨hh, Hh, _, rfl⟩, hb⟩
  replace hC := hC.trans (hb.mono hC.size)
  refine hK.out _ _ (HKeep.out _ hC) (fun hHeld => ?_)
  clear hK K hb 
  obtain rfl : hl = hh := HHn.out.unique Hh.out
  clear Hh
  try go_frame
  refine wpAnyH_take (i := 8) (oi := ⟨some 49, _, _, _, _, _⟩) (v := ?_) rfl (by kernel_rfl) (by kernel_rfl) (by kernel_rfl) (fun _ _ _ h => h) (Or.inl ⟨by rfl, ?_⟩) hHeld ?_
  rotate_left
  · intro w hSw
    go_simp
    with_reducible rfl
  try go_frame
  refine wpAnyH_take (i := 9) (oi := ⟨some 50, _, _, _, _, _⟩) (v := ?_) rfl (by kernel_rfl) (by kernel_rfl) (by kernel_rfl) (fun _ _ _ h => h) (Or.inl ⟨by rfl, ?_⟩) hHeld ?_
  rotate_left
  · intro w hSw
    go_simp
    with_reducible rfl
  try go_frame
  refine wpAnyH_take (i := 10) (oi := ⟨some 51, _, _, _, _, _⟩) (v := ?_) rfl (by kernel_rfl) (by kernel_rfl) (by kernel_rfl) (fun _ _ _ h => h) (Or.inl ⟨by rfl, ?_⟩) hHeld ?_
  rotate_left
  · intro w hSw
    go_simp
    with_reducible rfl
  try go_frame
  refine wpAnyH_take (i := 11) (oi := ⟨some 52, _, _, _, _, _⟩) (v := ?_) rfl (by kernel_rfl) (by kernel_rfl) (by kernel_rfl) (fun _ _ _ h => h) (Or.inl ⟨by rfl, ?_⟩) hHeld ?_
  rotate_left
  · intro w hSw
    go_simp
    with_reducible rfl
  try go_frame
  refine wpAnyH_take (i := 12) (oi := ⟨some 53, _, _, _, _, _⟩) (v := ?_) rfl (by kernel_rfl) (by kernel_rfl) (by kernel_rfl) (fun _ _ _ h => h) (Or.inl ⟨by rfl, ?_⟩) hHeld ?_
  rotate_left
  · intro w hSw
    go_simp
    with_reducible rfl
  try go_frame
  refine wpAnyH_take (i := 13) (oi := ⟨some 54, _, _, _, _, _⟩) (v := ?_) rfl (by kernel_rfl) (by kernel_rfl) (by kernel_rfl) (fun _ _ _ h => h) (Or.inl ⟨by rfl, ?_⟩) hHeld ?_
  rotate_left
  · intro w hSw
    go_simp
    with_reducible rfl
  try go_frame
  refine wpAnyH_take (i := 14) (oi := ⟨some 55, _, _, _, _, _⟩) (v := ?_) rfl (by kernel_rfl) (by kernel_rfl) (by kernel_rfl) (fun _ _ _ h => h) (Or.inl ⟨by rfl, ?_⟩) hHeld ?_
  rotate_left
  · intro w hSw
    go_simp
    with_reducible rfl
  try go_frame
  refine wpAnyH_take (i := 15) (oi := ⟨some 56, _, _, _, _, _⟩) (v := ?_) rfl (by kernel_rfl) (by kernel_rfl) (by kernel_rfl) (fun _ _ _ h => h) (Or.inl ⟨by rfl, ?_⟩) hHeld ?_
  rotate_left
  · intro w hSw
    go_simp
    with_reducible rfl
  try go_frame
  refine wpAnyH_take (i := 16) (oi := ⟨some 57, _, _, _, _, _⟩) (v := ?_) rfl (by kernel_rfl) (by kernel_rfl) (by kernel_rfl) (fun _ _ _ h => h) (Or.inl ⟨by rfl, ?_⟩) hHeld ?_
  rotate_left
  · intro w hSw
    go_simp
    with_reducible rfl
  try go_frame
  refine wpAnyH_take (i := 17) (oi := ⟨some 58, _, _, _, _, _⟩) (v := .agg (ct).toArray) rfl (by kernel_rfl) (by kernel_rfl) (by kernel_rfl) (fun _ _ _ h => h) (yieldsIf_load_mid (by rfl) 30 (.tmp 57) rfl (b) (o + p * 32) rfl (ct) _ (fun W h => h.2.2) Tryd.underlying30 rfl hi3) hHeld ?_
  try go_frame
  refine wpAnyH_take (i := 18) (oi := ⟨some 59, _, _, _, _, _⟩) (v := .agg (rs).toArray) rfl (by kernel_rfl) (by kernel_rfl) (by kernel_rfl) (fun _ _ _ h => h) (yieldsIf_load_mid (by rfl) 30 (.tmp 11) rfl (TB) 0 rfl (rs) _ (fun W h => h.2.1) Tryd.underlying30 rfl hi2) hHeld ?_
  try go_frame
  refine wpAnyH_ready (rs := [19]) (by kernel_rfl) (by simp) ?_
  refine AllReadyH.cons (o := ⟨some 60, _, _, _, _, _⟩) rfl (fun K hK => ?_) AllReadyH.nil
  go_simp
  go_at_call 17
  refine (HCk1.out w5d_ht (HT.out.below hC) (HA.out.below hC) (HF.out.below hC)).mono ?_
  rintro e w5d_ht_ck ⟨rfl, hb⟩
  replace hC := hC.trans (hb.mono hC.size)
  refine hK.out _ _ (HKeep.out _ hC) (fun hHeld => ?_)
  clear hK K hb 
  try go_frame
  refine wpAnyH_take (i := 20) (oi := ⟨some 61, _, _, _, _, _⟩) (v := ?_) rfl (by kernel_rfl) (by kernel_rfl) (by kernel_rfl) (fun _ _ _ h => h) (Or.inl ⟨by rfl, ?_⟩) hHeld ?_
  rotate_left
  · intro w hSw
    go_simp
    with_reducible rfl
  try go_frame
  refine wpAnyH_take (i := 21) (oi := ⟨some 62, _, _, _, _, _⟩) (v := ?_) rfl (by kernel_rfl) (by kernel_rfl) (by kernel_rfl) (fun _ _ _ h => h) (Or.inl ⟨by rfl, ?_⟩) hHeld ?_
  rotate_left
  · intro w hSw
    go_simp
    with_reducible rfl
  try go_frame
  refine wpAnyH_done (by kernel_rfl) ?_ _
  have hb := hC
  clear hC HKeep hHeld
  replace HC := Lib.hid (HC.out.trans (hb.mono HC.out.size))
  replace HT := Lib.hid (HT.out.below hb)
  replace HA := Lib.hid (HA.out.below hb)
  replace HG := Lib.hid (HG.out.below hb)
  replace HF := Lib.hid (HF.out.below hb)
  replace HX_O := Lib.hid (HX_O.out.below hb HX_O.out.lt)
  replace HX_TB := Lib.hid (HX_TB.out.below hb HX_TB.out.lt)
  clear hb
  generalize w5d_ht_ck = w7 at *
  have HKeep : Hid (∀ W, Below w7.heap.size w7 W → W.rangeAt w.heap.size 0 os ∧ W.rangeAt TB 0 rs ∧ W.rangeAt b (o + p * 32) ct) := fun W hW => ⟨(HX_O.out.below hW HX_O.out.lt).sees, (HX_TB.out.below hW HX_TB.out.lt).sees, by rw [Hct.out, Nat.mul_comm]; exact (HG.out.below hW).tag HNl.out p tp Htp.out⟩
  have hte := fun W => (arr_eq 30 32 Tryd.underlying30 other tp os ct HO.out Hcv.out W).trans (by rw [← HBo.out] : _ = Result.ok Bo W)
  go_wp2
  have hC : Below w7.heap.size w7 w7.drew := below_drewN (Below.refl _ _) 1
  refine wp_region_held_drew (S := (fun W => W.rangeAt w.heap.size 0 os ∧ W.rangeAt TB 0 rs ∧ W.rangeAt b (o + p * 32) ct)) (by kernel_rfl) (HKeep.out _ hC) (fun hHeld => ?_)
  generalize w7.drew = w7d at *
  refine wpAnyH_take (i := 0) (oi := ⟨some 63, _, _, _, _, _⟩) (v := ?_) rfl (by kernel_rfl) (by kernel_rfl) (by kernel_rfl) (fun _ _ _ h => h) (Or.inl ⟨by rfl, ?_⟩) hHeld ?_
  rotate_left
  · intro w hSw
    go_simp
    with_reducible rfl
  try go_frame
  refine wpAnyH_take (i := 1) (oi := ⟨some 64, _, _, _, _, _⟩) (v := ?_) rfl (by kernel_rfl) (by kernel_rfl) (by kernel_rfl) (fun _ _ _ h => h) (Or.inl ⟨by rfl, ?_⟩) hHeld ?_
  rotate_left
  · intro w hSw
    go_simp
    with_reducible rfl
  try go_frame
  refine wpAnyH_take (i := 2) (oi := ⟨some 65, _, _, _, _, _⟩) (v := ?_) rfl (by kernel_rfl) (by kernel_rfl) (by kernel_rfl) (fun _ _ _ h => h) (Or.inl ⟨by rfl, ?_⟩) hHeld ?_
  rotate_left
  · intro w hSw
    go_simp
    with_reducible rfl
  try go_frame
  refine wpAnyH_take (i := 3) (oi := ⟨some 66, _, _, _, _, _⟩) (v := .agg (os).toArray) rfl (by kernel_rfl) (by kernel_rfl) (by kernel_rfl) (fun _ _ _ h => h) (yieldsIf_load_mid (by rfl) 30 (.tmp 7) rfl (w.heap.size) 0 rfl (os) _ (fun W h => h.1) Tryd.underlying30 rfl hi1) hHeld ?_
  try go_frame
  refine wpAnyH_take (i := 4) (oi := ⟨some 67, _, _, _, _, _⟩) (v := .agg (rs).toArray) rfl (by kernel_rfl) (by kernel_rfl) (by kernel_rfl) (fun _ _ _ h => h) (yieldsIf_load_mid (by rfl) 30 (.tmp 11) rfl (TB) 0 rfl (rs) _ (fun W h => h.2.1) Tryd.underlying30 rfl hi2) hHeld ?_
  try go_frame
  refine wpAnyH_take (i := 6) (oi := ⟨some 69, _, _, _, _, _⟩) (v := .agg (os).toArray) rfl (by kernel_rfl) (by kernel_rfl) (by kernel_rfl) (fun _ _ _ h => h) (yieldsIf_load_mid (by rfl) 30 (.tmp 7) rfl (w.heap.size) 0 rfl (os) _ (fun W h => h.1) Tryd.underlying30 rfl hi1) hHeld ?_
  try go_frame
  refine wpAnyH_take (i := 7) (oi := ⟨some 70, _, _, _, _, _⟩) (v := ?_) rfl (by kernel_rfl) (by kernel_rfl) (by kernel_rfl) (fun _ _ _ h => h) (Or.inl ⟨by rfl, ?_⟩) hHeld ?_
  rotate_left
  · intro w hSw
    go_simp
    with_reducible rfl
  try go_frame
  refine wpAnyH_take (i := 8) (oi := ⟨some 71, _, _, _, _, _⟩) (v := ?_) rfl (by kernel_rfl) (by kernel_rfl) (by kernel_rfl) (fun _ _ _ h => h) (Or.inl ⟨by rfl, ?_⟩) hHeld ?_
  rotate_left
  · intro w hSw
    go_simp
    with_reducible rfl
  try go_frame
  refine wpAnyH_take (i := 9) (oi := ⟨some 72, _, _, _, _, _⟩) (v := ?_) rfl (by kernel_rfl) (by kernel_rfl) (by kernel_rfl) (fun _ _ _ h => h) (Or.inl ⟨by rfl, ?_⟩) hHeld ?_
  rotate_left
  · intro w hSw
    go_simp
    with_reducible rfl
  try go_frame
  refine wpAnyH_take (i := 10) (oi := ⟨some 73, _, _, _, _, _⟩) (v := .agg (ct).toArray) rfl (by kernel_rfl) (by kernel_rfl) (by kernel_rfl) (fun _ _ _ h => h) (yieldsIf_load_mid (by rfl) 30 (.tmp 72) rfl (b) (o + p * 32) rfl (ct) _ (fun W h => h.2.2) Tryd.underlying30 rfl hi3) hHeld ?_
  try go_frame
  refine wpAnyH_take (i := 11) (oi := ⟨some 74, _, _, _, _, _⟩) (v := ?_) rfl (by kernel_rfl) (by kernel_rfl) (by kernel_rfl) (fun _ _ _ h => h) (Or.inl ⟨by rfl, ?_⟩) hHeld ?_
  rotate_left
  · intro w hSw
    go_simp
    with_reducible rfl
  try go_frame
  refine wpAnyH_ready (rs := [5]) (by kernel_rfl) (by simp) ?_
  refine AllReadyH.cons (o := ⟨some 68, _, _, _, _, _⟩) rfl (fun K hK => ?_) AllReadyH.nil
  go_simp
  go_at_call 17
  refine (HCk2.out w7d (HT.out.below hC) (HA.out.below hC) (HF.out.below hC)).mono ?_
  rintro e w7d_ck ⟨rfl, hb⟩
  replace hC := hC.trans (hb.mono hC.size)
  refine hK.out _ _ (HKeep.out _ hC) (fun hHeld => ?_)
  clear hK K hb 
  try go_frame
  refine wpAnyH_take (i := 12) (oi := ⟨some 75, _, _, _, _, _⟩) (v := ?_) rfl (by kernel_rfl) (by kernel_rfl) (by kernel_rfl) (fun _ _ _ h => h) (Or.inl ⟨by rfl, ?_⟩) hHeld ?_
  rotate_left
  · intro w hSw
    go_simp
    with_reducible rfl
  try go_frame
  refine wpAnyH_take (i := 13) (oi := ⟨some 76, _, _, _, _, _⟩) (v := ?_) rfl (by kernel_rfl) (by kernel_rfl) (by kernel_rfl) (fun _ _ _ h => h) (Or.inl ⟨by rfl, ?_⟩) hHeld ?_
  rotate_left
  · intro w hSw
    go_simp
    with_reducible rfl
  try go_frame
  refine wpAnyH_ready (rs := [14]) (by kernel_rfl) (by simp) ?_
  refine AllReadyH.cons (o := ⟨some 77, _, _, _, _, _⟩) rfl (fun K hK => ?_) AllReadyH.nil
  go_simp
  go_at_call 6
  refine (Mknows_any C w7d_ck (HT.out.below hC)).mono ?_
  rintro e w7d_ck_kn ⟨rfl, hb⟩
  replace hC := hC.trans (hb.mono hC.size)
  refine hK.out _ _ (HKeep.out _ hC) (fun hHeld => ?_)
  clear hK K hb 
  try go_frame
  refine wpAnyH_take (i := 15) (oi := ⟨some 78, _, _, _, _, _⟩) (v := ?_) rfl (by kernel_rfl) (by kernel_rfl) (by kernel_rfl) (fun _ _ _ h => h) (Or.inl ⟨by rfl, ?_⟩) hHeld ?_
  rotate_left
  · intro w hSw
    go_simp
    with_reducible rfl
  try go_frame
  refine wpAnyH_take (i := 16) (oi := ⟨some 8, _, _, _, _, _⟩) (v := ?_) rfl (by kernel_rfl) (by kernel_rfl) (by kernel_rfl) (fun _ _ _ h => h) (Or.inl ⟨by rfl, ?_⟩) hHeld ?_
  rotate_left
  · intro w hSw
    go_simp
    with_reducible rfl
  try go_frame
  refine wpAnyH_done (by kernel_rfl) ?_ _
  have HF2 := Lib.hid (HC.out.trans (hC.mono HC.out.size))
  clear hC HKeep hHeld
  go_wp2
  go_ret
  exact ⟨rfl, HF2.out⟩
end Go.Proofs.YtnlbhbacedbdoaaDoor
