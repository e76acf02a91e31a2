/-
  THE WALKS of the reference's Encrypt and of the law AesTurns.
-/
import Derived.Test.YtmopkhddhbpckaaET0
import Derived.Test.YtmopkhddhbpckaaEK
namespace Go.Proofs.Ytmopkhddhbpckaa
open Go.RowKit Aes

theorem Rowed.vals {B : Nat} {W : World} {v : Value} {ps : List (List UInt8)} (h : Rowed B W v ps) (hp : 0 < ps.length) : ∃ g cap vs, v = .slice (some ⟨g, 0, none⟩) ps.length cap ∧ g < W.heap.size ∧ Sees W g 0 vs ∧ Vals W vs ps := by
  obtain ⟨vs, ho, hl, hw⟩ := h
  obtain ⟨g, cap, e, _, hg, hs⟩ := ho.form (by omega)
  refine ⟨g, cap, vs, by rw [e, hl], hg, hs, hl, fun j u p hu hq => ?_⟩
  obtain ⟨b, o, c, e1, hc, hlt, _, hs1⟩ := hw j u p hu hq
  exact .inr ⟨b, o, c, e1, hlt, hc, hs1⟩

set_option maxRecDepth 100000 in
set_option maxHeartbeats 400000 in
theorem RAEnc_any (kb bb : Nat) (key b : List UInt8) (hk : key.length = 16) (hb : b.length = 16) (w : World) (hkb : kb < w.heap.size) (hks : Sees w kb 0 (key.map V8)) (hbb : bb < w.heap.size) (hbs : Sees w bb 0 (b.map V8)) :
    Calls Try.prog 6 #[.slice (some ⟨kb, 0, none⟩) 16 16, .slice (some ⟨bb, 0, none⟩) 16 16] w fun e w' => ∃ v, e = .returned v ∧ Hid (Arg w' v (enc key b)) ∧ Below w.heap.size w w' := by
  have HK := Lib.hid hks
  have HB := Lib.hid hbs
  have HKl := Lib.hid hk
  have HBl := Lib.hid hb
  clear hks hbs hk hb
  go_enter Try.func6, Try.ntmps6
  go_wp2_with fail
  refine (Box_any w).mono ?_
  rintro e w1 ⟨bv, rfl, Hbox, hb1⟩
  have hlen : (SBL.map V8).length = 256 := by rw [List.length_map, SBL_length]
  obtain ⟨xg, xc, hxv, hxB, hxl, hxs⟩ := Hbox.out.form (by rw [hlen]; omega)
  rw [hlen] at hxv
  subst hxv
  have HXs := Lib.hid hxs
  clear hlen hxs Hbox
  go_wp2_with fail
  refine (AWords_any kb xg xc key HKl.out w1 (Nat.lt_of_lt_of_le hkb hb1.size) (HK.out.below hb1 hkb) hxl HXs.out).mono ?_
  rintro e w2 ⟨wv, rfl, HRw, hb2⟩
  obtain ⟨ug, uc, vs, huv, hul, hus, hvals⟩ := HRw.out.vals (by rw [wkK_length]; omega)
  rw [wkK_length] at huv
  subst huv
  have HUs := Lib.hid hus
  have HVs := Lib.hid hvals
  have hb02 : Below w.heap.size w w2 := hb1.trans (hb2.mono hb1.size)
  clear hus hvals HRw
  go_wp2_with fail
  refine (Turned_any ug uc bb 16 xg xc key b HKl.out HBl.out vs w2 hul HUs.out HVs.out (Nat.lt_of_lt_of_le hbb hb02.size) (HB.out.below hb02 hbb) (Nat.lt_of_lt_of_le hxl hb2.size) (HXs.out.below hb2 hxl)).mono ?_
  rintro e w3 ⟨v, rfl, Harg, hb3⟩
  go_wp2
  go_ret
  exact ⟨_, rfl, Harg, hb02.trans (hb3.mono hb02.size)⟩

set_option maxRecDepth 100000 in
set_option maxHeartbeats 1000000 in
theorem ATurns_any (key b : List UInt8) (kr br : List Value) (hk : Vec 16 key kr) (hb : Vec 16 b br) (w : World) :
    Calls Try.prog 3 #[.agg kr.toArray, .agg br.toArray] w fun e w' => e = .returned (.bool true) ∧ Below w.heap.size w w' := by
  have HK := Lib.hid hk
  have HB := Lib.hid hb
  have Hzk : Hid (kr.toArray.size = 16) := hk.size
  have Hzb : Hid (br.toArray.size = 16) := hb.size
  have hr0 : Row ((w.alloc (.cells kr.toArray 22)).alloc (.cells br.toArray 22)) w.heap.size 22 kr := (Row.new w 22 kr).alloc _
  have hr1 : Row ((w.alloc (.cells kr.toArray 22)).alloc (.cells br.toArray 22)) (w.heap.size + 1) 22 br := Row.newAt 22 br (by simp)
  have hbl : Below w.heap.size w ((w.alloc (.cells kr.toArray 22)).alloc (.cells br.toArray 22)) := ((Below.refl _ _).alloc (Nat.le_refl _) _).alloc (by simp) _
  have HR0 := Lib.hid hr0
  have HR1 := Lib.hid hr1
  have HBL := Lib.hid hbl
  clear hr0 hr1 hbl hk hb
  have hz := zero16
  go_enter Try.func3, Try.ntmps3
  go_wp2_with (first
    | (refine wpList_load_row rfl 22 (.tmp 2) rfl w.heap.size rfl 22 kr.toArray (0, 0) _ HR0.out Try.underlying22 rfl (by rw [Hzk.out]; kernel_rfl) ?_)
    | (refine wpList_load_row rfl 22 (.tmp 3) rfl (w.heap.size + 1) rfl 22 br.toArray (0, 0) _ HR1.out Try.underlying22 rfl (by rw [Hzb.out]; kernel_rfl) ?_))
  generalize (w.alloc (.cells kr.toArray 22)).alloc (.cells br.toArray 22) = w0 at *
  refine (AEnc_any key b kr br HK.out HB.out w0).mono ?_
  rintro e w1 ⟨ts, Hts, rfl, hb1⟩
  have Htz : Hid (ts.toArray.size = 16) := Hts.out.size
  have Hone : Hid (ts.toArray.all (·.oneCell') = true) := Hts.out.one
  have hb2 : Below w1.heap.size w1 ((w1.alloc (.cells Z16.toArray 22)).setRow w1.heap.size ts.toArray) := below_setRow' ((Below.refl _ _).alloc (Nat.le_refl _) _) (Nat.le_refl _) _
  have hb02 : Below w0.heap.size w0 ((w1.alloc (.cells Z16.toArray 22)).setRow w1.heap.size ts.toArray) := hb1.trans (hb2.mono hb1.size)
  have HX2 : Hid (Row ((w1.alloc (.cells Z16.toArray 22)).setRow w1.heap.size ts.toArray) w1.heap.size 22 ((enc key b).map V8)) := Hts.out.row ((Row.new w1 22 Z16).whole ts)
  have HB02 := Lib.hid hb02
  clear hb2 hb02 hb1
  go_wp2_with (refine wpList_store_row rfl 22 (.tmp 5) (.tmp 8) rfl w1.heap.size ts.toArray rfl rfl 22 _ (Row.new w1 _ Z16) (by rw [Htz.out]; kernel_rfl) (by rw [Htz.out]; rfl) Hone.out ?_)
  clear hz
  obtain ⟨X, hX⟩ : ∃ X, X = w1.heap.size := ⟨_, rfl⟩
  rw [← hX] at HX2 HB02 ⊢
  clear hX
  generalize (w1.alloc (.cells Z16.toArray 22)).setRow X ts.toArray = w2 at *
  have HK2 : Hid (Row w2 w.heap.size 22 kr) := HR0.out.below HB02.out HR0.out.lt
  have HBr2 : Hid (Row w2 (w.heap.size + 1) 22 br) := HR1.out.below HB02.out HR1.out.lt
  have hbw2 : Below w.heap.size w w2 := HBL.out.trans (HB02.out.mono HBL.out.size)
  have hs2 := hbw2.size
  have HLe : Hid ((enc key b).length = 16) := enc_length key b HK.out.2 HB.out.2
  have HAx : Hid (Arg w2 (.slice (some ⟨X, 0, none⟩) 16 16) (enc key b)) := HX2.out.arg 16 HLe.out
  have HC1 : Hid (Calls Try.prog 6 #[.slice (some ⟨w.heap.size, 0, none⟩) 16 16, .slice (some ⟨w.heap.size + 1, 0, none⟩) 16 16] w2.drew fun e w' => ∃ v, e = .returned v ∧ (convert 24 9 v).run Try.prog w' = .ok (.string (strB (enc key b))) w' ∧ (convert 24 9 (.slice (some ⟨X, 0, none⟩) 16 16)).run Try.prog w' = .ok (.string (strB (enc key b))) w' ∧ Below w2.heap.size w2 w') :=
    (RAEnc_any w.heap.size (w.heap.size + 1) key b HK.out.2 HB.out.2 w2.drew HK2.out.lt (HK.out.row HK2.out).drew.sees HBr2.out.lt (HB.out.row HBr2.out).drew.sees).mono fun e w' ⟨v, he, ha, hb'⟩ => by
      have hb : Below w2.heap.size w2 w' := ⟨hb'.os, hb'.tape, hb'.output, hb'.size, hb'.block⟩
      exact ⟨v, he, conv_arg ha.out, conv_arg (HAx.out.below hb), hb⟩
  have HKN : Hid (∀ W, Below w2.heap.size w2 W → Calls Try.prog 7 #[] W fun e w' => e = .returned (.bool true) ∧ (convert 24 9 (.slice (some ⟨X, 0, none⟩) 16 16)).run Try.prog w' = .ok (.string (strB (enc key b))) w' ∧ Below w2.heap.size w2 w') := fun W hW =>
    (Aknows_any W).mono fun e w' ⟨he, hb'⟩ => by
      have hb := hW.trans (hb'.mono hW.size)
      exact ⟨he, conv_arg (HAx.out.below hb), hb⟩
  have hS0 : (convert 24 9 (.slice (some ⟨X, 0, none⟩) 16 16)).run Try.prog w2.drew = .ok (.string (strB (enc key b))) w2.drew := conv_arg (w := w2.drew) HAx.out
  clear HAx HLe HX2 HK2 HBr2 HB02 HR0 HR1 HBL Hts Htz Hone HK HB Hzk Hzb
  generalize enc key b = E at *
  refine wp_region_held_drew (S := (fun W => (convert 24 9 (.slice (some ⟨X, 0, none⟩) 16 16)).run Try.prog W = .ok (.string (strB E)) W)) (by kernel_rfl) (hS0) (fun hHeld => ?_)
  refine wpAnyH_take (i := 0) (oi := ⟨some 9, _, _, _, _, _⟩) (v := ?_) rfl (by kernel_rfl) (by kernel_rfl) (by kernel_rfl) (fun _ _ _ h => h) (Or.inl ⟨by rfl, ?_⟩) hHeld ?_
  rotate_left
  · intro w hSw
    skip
    go_simp
    with_reducible rfl
  try go_frame
  refine wpAnyH_take (i := 1) (oi := ⟨some 10, _, _, _, _, _⟩) (v := ?_) rfl (by kernel_rfl) (by kernel_rfl) (by kernel_rfl) (fun _ _ _ h => h) (Or.inl ⟨by rfl, ?_⟩) hHeld ?_
  rotate_left
  · intro w hSw
    skip
    go_simp
    with_reducible rfl
  try go_frame
  refine wpAnyH_take (i := 2) (oi := ⟨some 11, _, _, _, _, _⟩) (v := ?_) rfl (by kernel_rfl) (by kernel_rfl) (by kernel_rfl) (fun _ _ _ h => h) (Or.inl ⟨by rfl, ?_⟩) hHeld ?_
  rotate_left
  · intro w hSw
    skip
    go_simp
    with_reducible rfl
  try go_frame
  refine wpAnyH_take (i := 3) (oi := ⟨some 12, _, _, _, _, _⟩) (v := ?_) rfl (by kernel_rfl) (by kernel_rfl) (by kernel_rfl) (fun _ _ _ h => h) (Or.inl ⟨by rfl, ?_⟩) hHeld ?_
  rotate_left
  · intro w hSw
    skip
    go_simp
    with_reducible rfl
  try go_frame
  refine wpAnyH_ready (rs := [4]) (by kernel_rfl) (by simp) ?_
  refine AllReadyH.cons (o := ⟨some 13, _, _, _, _, _⟩) rfl (fun K hK => ?_) AllReadyH.nil
  go_simp
  go_at_call 6
  refine HC1.out.mono ?_
  rintro e w4 ⟨v4, rfl, k4, hS4, hb4⟩
  refine hK.out _ _ (hS4) (fun hHeld => ?_)
  clear hK K
  try go_frame
  refine wpAnyH_ready (rs := [5]) (by kernel_rfl) (by simp) ?_
  refine AllReadyH.cons (o := ⟨some 14, _, _, _, _, _⟩) rfl (fun K hK => ?_) AllReadyH.nil
  go_simp
  refine hK.out _ _ (hS4) (fun hHeld => ?_)
  clear hK K
  try go_frame
  refine wpAnyH_take (i := 6) (oi := ⟨some 15, _, _, _, _, _⟩) (v := ?_) rfl (by kernel_rfl) (by kernel_rfl) (by kernel_rfl) (fun _ _ _ h => h) (Or.inl ⟨by rfl, ?_⟩) hHeld ?_
  rotate_left
  · intro w hSw
    skip
    go_simp
    with_reducible rfl
  try go_frame
  refine wpAnyH_take (i := 7) (oi := ⟨some 16, _, _, _, _, _⟩) (v := ?_) rfl (by kernel_rfl) (by kernel_rfl) (by kernel_rfl) (fun _ _ _ h => h) (Or.inl ⟨by rfl, ?_⟩) hHeld ?_
  rotate_left
  · intro w hSw
    skip
    go_simp
    with_reducible rfl
  try go_frame
  refine wpAnyH_ready (rs := [8]) (by kernel_rfl) (by simp) ?_
  refine AllReadyH.cons (o := ⟨some 17, _, _, _, _, _⟩) rfl (fun K hK => ?_) AllReadyH.nil
  go_simp
  go_at_call 7
  refine (HKN.out _ hb4).mono ?_
  rintro e w5 ⟨rfl, hS5, hb5⟩
  refine hK.out _ _ (hS5) (fun hHeld => ?_)
  clear hK K
  try go_frame
  refine wpAnyH_take (i := 9) (oi := ⟨some 18, _, _, _, _, _⟩) (v := ?_) rfl (by kernel_rfl) (by kernel_rfl) (by kernel_rfl) (fun _ _ _ h => h) (Or.inl ⟨by rfl, ?_⟩) hHeld ?_
  rotate_left
  · intro w hSw
    skip
    go_simp
    with_reducible rfl
  try go_frame
  refine wpAnyH_take (i := 10) (oi := ⟨some 4, _, _, _, _, _⟩) (v := ?_) rfl (by kernel_rfl) (by kernel_rfl) (by kernel_rfl) (fun _ _ _ h => h) (Or.inl ⟨by rfl, ?_⟩) hHeld ?_
  rotate_left
  · intro w hSw
    skip
    go_simp
    with_reducible rfl
  try go_frame
  refine wpAnyH_done (by kernel_rfl) ?_ _
  clear hS0 hS4 hS5 k4 hHeld
  go_wp2
  go_ret
  exact ⟨rfl, hbw2.trans (hb5.mono hs2)⟩
end Go.Proofs.Ytmopkhddhbpckaa
