/-
  THE WALK of the law AesApart.
-/
import Derived.Test.YtmopkhddhbpckaaEK
namespace Go.Proofs.Ytmopkhddhbpckaa
open Go.RowKit Aes

set_option maxRecDepth 100000 in
set_option maxHeartbeats 1000000 in
theorem AApart_any (key a b : List UInt8) (kr ar br : List Value) (hk : Vec 16 key kr) (ha : Vec 16 a ar) (hb : Vec 16 b br) (w : World) :
    Calls Try.prog 4 #[.agg kr.toArray, .agg ar.toArray, .agg br.toArray] w fun e w' => e = .returned (.bool true) ∧ Below w.heap.size w w' := by
  have HK := Lib.hid hk
  have HA := Lib.hid ha
  have HB := Lib.hid hb
  obtain ⟨xs, hxs⟩ : ∃ xs, xs = (enc key a).map V8 := ⟨_, rfl⟩
  obtain ⟨ys, hys⟩ : ∃ ys, ys = (enc key b).map V8 := ⟨_, rfl⟩
  obtain ⟨B, hB⟩ : ∃ B : Bool, B = decide (a = b) := ⟨_, rfl⟩
  have hte1 := arr_eq 22 16 Try.underlying22 (enc key a) (enc key b) xs ys ⟨hxs, enc_length key a hk.2 ha.2⟩ ⟨hys, enc_length key b hk.2 hb.2⟩
  have hte2 := arr_eq 22 16 Try.underlying22 a b ar br ha hb
  have hBe : decide (enc key a = enc key b) = B := by
    rw [hB]
    by_cases h : a = b
    · rw [h]; simp
    · simp only [h, decide_false, decide_eq_false_iff_not]
      exact fun hh => h (enc_inj hk.2 ha.2 hb.2 hh)
  rw [hBe] at hte1
  rw [← hB] at hte2
  clear hB hBe
  have hr0 : Row (((w.alloc (.cells kr.toArray 22)).alloc (.cells ar.toArray 22)).alloc (.cells br.toArray 22)) w.heap.size 22 kr := ((Row.new w 22 kr).alloc _).alloc _
  have hr1 : Row (((w.alloc (.cells kr.toArray 22)).alloc (.cells ar.toArray 22)).alloc (.cells br.toArray 22)) (w.heap.size + 1) 22 ar := (Row.newAt 22 ar (by simp)).alloc _
  have hr2 : Row (((w.alloc (.cells kr.toArray 22)).alloc (.cells ar.toArray 22)).alloc (.cells br.toArray 22)) (w.heap.size + 1 + 1) 22 br := Row.newAt 22 br (by simp)
  have hbl : Below w.heap.size w (((w.alloc (.cells kr.toArray 22)).alloc (.cells ar.toArray 22)).alloc (.cells br.toArray 22)) := (((Below.refl _ _).alloc (Nat.le_refl _) _).alloc (by simp) _).alloc (by simp; omega) _
  have HR0 := Lib.hid hr0
  have HR1 := Lib.hid hr1
  have HR2 := Lib.hid hr2
  have HBL := Lib.hid hbl
  have HX := Lib.hid hxs
  have HY := Lib.hid hys
  clear hr0 hr1 hr2 hbl hk ha hb hxs hys
  have HT1 := Lib.hid hte1
  have HT2 := Lib.hid hte2
  clear hte1 hte2
  go_enter Try.func4, Try.ntmps4
  go_wp2
  generalize ((w.alloc (.cells kr.toArray 22)).alloc (.cells ar.toArray 22)).alloc (.cells br.toArray 22) = w0 at *
  have hs0 := HBL.out.size
  have HSW : Hid (∀ W, Below w0.heap.size w0 W → W.rangeAt w.heap.size 0 kr ∧ W.rangeAt (w.heap.size + 1) 0 ar ∧ W.rangeAt (w.heap.size + 1 + 1) 0 br) := fun W hW =>
    ⟨(HR0.out.below hW HR0.out.lt).sees, (HR1.out.below hW HR1.out.lt).sees, (HR2.out.below hW HR2.out.lt).sees⟩
  have HC1 : Hid (Calls Try.prog 5 #[.agg kr.toArray, .agg ar.toArray] w0.drew fun e w' => e = .returned (.agg xs.toArray) ∧ (w'.rangeAt w.heap.size 0 kr ∧ w'.rangeAt (w.heap.size + 1) 0 ar ∧ w'.rangeAt (w.heap.size + 1 + 1) 0 br) ∧ Below w0.heap.size w0 w') :=
    (AEnc_any key a kr ar HK.out HA.out w0.drew).mono fun e w' ⟨ts, hts, he, hb'⟩ => by
      have hb : Below w0.heap.size w0 w' := ⟨hb'.os, hb'.tape, hb'.output, hb'.size, hb'.block⟩
      exact ⟨by rw [he, hts.out.1, HX.out], HSW.out _ hb, hb⟩
  have HC2 : Hid (∀ W, Below w0.heap.size w0 W → Calls Try.prog 5 #[.agg kr.toArray, .agg br.toArray] W fun e w' => e = .returned (.agg ys.toArray) ∧ (w'.rangeAt w.heap.size 0 kr ∧ w'.rangeAt (w.heap.size + 1) 0 ar ∧ w'.rangeAt (w.heap.size + 1 + 1) 0 br) ∧ Below w0.heap.size w0 w') := fun W hW =>
    (AEnc_any key b kr br HK.out HB.out W).mono fun e w' ⟨ts, hts, he, hb'⟩ => by
      have hb := hW.trans (hb'.mono hW.size)
      exact ⟨by rw [he, hts.out.1, HY.out], HSW.out _ hb, hb⟩
  have HKN : Hid (∀ W, Below w0.heap.size w0 W → Calls Try.prog 7 #[] W fun e w' => e = .returned (.bool true) ∧ (w'.rangeAt w.heap.size 0 kr ∧ w'.rangeAt (w.heap.size + 1) 0 ar ∧ w'.rangeAt (w.heap.size + 1 + 1) 0 br) ∧ Below w0.heap.size w0 w') := fun W hW =>
    (Aknows_any W).mono fun e w' ⟨he, hb'⟩ => by
      have hb := hW.trans (hb'.mono hW.size)
      exact ⟨he, HSW.out _ hb, hb⟩
  have hS0 : w0.drew.rangeAt w.heap.size 0 kr ∧ w0.drew.rangeAt (w.heap.size + 1) 0 ar ∧ w0.drew.rangeAt (w.heap.size + 1 + 1) 0 br := HSW.out w0.drew ⟨rfl, rfl, rfl, Nat.le_refl _, fun _ _ => rfl⟩
  have hi1 : (Try.prog.info? 22).map (·.size) = some kr.length := by rw [HK.out.len]; kernel_rfl
  have hi2 : (Try.prog.info? 22).map (·.size) = some ar.length := by rw [HA.out.len]; kernel_rfl
  have hi3 : (Try.prog.info? 22).map (·.size) = some br.length := by rw [HB.out.len]; kernel_rfl
  have hgd : Try.prog.eqGuardType Try.prog.depth 22 = false := by kernel_rfl
  have hte1 := HT1.out
  have hte2 := HT2.out
  clear HR0 HR1 HR2 HX HY HSW HK HA HB HT1 HT2
  cases B
  all_goals
    refine wp_region_held_drew (S := (fun W => W.rangeAt w.heap.size 0 kr ∧ W.rangeAt (w.heap.size + 1) 0 ar ∧ W.rangeAt (w.heap.size + 1 + 1) 0 br)) (by kernel_rfl) (hS0) (fun hHeld => ?_)
    refine wpAnyH_take (i := 0) (oi := ⟨some 7, _, _, _, _, _⟩) (v := .agg kr.toArray) rfl (by kernel_rfl) (by kernel_rfl) (by kernel_rfl) (fun _ _ _ h => h) (yieldsIf_load_mid (by rfl) 22 (.tmp 3) rfl w.heap.size 0 rfl kr _ (fun _ h => h.1) Try.underlying22 rfl hi1) hHeld ?_
    try go_frame
    refine wpAnyH_take (i := 1) (oi := ⟨some 8, _, _, _, _, _⟩) (v := .agg ar.toArray) rfl (by kernel_rfl) (by kernel_rfl) (by kernel_rfl) (fun _ _ _ h => h) (yieldsIf_load_mid (by rfl) 22 (.tmp 4) rfl (w.heap.size + 1) 0 rfl ar _ (fun _ h => h.2.1) Try.underlying22 rfl hi2) hHeld ?_
    try go_frame
    refine wpAnyH_take (i := 3) (oi := ⟨some 10, _, _, _, _, _⟩) (v := .agg kr.toArray) rfl (by kernel_rfl) (by kernel_rfl) (by kernel_rfl) (fun _ _ _ h => h) (yieldsIf_load_mid (by rfl) 22 (.tmp 3) rfl w.heap.size 0 rfl kr _ (fun _ h => h.1) Try.underlying22 rfl hi1) hHeld ?_
    try go_frame
    refine wpAnyH_take (i := 4) (oi := ⟨some 11, _, _, _, _, _⟩) (v := .agg br.toArray) rfl (by kernel_rfl) (by kernel_rfl) (by kernel_rfl) (fun _ _ _ h => h) (yieldsIf_load_mid (by rfl) 22 (.tmp 5) rfl (w.heap.size + 1 + 1) 0 rfl br _ (fun _ h => h.2.2) Try.underlying22 rfl hi3) hHeld ?_
    try go_frame
    refine wpAnyH_take (i := 7) (oi := ⟨some 14, _, _, _, _, _⟩) (v := .agg ar.toArray) rfl (by kernel_rfl) (by kernel_rfl) (by kernel_rfl) (fun _ _ _ h => h) (yieldsIf_load_mid (by rfl) 22 (.tmp 4) rfl (w.heap.size + 1) 0 rfl ar _ (fun _ h => h.2.1) Try.underlying22 rfl hi2) hHeld ?_
    try go_frame
    refine wpAnyH_take (i := 8) (oi := ⟨some 15, _, _, _, _, _⟩) (v := .agg br.toArray) rfl (by kernel_rfl) (by kernel_rfl) (by kernel_rfl) (fun _ _ _ h => h) (yieldsIf_load_mid (by rfl) 22 (.tmp 5) rfl (w.heap.size + 1 + 1) 0 rfl br _ (fun _ h => h.2.2) Try.underlying22 rfl hi3) hHeld ?_
    try go_frame
    refine wpAnyH_take (i := 9) (oi := ⟨some 16, _, _, _, _, _⟩) (v := ?_) rfl (by kernel_rfl) (by kernel_rfl) (by kernel_rfl) (fun _ _ _ h => h) (Or.inl ⟨by rfl, ?_⟩) hHeld ?_
    rotate_left
    · intro w hSw
      clear hSw
      go_simp
      with_reducible rfl
    try go_frame
    refine wpAnyH_ready (rs := [2]) (by kernel_rfl) (by simp) ?_
    refine AllReadyH.cons (o := ⟨some 9, _, _, _, _, _⟩) rfl (fun K hK => ?_) AllReadyH.nil
    go_simp
    go_at_call 5
    refine HC1.out.mono ?_
    rintro e w1 ⟨rfl, hS1, hb1⟩
    refine hK.out _ _ (hS1) (fun hHeld => ?_)
    clear hK K
    try go_frame
    refine wpAnyH_ready (rs := [5]) (by kernel_rfl) (by simp) ?_
    refine AllReadyH.cons (o := ⟨some 12, _, _, _, _, _⟩) rfl (fun K hK => ?_) AllReadyH.nil
    go_simp
    go_at_call 5
    refine (HC2.out _ hb1).mono ?_
    rintro e w2 ⟨rfl, hS2, hb2⟩
    refine hK.out _ _ (hS2) (fun hHeld => ?_)
    clear hK K
    try go_frame
    refine wpAnyH_take (i := 6) (oi := ⟨some 13, _, _, _, _, _⟩) (v := ?_) rfl (by kernel_rfl) (by kernel_rfl) (by kernel_rfl) (fun _ _ _ h => h) (Or.inl ⟨by rfl, ?_⟩) hHeld ?_
    rotate_left
    · intro w hSw
      clear hSw
      go_simp
      with_reducible rfl
    try go_frame
    refine wpAnyH_take (i := 10) (oi := ⟨some 17, _, _, _, _, _⟩) (v := ?_) rfl (by kernel_rfl) (by kernel_rfl) (by kernel_rfl) (fun _ _ _ h => h) (Or.inl ⟨by rfl, ?_⟩) hHeld ?_
    rotate_left
    · intro w hSw
      clear hSw
      go_simp
      with_reducible rfl
    try go_frame
    refine wpAnyH_take (i := 11) (oi := ⟨some 18, _, _, _, _, _⟩) (v := ?_) rfl (by kernel_rfl) (by kernel_rfl) (by kernel_rfl) (fun _ _ _ h => h) (Or.inl ⟨by rfl, ?_⟩) hHeld ?_
    rotate_left
    · intro w hSw
      clear hSw
      go_simp
      with_reducible rfl
    try go_frame
    refine wpAnyH_ready (rs := [12]) (by kernel_rfl) (by simp) ?_
    refine AllReadyH.cons (o := ⟨some 19, _, _, _, _, _⟩) rfl (fun K hK => ?_) AllReadyH.nil
    go_simp
    go_at_call 7
    refine (HKN.out _ hb2).mono ?_
    rintro e w3 ⟨rfl, hS3, hb3⟩
    refine hK.out _ _ (hS3) (fun hHeld => ?_)
    clear hK K
    try go_frame
    refine wpAnyH_take (i := 13) (oi := ⟨some 20, _, _, _, _, _⟩) (v := ?_) rfl (by kernel_rfl) (by kernel_rfl) (by kernel_rfl) (fun _ _ _ h => h) (Or.inl ⟨by rfl, ?_⟩) hHeld ?_
    rotate_left
    · intro w hSw
      clear hSw
      go_simp
      with_reducible rfl
    try go_frame
    refine wpAnyH_take (i := 14) (oi := ⟨some 6, _, _, _, _, _⟩) (v := ?_) rfl (by kernel_rfl) (by kernel_rfl) (by kernel_rfl) (fun _ _ _ h => h) (Or.inl ⟨by rfl, ?_⟩) hHeld ?_
    rotate_left
    · intro w hSw
      clear hSw
      go_simp
      with_reducible rfl
    try go_frame
    refine wpAnyH_done (by kernel_rfl) ?_ _
    clear hS0 hS1 hS2 hS3 hte1 hte2 hgd hi1 hi2 hi3 hHeld
    go_wp2
    go_ret
    exact ⟨rfl, HBL.out.trans (hb3.mono hs0)⟩
end Go.Proofs.Ytmopkhddhbpckaa
