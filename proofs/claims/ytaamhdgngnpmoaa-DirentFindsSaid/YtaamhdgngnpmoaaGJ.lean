/-
  THE WALKS of the law's knows and of the law DirentBack, over the contracts.
-/
import Derived.Test.YtaamhdgngnpmoaaGI
import Derived.Test.YtaamhdgngnpmoaaGHB
import Derived.Test.YtaamhdgngnpmoaaGDB
namespace Go.Proofs.Ytaamhdgngnpmoaa
open Go.RowKit Dir

theorem di_ex : fine [⟨[97], 3⟩] = true ∧ encL [⟨[97], 3⟩] = [3, 1, 97, 0, 0, 0, 0, 0, 0, 0, 0, 0, 0, 0, 0, 0] ∧ okG [1] = false ∧ nameE [46, 46] = 1 ∧ nameE [97, 47] = 1 := by decide +kernel

set_option maxRecDepth 100000 in
set_option maxHeartbeats 2000000 in
theorem Diknows_any (X : DirC) (w : World) : Calls Try.prog 6 #[] w fun e w' => e = .returned (.bool true) ∧ Below w.heap.size w w' := by
  obtain ⟨w1, hw1⟩ : ∃ W, W = w.alloc (.cells #[.string ⟨#[97]⟩, .int .i64 3] 26) := ⟨_, rfl⟩
  have hr1 : Row w1 w.heap.size 26 (cEs [⟨[97], 3⟩]) := by rw [hw1]; exact Row.new w _ _
  have hE : EntsAt w1 (.slice (some ⟨w.heap.size, 0, none⟩) 1 1) [⟨[97], 3⟩] := ⟨_, 1, rfl, fun _ => ⟨w.heap.size, 0, rfl, hr1.lt, hr1.sees⟩⟩
  have HB1 : Hid (Below w.heap.size w w1) := by rw [hw1]; exact (Below.refl _ _).alloc (Nat.le_refl _) _
  have HP := Lib.hid (X.put [⟨[97], 3⟩] _ w1 (by decide) (fun e he => by rw [List.mem_singleton.1 he]; exact ⟨by decide, by decide, by decide⟩) hE)
  rw [if_pos di_ex.1, if_pos di_ex.1, di_ex.2.1] at HP
  have HG := Lib.hid fun W => X.get [1] (.slice (some ⟨W.heap.size, 0, none⟩) 1 1) (W.alloc (.cells #[.int .u8 1] 5)) (by decide) ((Row.new W 5 (([1] : List UInt8).map V8)).arg 1 rfl)
  have HN1 := Lib.hid fun W => X.name [46, 46] W (by decide)
  have HN2 := Lib.hid fun W => X.name [97, 47] W (by decide)
  rw [di_ex.2.2.2.1] at HN1
  rw [di_ex.2.2.2.2] at HN2
  have HOk := Lib.hid di_ex.2.2.1
  clear hr1 hE
  go_enter Try.func6, Try.ntmps6
  go_wp2_with fail
  rw [← hw1]
  clear hw1
  refine HP.out.mono ?_
  rintro e w2 ⟨r2, rfl, HA2, hb⟩
  have HB2 := Lib.hid (HB1.out.trans (hb.mono HB1.out.size))
  clear hb HB1 HP
  go_wp2_with fail
  refine (HG.out w2).mono ?_
  rintro e w3 ⟨r3, rfl, -, hb⟩
  rw [if_neg (by rw [HOk.out]; exact Bool.false_ne_true)]
  have hb3 : Below w2.heap.size w2 w3 := ((Below.refl _ _).alloc (Nat.le_refl _) _).trans (hb.mono (by simp))
  have HB3 := Lib.hid (HB2.out.trans (hb3.mono HB2.out.size))
  have hcv := conv_arg (HA2.out.below hb3)
  rw [show strB [3, 1, 97, 0, 0, 0, 0, 0, 0, 0, 0, 0, 0, 0, 0, 0] = ⟨#[3, 1, 97, 0, 0, 0, 0, 0, 0, 0, 0, 0, 0, 0, 0, 0]⟩ from rfl] at hcv
  clear hb hb3 HB2 HG HA2 HOk
  go_wp2_with (first
    | (go_at_call 10; refine (HN1.out _).mono ?_; rintro e w4 ⟨rfl, hb4⟩; have HB4 := Lib.hid (HB3.out.trans (hb4.mono HB3.out.size)); clear hb4 HN1)
    | (go_at_call 10; refine (HN2.out _).mono ?_; rintro e w5 ⟨rfl, hb5⟩; have HB5 := Lib.hid (HB4.out.trans (hb5.mono HB4.out.size)); clear hb5 HN2))
  go_ret
  exact ⟨rfl, HB5.out⟩

set_option maxRecDepth 100000 in
set_option maxHeartbeats 4000000 in
theorem DiBack_any (X : DirC) (l : List En) (hl : EnsOk l) (v : Value) (b : List UInt8) (u : Value) (w : World) (hE : EntsAt w v l) (hA : Arg w u b) :
    Calls Try.prog 4 #[v, u] w fun e w' => e = .returned (.bool true) ∧ Below w.heap.size w w' := by
  have HK := Lib.hid fun W => Diknows_any X W
  have HEn := Lib.hid hE
  have HAr := Lib.hid hA
  obtain ⟨A, cap, rfl, -⟩ := hE
  obtain ⟨B, bcap, rfl⟩ := hA.form
  by_cases hbig : 40 < l.length ∨ 700 < b.length
  · clear HEn HAr hA hl
    generalize l.length = n at *
    generalize b.length = m at *
    go_enter Try.func4, Try.ntmps4
    rcases hbig with h1 | h1
    · go_wp2_with fail
      refine (HK.out w).mono ?_
      rintro e w2 ⟨rfl, hb⟩
      have HB := Lib.hid hb
      clear hb HK
      go_wp2
      go_ret
      exact ⟨rfl, HB.out⟩
    · by_cases h2 : 40 < n
      · go_wp2_with fail
        refine (HK.out w).mono ?_
        rintro e w2 ⟨rfl, hb⟩
        have HB := Lib.hid hb
        clear hb HK
        go_wp2
        go_ret
        exact ⟨rfl, HB.out⟩
      · go_wp2_with fail
        refine (HK.out w).mono ?_
        rintro e w2 ⟨rfl, hb⟩
        have HB := Lib.hid hb
        clear hb HK
        go_wp2
        go_ret
        exact ⟨rfl, HB.out⟩
  · have hn : l.length ≤ 40 := by omega
    have hm : b.length ≤ 700 := by omega
    have HPut := Lib.hid (X.put l _ w (by omega) hl HEn.out)
    have HGb := Lib.hid fun W (hW : Below w.heap.size w W) => X.get b _ W (by omega) (HAr.out.below hW)
    have HAsl := Lib.hid fun W (hW : Below w.heap.size w W) => DiAs_any l (by omega) _ W (HEn.out.below hW)
    have HLn := Lib.hid hn
    have Hm := Lib.hid hm
    have HCv : Hid (∀ W : World, Below w.heap.size w W → (convert 23 9 (.slice B b.length bcap)).run Try.prog W = .ok (.string (strB b)) W) := fun W hW => conv_arg (HAr.out.below hW)
    obtain ⟨n, hnl⟩ : ∃ n, n = l.length := ⟨_, rfl⟩
    obtain ⟨m, hml⟩ : ∃ m, m = b.length := ⟨_, rfl⟩
    have HNl := Lib.hid hnl
    rw [← hnl] at hn HPut HAsl ⊢
    rw [← hml] at hm HGb HCv ⊢
    clear hA hbig HEn HAr hl hnl hml
    go_enter Try.func4, Try.ntmps4
    go_wp2_with fail
    refine HPut.out.mono ?_
    rintro e w1 ⟨r1, rfl, HA1, hb1⟩
    have HB1 := Lib.hid hb1
    clear hb1 HPut
    cases hf : fine l with
    | false =>
      rw [if_neg Bool.false_ne_true]
      rw [hf, if_neg Bool.false_ne_true] at HA1
      clear HA1 HAsl
      go_wp2_with fail
      refine (HGb.out w1 HB1.out).mono ?_
      rintro e w5 ⟨r5, rfl, HE5, hb5⟩
      have HB5 := Lib.hid (HB1.out.trans (hb5.mono HB1.out.size))
      clear hb5 HGb HB1 hf
      cases hg : okG b with
      | false =>
        rw [if_neg Bool.false_ne_true]
        clear HE5 hg
        go_wp2_with fail
        refine (HK.out w5).mono ?_
        rintro e w6 ⟨rfl, hb6⟩
        have HB6 := Lib.hid (HB5.out.trans (hb6.mono HB5.out.size))
        clear hb6 HK HB5
        go_wp2
        go_ret
        exact ⟨rfl, HB6.out⟩
      | true =>
        rw [if_pos rfl]
        obtain ⟨hgf, hge⟩ := back_get hg
        have hgn : (getL b).length ≤ 1000 := by rw [getL, if_pos hg, ents_length]; have := Hm.out; omega
        have HP5 := Lib.hid (X.put (getL b) r5 w5 hgn (fun e he => by have h1 := okE_iff.1 (fine_mem hgf he); have h2 := nameE_ok h1.1; exact ⟨by omega, by omega, by omega⟩) HE5.out.at_)
        rw [if_pos hgf, if_pos hgf, hge] at HP5
        clear HE5 hg hgf hge hgn
        go_wp2_with fail
        refine HP5.out.mono ?_
        rintro e w6 ⟨r6, rfl, HA6, hb6⟩
        have HB6 := Lib.hid (HB5.out.trans (hb6.mono HB5.out.size))
        have hcv1 := conv_arg HA6.out
        have hcv2 := HCv.out w6 HB6.out
        clear hb6 HB5 HP5 HA6 HCv
        generalize strB b = sb at *
        go_wp2_with fail
        refine (HK.out w6).mono ?_
        rintro e w7 ⟨rfl, hb7⟩
        have HB7 := Lib.hid (HB6.out.trans (hb7.mono HB6.out.size))
        clear hb7 HK HB6 hcv1 hcv2
        go_wp2
        go_ret
        exact ⟨rfl, HB7.out⟩
    | true =>
      rw [if_pos rfl]
      rw [hf, if_pos rfl] at HA1
      obtain ⟨hg, hgl⟩ := back_put hf
      have h14 : ∀ e ∈ l, e.n.length ≤ 14 := fun e he => (nameE_ok (okE_iff.1 (fine_mem hf he)).1).2
      have hel : (encL l).length = 16 * n := by rw [encL_length h14, HNl.out]
      have HG1 := Lib.hid (X.get (encL l) r1 w1 (by omega) HA1.out)
      rw [if_pos hg, hgl] at HG1
      obtain ⟨A1, cap1, rfl⟩ := HA1.out.form
      rw [hel] at HG1 ⊢
      clear hg hgl h14 hel HA1 hf
      go_wp2_with fail
      refine HG1.out.mono ?_
      rintro e w2 ⟨r2, rfl, HE2, hb2⟩
      have HB2 := Lib.hid (HB1.out.trans (hb2.mono HB1.out.size))
      have HAs2 := Lib.hid (DiAs_any l (by rw [← HNl.out]; omega) _ w2 HE2.out.at_)
      clear hb2 HG1 HB1 HE2
      go_wp2_with fail
      refine HAs2.out.mono ?_
      rintro e w3 ⟨r3, rfl, HE3, hb3⟩
      have HB3 := Lib.hid (HB2.out.trans (hb3.mono HB2.out.size))
      clear hb3 HAs2 HB2
      go_wp2_with fail
      refine (HAsl.out w3 HB3.out).mono ?_
      rintro e w4 ⟨r4, rfl, HE4, hb4⟩
      have HB4 := Lib.hid (HB3.out.trans (hb4.mono HB3.out.size))
      have HSm := Lib.hid (Disame_any l l (by rw [← HNl.out]; omega) (by rw [← HNl.out]; omega) _ _ w4 (HE3.out.below hb4).at_ HE4.out.at_)
      rw [decide_eq_true rfl] at HSm
      clear hb4 HAsl HB3 HE3 HE4
      go_wp2_with fail
      refine HSm.out.mono ?_
      rintro e w4b ⟨rfl, hb4⟩
      have HB4b := Lib.hid (HB4.out.trans (hb4.mono HB4.out.size))
      clear hb4 HSm HB4
      go_wp2_with fail
      refine (HGb.out w4b HB4b.out).mono ?_
      rintro e w5 ⟨r5, rfl, HE5, hb5⟩
      have HB5 := Lib.hid (HB4b.out.trans (hb5.mono HB4b.out.size))
      clear hb5 HGb HB4b
      cases hg : okG b with
      | false =>
        rw [if_neg Bool.false_ne_true]
        clear HE5 hg
        go_wp2_with fail
        refine (HK.out w5).mono ?_
        rintro e w6 ⟨rfl, hb6⟩
        have HB6 := Lib.hid (HB5.out.trans (hb6.mono HB5.out.size))
        clear hb6 HK HB5
        go_wp2
        go_ret
        exact ⟨rfl, HB6.out⟩
      | true =>
        rw [if_pos rfl]
        obtain ⟨hgf, hge⟩ := back_get hg
        have hgn : (getL b).length ≤ 1000 := by rw [getL, if_pos hg, ents_length]; have := Hm.out; omega
        have HP5 := Lib.hid (X.put (getL b) r5 w5 hgn (fun e he => by have h1 := okE_iff.1 (fine_mem hgf he); have h2 := nameE_ok h1.1; exact ⟨by omega, by omega, by omega⟩) HE5.out.at_)
        rw [if_pos hgf, if_pos hgf, hge] at HP5
        clear HE5 hg hgf hge hgn
        go_wp2_with fail
        refine HP5.out.mono ?_
        rintro e w6 ⟨r6, rfl, HA6, hb6⟩
        have HB6 := Lib.hid (HB5.out.trans (hb6.mono HB5.out.size))
        have hcv1 := conv_arg HA6.out
        have hcv2 := HCv.out w6 HB6.out
        clear hb6 HB5 HP5 HA6 HCv
        generalize strB b = sb at *
        go_wp2_with fail
        refine (HK.out w6).mono ?_
        rintro e w7 ⟨rfl, hb7⟩
        have HB7 := Lib.hid (HB6.out.trans (hb7.mono HB6.out.size))
        clear hb7 HK HB6 hcv1 hcv2
        go_wp2
        go_ret
        exact ⟨rfl, HB7.out⟩
end Go.Proofs.Ytaamhdgngnpmoaa
