/-
  THE LAW CachePlays (its regions that draw their order by wip/mkcaplays.py).
-/
import Derived.Test.YthcphabfeapjbaaPO
import Derived.Laws.FloatArith
namespace Go.Proofs.Ythcphabfeapjbaa
open Go.RowKit Ca

section
variable {w W W' : World} {B : Nat}
theorem own_hereC {e : TypeId} {v : Value} {l : List Value} (h : Own W B e v l) (hp : 0 < l.length) : ∃ g cap, v = .slice (some ⟨g, 0, none⟩) l.length cap ∧ B ≤ g ∧ g < W.heap.size ∧ v.ownBlock = some g ∧ Here W g 0 l := by
  rcases h.2 with ⟨_, h0⟩ | ⟨g, cap, cur, rfl, hb, hg, _, _, _, ht⟩
  · omega
  · refine ⟨g, cap, rfl, hb, (Array.getElem?_eq_some_iff.1 hg).1, rfl, ?_⟩
    have hr : Row W g e cur.toList := by rw [Row, Array.toArray_toList]; exact hg
    have := hr.here.part 0 l.length
    rw [Nat.zero_add, List.drop_zero, ← Nat.mul_one l.length, ht] at this
    exact this
theorem own_lenC {e : TypeId} {v : Value} {l : List Value} (h : Own W B e v l) : ∃ A c, v = .slice A l.length c := by
  have hl := h.1
  rcases h.2 with ⟨rfl, h0⟩ | ⟨g, cap, cur, rfl, _⟩
  · exact ⟨none, 0, by rw [h0]⟩
  · exact ⟨_, cap, rfl⟩
end
theorem own_argC {W W' : World} {B : Nat} {v : Value} {bs : List UInt8} {S : Nat → Nat → Prop} (h : Own W B 5 v (bs.map V8)) (hc : Chg S W W') (hn : ∀ k o, v.ownBlock = some k → ¬ S k o) : Arg W' v bs := by
  rcases Nat.eq_zero_or_pos bs.length with h0 | h0
  · obtain rfl := List.eq_nil_of_length_eq_zero h0
    rcases (Own.arg h) with ⟨A, e1, e2⟩ | ⟨b, o, cap, e, hl, hc', hs⟩
    · exact .inl ⟨A, e1, e2⟩
    · exact .inr ⟨b, o, cap, e, Nat.lt_of_lt_of_le hl hc.size, hc', fun j u hu => by simp at hu⟩
  · obtain ⟨g, cap, hv, _, hg, hob, hH⟩ := own_hereC h (by rw [List.length_map]; exact h0)
    obtain ⟨g', cap', hv', _, _, hcap, _⟩ := h.form_cap (by rw [List.length_map]; exact h0)
    rw [List.length_map] at hv hv' hcap
    have : cap' = cap := by rw [hv] at hv'; injection hv' with _ _ e; exact e.symm
    rw [this] at hcap
    exact .inr ⟨g, 0, cap, hv, Nat.lt_of_lt_of_le hg hc.size, hcap, (hH.chg hc fun j _ => hn g _ hob).1⟩
theorem infoCd : (Try.prog.info? 32).map (·.size) = some 3 := by kernel_rfl
theorem hasL_length (L : List Ent) : (hasL L).length ≤ L.length := by
  have := (fold_has 1 0 L [] (fun x hx => by cases hx)).2.2
  exact Nat.le_trans this (by simp)
theorem bothC_new {C : Cach} (X : CacheC C) {w w1 w2 : World} {D M sh room : Nat} {F G : Nat → Prop} {s : St} (hD : C w1 F D sh room 0 s) (hF : ∀ k, F k → w.heap.size ≤ k) (hb1 : Below w.heap.size w w1)
    (hR : RefK w2 G M sh room 0 s) (hG : ∀ k, G k → w1.heap.size ≤ k) (hb2 : Below w1.heap.size w1 w2) : BothC C w w2 (fun _ => False) D M sh room 0 0 s s :=
  ⟨F, G, X.stay hD (Chg.below hb2 fun _ _ => False) fun _ _ _ x => x, hR, fun k hk => ⟨hF k hk, fun x => x⟩, fun k hk => ⟨Nat.le_trans hb1.size (hG k hk), fun x => x⟩, fun k hk hg => by have := X.lt hD k hk; have := hG k hg; omega, fun _ x => x.elim, hb1.trans (hb2.mono hb1.size)⟩
theorem run_i2f (n : Int) (W : World) : (convert 3 45 (.int .i64 n)).run Try.prog W = .ok (.float .f64 (FloatKind.f64.nearest n)) W := by rfl
theorem run_quo (a b r : Nat) (h : FloatKind.f64.format.div a b = some r) (t : TypeId) (W : World) : (binOp .quo t (.float .f64 a) (.float .f64 b)).run Try.prog W = .ok (.float .f64 r) W := by
  simp [binOp, Op.floatArith, h]

set_option maxRecDepth 100000 in
set_option maxHeartbeats 40000000 in
theorem CPlays_short {C : Cach} (X : CacheC C) (sh room : Nat) (h1 : 1 ≤ sh) (h2 : sh ≤ 8) (h3 : 1 ≤ room) (h4 : room ≤ 8) (B : Option Addr) (m cap2 : Nat) (l : List CDeed) (hm1 : m ≤ 120) (w : World) (hL : CDeeds w (.slice B m cap2) l) :
    Calls Try.prog 3 #[.int .i64 (sh : Int), .int .i64 (room : Int), .slice B m cap2] w fun e w' => e = .returned (.bool true) ∧ Below w.heap.size w w' := by
  have HN := Lib.hid (X.newOk sh room w ⟨h1, by omega⟩ ⟨h3, by omega⟩)
  have HRN : Hid (∀ W, _) := fun W => RCNew_any sh room ⟨h1, by omega⟩ ⟨h3, by omega⟩ W
  have HL := Lib.hid hL
  obtain ⟨s0, hs0⟩ : ∃ s, s = new sh room := ⟨_, rfl⟩
  rw [← hs0] at HN HRN
  clear hL hs0
  go_enter Try.func3, Try.ntmps3
  go_wp2_with fail
  refine HN.out.mono ?_
  rintro e w1 ⟨D, F, rfl, hD, hF, hb1⟩
  have HD := Lib.hid hD
  have HF := Lib.hid hF
  have HB1 := Lib.hid hb1
  clear hD hF hb1 HN
  go_wp2_with fail
  refine (HRN.out w1).mono ?_
  rintro e w2 ⟨M, G, rfl, hR, hG, hb2⟩
  have HB0 : Hid (BothC C w w2 (fun _ => False) D M sh room 0 0 s0 s0) := bothC_new X HD.out HF.out HB1.out hR hG hb2
  clear hR hG hb2 HD HF HB1 HRN
  go_wp2
  go_loopw [10] (fun i wr => ∃ (k q : Nat) (s : St), k ≤ m ∧ i = .int .i64 (k : Int) ∧ q ≤ k ∧ Hid (BothC C w wr (fun _ => False) D M sh room q q s s)) (fun i _ => m - (intOf i).toNat)
  case atStart => exact ⟨0, 0, s0, by omega, rfl, by omega, HB0⟩
  case round =>
    obtain ⟨k, q, s, hk, rfl, hq, HB2⟩ := hrel
    clear HB0
    by_cases hlt : k < m
    · obtain ⟨b0, o0, d, rfl, hb0, hd, hok, hcell⟩ := HL.out.at_ hlt
      obtain ⟨dw, di, dv, bs⟩ := d
      obtain ⟨Ab, cb, hvb⟩ := hok.arg.form
      obtain ⟨nb, hnb⟩ : ∃ nb, nb = bs.length := ⟨_, rfl⟩
      dsimp only at hvb
      rw [← hnb] at hvb
      subst hvb
      have Hnb := Lib.hid hnb
      have HOk : Hid (Arg w (.slice Ab nb cb) bs ∧ In64 di) := ⟨hok.arg, hok.at_⟩
      obtain ⟨q0, q1, q2⟩ := hcell wr HB2.out.below
      have HRg : Hid (wr.rangeAt b0 (o0 + k * 3) [.int .i64 dw, .int .i64 di, .slice Ab nb cb]) := fun j u hu => by
        match j, hu with
        | 0, hu => injection hu with hu; rw [← hu]; exact q0
        | 1, hu => injection hu with hu; rw [← hu]; exact q1
        | 2, hu => injection hu with hu; rw [← hu]; exact q2
        | j + 3, hu => simp at hu
      have hlo := hok.lo
      have hhi := hok.hi
      dsimp only at hlo hhi
      have hlt' : (k : Int) < (m : Int) := by omega
      obtain ⟨r, hr⟩ : ∃ r, r = wr.heap.size := ⟨_, rfl⟩
      obtain ⟨w5, hw5⟩ : ∃ w5, w5 = wr.alloc (.cells #[.int .i64 dw, .int .i64 di, .slice Ab nb cb] 32) := ⟨_, rfl⟩
      have HX : Hid (Here w5 r 0 [.int .i64 dw, .int .i64 di, .slice Ab nb cb]) := by rw [hw5, hr]; exact (Row.new wr 32 [.int .i64 dw, .int .i64 di, .slice Ab nb cb]).here
      have HB : Hid (BothC C w w5 (fun k => k = r) D M sh room q q s s) := by
        rw [hw5]
        exact HB2.out.also X ((Below.refl _ _).alloc (Nat.le_refl _) _) _ (fun j hj => .inr ⟨by omega, by simp; omega⟩)
      have HWr : Hid (w.heap.size ≤ r) := by show _ ≤ _; rw [hr]; exact HB2.out.below.size
      have Hrl : Hid (r < w5.heap.size) := HX.out.lt (by simp)
      have HW5 := Lib.hid hw5
      have Hr := Lib.hid hr
      clear hcell hd hok q0 q1 q2 HB2 hnb hw5 hr hb0
      by_cases hbig : 100 < nb
      · skip
        go_wp2_with (refine wpList_load_mid rfl 32 (.tmp 85) rfl b0 (o0 + k * 3) rfl [.int .i64 dw, .int .i64 di, .slice Ab nb cb] _ HRg.out Try.underlying32 rfl infoCd ?_)
        rw [← HW5.out, ← Hr.out]
        clear HW5 Hr HRg
        refine (Cknows_any X _).mono ?_
        rintro e w8 ⟨rfl, hb8⟩
        have HBe : Hid (Below w.heap.size w w8) := HB.out.below.trans (hb8.mono HB.out.below.size)
        clear hb8 HB HX
        go_wp2
        go_ret
        exact ⟨rfl, HBe.out⟩
      have hp6 : pk6 dw < 6 := Nat.mod_lt _ (by omega)
      rcases (show pk6 dw = 0 ∨ pk6 dw = 1 ∨ pk6 dw = 2 ∨ pk6 dw = 3 ∨ pk6 dw = 4 ∨ pk6 dw = 5 from by omega) with hp | hp | hp | hp | hp | hp
      · as_aux_lemma =>
          have HPk : Hid (Calls Try.prog 8 #[.int .i64 dw, .int .i64 6] w5 fun e w' => e = .returned (.int .i64 0) ∧ w' = w5) := by have := Cpick_any dw hlo hhi w5; rw [hp] at this; exact this
          clear hp hp6 hlo hhi
          go_wp2_with (refine wpList_load_mid rfl 32 (.tmp 85) rfl b0 (o0 + k * 3) rfl [.int .i64 dw, .int .i64 di, .slice Ab nb cb] _ HRg.out Try.underlying32 rfl infoCd ?_)
          rw [← HW5.out, ← Hr.out]
          clear HW5 Hr HRg
          refine HPk.out.mono ?_
          rintro e w5 ⟨rfl, rfl⟩
          clear HPk
          have HO : Hid (Own (w5.alloc (.cells #[] 5)) w5.heap.size 5 (.slice (some ⟨w5.heap.size, 0, none⟩) 0 0) []) := Own.lit w5 _ _ [] (Nat.le_refl _) (by decide)
          have HFr : Hid (From (w5.alloc (.cells #[] 5)) (.slice Ab nb cb) (bs.map V8)) := (arg_from (HOk.out.1.below HB.out.below)).alloc _
          have Ho1 := Lib.hid (oneC8 bs)
          have HLn : Hid (([] : List Value).length + (bs.map V8).length ≤ 100000000) := by show _ ≤ _; rw [List.length_map, ← Hnb.out]; simp; omega
          have g2 := (HX.out.alloc (.cells #[] 5)).head (j := 2) rfl
          go_wp2_with (at_builtin; refine wpList_app rfl (.tmp 97) (.tmp 99) 30 rfl w5.heap.size 5 Try.underlying30 info8 rfl (by decide) _ [] rfl HO.out _ (bs.map V8) rfl HFr.out Ho1.out HLn.out (by simp) ?_; intro v6 w6 hown6 hg6 _; rw [List.nil_append] at hown6; have hb6 : Below w5.heap.size w5 w6 := below_app ((Below.refl _ _).alloc (Nat.le_refl _) _) HO.out hg6 (Nat.le_refl _) (by simp); obtain ⟨A6, c6, hv6⟩ := own_lenC hown6; rw [List.length_map, ← Hnb.out] at hv6; subst hv6; have HOw6 := Lib.hid hown6; have HX6 : Hid (Here w6 r 0 [.int .i64 dw, .int .i64 di, .slice Ab nb cb]) := HX.out.stay hb6; have Hb6 := Lib.hid hb6; clear hown6 hg6 hb6 g2 HO HFr Ho1 HLn)
          have HB6 : Hid (BothC C w w6 (fun k => k = r ∨ (w5.heap.size ≤ k ∧ k < w6.heap.size)) D M sh room q q s s) := HB.out.also X Hb6.out _ (fun k hk => hk)
          have HBd := Lib.hid (HB6.out.stay X (below_drewN (Below.refl _ w6) 1))
          have HXd : Hid (Here w6.drew r 0 [.int .i64 dw, .int .i64 di, .slice Ab nb cb]) := HX6.out
          obtain ⟨sb, hsb⟩ : ∃ x, x = strB bs := ⟨_, rfl⟩
          have HArg6 : Hid (Arg w6.drew (.slice A6 nb c6) bs) := HOw6.out.arg.below (below_drewN (Below.refl _ w6) 1)
          have HC1 : Hid (Calls Try.prog 9 #[.pointer (some ⟨D, 0, none⟩), .int .i64 di, .slice A6 nb c6] w6.drew fun e w' => e = .returned (.bool (put sh room s di bs).2) ∧ BothC C w w' (fun k => k = r ∨ (w5.heap.size ≤ k ∧ k < w6.heap.size)) D M sh room q q (put sh room s di bs).1 s ∧ Chg (FrmC w (fun k => k = r ∨ (w5.heap.size ≤ k ∧ k < w6.heap.size))) w6.drew w') := HBd.out.cache (Q := fun e => e = .returned (.bool (put sh room s di bs).2)) fun F hF => X.put hF (by omega) di _ bs HOk.out.2 (by rw [← Hnb.out]; omega) HArg6.out
          have HC2 : Hid (∀ w', BothC C w w' (fun k => k = r ∨ (w5.heap.size ≤ k ∧ k < w6.heap.size)) D M sh room q q (put sh room s di bs).1 s → Calls Try.prog 10 #[.pointer (some ⟨M, 0, none⟩), .int .i64 di, .string sb] w' fun e w2 => e = .returned (.bool (put sh room s di bs).2) ∧ BothC C w w2 (fun k => k = r ∨ (w5.heap.size ≤ k ∧ k < w6.heap.size)) D M sh room q q (put sh room s di bs).1 (put sh room s di bs).1 ∧ Chg (FrmC w (fun k => k = r ∨ (w5.heap.size ≤ k ∧ k < w6.heap.size))) w' w2) := fun w' hw' => by rw [hsb]; exact hw'.ref X (Q := fun e => e = .returned (.bool (put sh room s di bs).2)) fun G hG => RCPut_any hG di bs
          have Hcv : Hid (∀ W, Below w.heap.size w W → (convert 30 9 (.slice Ab nb cb)).run Try.prog W = .ok (.string sb) W) := fun W hW => by rw [hsb]; exact conv_arg (HOk.out.1.below hW)
          obtain ⟨pp, hpp⟩ : ∃ p, p = (put sh room s di bs) := ⟨_, rfl⟩
          rw [← hpp] at HC1 HC2
          clear hpp
          obtain ⟨s4, ok⟩ := pp
          dsimp only at HC1 HC2
          clear HB HB6 hsb
          have hS1 : (fun X => X.cell? ⟨r, 1, none⟩ = some (.int .i64 di) ∧ X.cell? ⟨r, 2, none⟩ = some (.slice Ab nb cb) ∧ (convert 30 9 (.slice Ab nb cb)).run Try.prog X = .ok (.string sb) X) w6.drew := ⟨HXd.out.head (j := 1) rfl, HXd.out.head (j := 2) rfl, Hcv.out _ HBd.out.below⟩
          go_wp2_with fail
          have HWd : Hid (∀ g cs, Here w6 g 0 cs → Here w6.drew g 0 cs) := fun _ _ h => h
          refine wp_region_held_drew (S := (fun X => X.cell? ⟨r, 1, none⟩ = some (.int .i64 di) ∧ X.cell? ⟨r, 2, none⟩ = some (.slice Ab nb cb) ∧ (convert 30 9 (.slice Ab nb cb)).run Try.prog X = .ok (.string sb) X)) (by kernel_rfl) hS1 (fun hHeld => ?_)
          generalize w6.drew = wd at *
          clear hS1
          refine wpAnyH_take (i := 0) (oi := ⟨some 101, _, _, _, _, _⟩) (v := ?_) rfl (by kernel_rfl) (by kernel_rfl) (by kernel_rfl) (fun _ _ _ h => h) (Or.inl ⟨by rfl, ?_⟩) hHeld ?_
          rotate_left
          · intro w hSw
            go_simp
            with_reducible rfl
          try go_frame
          refine wpAnyH_take (i := 1) (oi := ⟨some 102, _, _, _, _, _⟩) (v := ?_) rfl (by kernel_rfl) (by kernel_rfl) (by kernel_rfl) (fun _ _ _ h => h) (Or.inl ⟨by rfl, ?_⟩) hHeld ?_
          rotate_left
          · intro w hSw
            go_simp
            with_reducible rfl
          try go_frame
          refine wpAnyH_take (i := 2) (oi := ⟨some 103, _, _, _, _, _⟩) (v := ?_) rfl (by kernel_rfl) (by kernel_rfl) (by kernel_rfl) (fun _ _ _ h => h) (Or.inl ⟨by rfl, ?_⟩) hHeld ?_
          rotate_left
          · intro w hSw
            have hc := hSw.1
            go_simp
            with_reducible rfl
          try go_frame
          refine wpAnyH_take (i := 3) (oi := ⟨some 104, _, _, _, _, _⟩) (v := ?_) rfl (by kernel_rfl) (by kernel_rfl) (by kernel_rfl) (fun _ _ _ h => h) (Or.inl ⟨by rfl, ?_⟩) hHeld ?_
          rotate_left
          · intro w hSw
            go_simp
            with_reducible rfl
          try go_frame
          refine wpAnyH_take (i := 5) (oi := ⟨some 106, _, _, _, _, _⟩) (v := ?_) rfl (by kernel_rfl) (by kernel_rfl) (by kernel_rfl) (fun _ _ _ h => h) (Or.inl ⟨by rfl, ?_⟩) hHeld ?_
          rotate_left
          · intro w hSw
            go_simp
            with_reducible rfl
          try go_frame
          refine wpAnyH_take (i := 6) (oi := ⟨some 107, _, _, _, _, _⟩) (v := ?_) rfl (by kernel_rfl) (by kernel_rfl) (by kernel_rfl) (fun _ _ _ h => h) (Or.inl ⟨by rfl, ?_⟩) hHeld ?_
          rotate_left
          · intro w hSw
            go_simp
            with_reducible rfl
          try go_frame
          refine wpAnyH_take (i := 7) (oi := ⟨some 108, _, _, _, _, _⟩) (v := ?_) rfl (by kernel_rfl) (by kernel_rfl) (by kernel_rfl) (fun _ _ _ h => h) (Or.inl ⟨by rfl, ?_⟩) hHeld ?_
          rotate_left
          · intro w hSw
            have hc := hSw.1
            go_simp
            with_reducible rfl
          try go_frame
          refine wpAnyH_take (i := 8) (oi := ⟨some 109, _, _, _, _, _⟩) (v := ?_) rfl (by kernel_rfl) (by kernel_rfl) (by kernel_rfl) (fun _ _ _ h => h) (Or.inl ⟨by rfl, ?_⟩) hHeld ?_
          rotate_left
          · intro w hSw
            go_simp
            with_reducible rfl
          try go_frame
          refine wpAnyH_take (i := 9) (oi := ⟨some 110, _, _, _, _, _⟩) (v := ?_) rfl (by kernel_rfl) (by kernel_rfl) (by kernel_rfl) (fun _ _ _ h => h) (Or.inl ⟨by rfl, ?_⟩) hHeld ?_
          rotate_left
          · intro w hSw
            have hc := hSw.2.1
            go_simp
            with_reducible rfl
          try go_frame
          refine wpAnyH_take (i := 10) (oi := ⟨some 111, _, _, _, _, _⟩) (v := ?_) rfl (by kernel_rfl) (by kernel_rfl) (by kernel_rfl) (fun _ _ _ h => h) (Or.inl ⟨by rfl, ?_⟩) hHeld ?_
          rotate_left
          · intro w hSw
            have hc := hSw.2.1
            go_simp
            with_reducible rfl
          try go_frame
          refine wpAnyH_ready (rs := [4]) (by kernel_rfl) (by simp) ?_
          refine AllReadyH.cons (o := ⟨some 105, _, _, _, _, _⟩) rfl (fun K hK => ?_) AllReadyH.nil
          go_simp
          go_at_call 9
          refine HC1.out.mono ?_
          rintro e w7 ⟨rfl, hB7, hC7⟩
          have HX7 : Hid (Here w7 r 0 [.int .i64 dw, .int .i64 di, .slice Ab nb cb]) := HXd.out.chg hC7 fun j _ hs => hs.2 (.inl rfl)
          have HC7 := Lib.hid hC7
          have HC3 := Lib.hid (HC2.out w7 hB7)
          have Hbw7 : Hid (Below w.heap.size w w7) := hB7.below
          clear hB7 hC7
          refine hK.out _ _ ⟨HX7.out.head (j := 1) rfl, HX7.out.head (j := 2) rfl, Hcv.out _ Hbw7.out⟩ (fun hHeld => ?_)
          clear hK K
          try go_frame
          refine wpAnyH_ready (rs := [11]) (by kernel_rfl) (by simp) ?_
          refine AllReadyH.cons (o := ⟨some 112, _, _, _, _, _⟩) rfl (fun K hK => ?_) AllReadyH.nil
          go_simp
          go_at_call 10
          refine HC3.out.mono ?_
          rintro e w8 ⟨rfl, hB8, hC8⟩
          have HX8 : Hid (Here w8 r 0 [.int .i64 dw, .int .i64 di, .slice Ab nb cb]) := HX7.out.chg hC8 fun j _ hs => hs.2 (.inl rfl)
          have HC8 := Lib.hid hC8
          have HB8 : Hid (BothC C w w8 (fun k => k = r ∨ (w5.heap.size ≤ k ∧ k < w6.heap.size)) D M sh room (q + 1) (q + 1) s4 s4) := hB8.mono X (by omega) (by omega)
          clear hB8 hC8
          refine hK.out _ _ ⟨HX8.out.head (j := 1) rfl, HX8.out.head (j := 2) rfl, Hcv.out _ HB8.out.below⟩ (fun hHeld => ?_)
          clear hK K
          try go_frame
          refine wpAnyH_take (i := 12) (oi := ⟨some 113, _, _, _, _, _⟩) (v := ?_) rfl (by kernel_rfl) (by kernel_rfl) (by kernel_rfl) (fun _ _ _ h => h) (Or.inl ⟨by rfl, ?_⟩) hHeld ?_
          rotate_left
          · intro w hSw
            go_simp
            with_reducible rfl
          try go_frame
          refine wpAnyH_take (i := 13) (oi := ⟨some 12, _, _, _, _, _⟩) (v := ?_) rfl (by kernel_rfl) (by kernel_rfl) (by kernel_rfl) (fun _ _ _ h => h) (Or.inl ⟨by rfl, ?_⟩) hHeld ?_
          rotate_left
          · intro w hSw
            go_simp
            with_reducible rfl
          try go_frame
          refine wpAnyH_done (by kernel_rfl) ?_ _
          clear hHeld HC1 HC2 HC3 HX7 HX8 HXd HBd HX HX6 Hcv Hbw7 HArg6
          by_cases hnb0 : 0 < nb
          · obtain ⟨g, c6', hv, hg1, hg2, _, hH6⟩ := own_hereC HOw6.out (by rw [List.length_map, ← Hnb.out]; exact hnb0)
            injection hv with hv1 hv2 hv3
            subst hv1
            have hg3 : g < w6.heap.size := hg2
            have hH7 : Here w7 g 0 (bs.map V8) := (HWd.out g _ hH6).chg HC7.out fun j _ hs => hs.2 (.inr ⟨hg1, hg3⟩)
            have hH8 : Here w8 g 0 (bs.map V8) := hH7.chg HC8.out fun j _ hs => hs.2 (.inr ⟨hg1, hg3⟩)
            have hat : (bs.map V8)[0]? = some (.int .u8 (bs.getD 0 0).toNat) := by
              rw [List.getElem?_map, List.getElem?_eq_getElem (by rw [← Hnb.out]; exact hnb0), List.getD_eq_getElem?_getD, List.getElem?_eq_getElem (by rw [← Hnb.out]; exact hnb0)]; rfl
            have hc0 := hH8.head hat
            have hf0 := hH8.headFree (j := 0) (by rw [List.length_map, ← Hnb.out]; exact hnb0)
            generalize (bs.getD 0 0).toNat = y at *
            have HE : Hid (BothC C w (w8.setCell ⟨g, 0, none⟩ (.int .u8 (((y : Int) + 1) % 256))) (fun k => k = r ∨ (w5.heap.size ≤ k ∧ k < w6.heap.size)) D M sh room (q + 1) (q + 1) s4 s4) := HB8.out.chg X (S := fun k _ => k = g) ((Chg.refl _ w8).setCell rfl (fun _ => rfl) (by rw [hc0]; rfl) _) (fun k o _ hs => ⟨.inr (by rw [hs]; exact ⟨hg1, hg3⟩), by rw [hs]; have := HWr.out; have := Hrl.out; omega⟩)
            clear hH6 hH7 hH8 hat hv2 hv3 HB8 HOw6 HC7 HC8 HWd hg1 hg2 hg3
            skip
            obtain ⟨F9, G9, hCD, hRK, -, -, -, -, -⟩ := HE.out
            have HD1 := Lib.hid (X.has hCD)
            have HD2 : Hid (∀ w', Below (w8.setCell ⟨g, 0, none⟩ (.int .u8 (((y : Int) + 1) % 256))).heap.size (w8.setCell ⟨g, 0, none⟩ (.int .u8 (((y : Int) + 1) % 256))) w' → Calls Try.prog 20 #[.pointer (some ⟨M, 0, none⟩)] w' fun e w2 => ∃ v, e = .returned v ∧ Hid (Own w2 w'.heap.size 3 v ((hasL s4.L).map VC)) ∧ Below w'.heap.size w' w2) := fun w' hw' => RCHas_any (hRK.stay (Chg.below hw' fun _ _ => False) fun _ _ _ x => x)
            have Hhl : Hid ((hasL s4.L).length ≤ 1000000) := by
              obtain ⟨_, _, _, _, hR9⟩ := hRK
              have h8 : sh * room ≤ 8 * 8 := Nat.mul_le_mul h2 h4
              have h9 := hasL_length s4.L
              rw [hR9.len] at h9
              show _ ≤ _
              omega
            obtain ⟨H, hH⟩ : ∃ l, l = hasL s4.L := ⟨_, rfl⟩
            rw [← hH] at HD1 HD2 Hhl
            clear hCD hRK hH
            go_wp2_with fail
            refine HD1.out.mono ?_
            rintro e wA ⟨va, rfl, HOa, hbA⟩
            have HEA := Lib.hid (HE.out.stay X hbA)
            have HD3 := Lib.hid (HD2.out wA hbA)
            clear HE HD1 HD2 hbA
            go_wp2_with fail
            refine HD3.out.mono ?_
            rintro e wB ⟨vb, rfl, HOb, hbB⟩
            have HEB := Lib.hid (HEA.out.stay X hbB)
            have HI := Lib.hid (RCInts_any H H Hhl.out Hhl.out va vb wB (Own.from_ (HOa.out.below hbB (Nat.le_refl _))) (Own.from_ HOb.out))
            rw [decide_eq_true rfl] at HI
            clear HEA HD3 HOa HOb hbB Hhl
            go_wp2_with fail
            refine HI.out.mono ?_
            rintro e wC ⟨rfl, hbC⟩
            have HEC : Hid (BothC C w wC (fun _ => False) D M sh room (q + 1) (q + 1) s4 s4) := HEB.out.also X hbC _ (fun k hk => hk.elim)
            clear HEB HI hbC
            go_wp2
            go_roundw
            case rel => exact ⟨k + 1, (q + 1), s4, by omega, by go_num, by omega, HEC⟩
            case measure => rw [iO10, show intOf (.int .i64 (k : Int)) = (k : Int) from rfl]; omega
          · obtain rfl : nb = 0 := by omega
            have HE := HB8
            clear HOw6 HC7 HC8 HB8 HWd
            obtain ⟨F9, G9, hCD, hRK, -, -, -, -, -⟩ := HE.out
            have HD1 := Lib.hid (X.has hCD)
            have HD2 : Hid (∀ w', Below w8.heap.size w8 w' → Calls Try.prog 20 #[.pointer (some ⟨M, 0, none⟩)] w' fun e w2 => ∃ v, e = .returned v ∧ Hid (Own w2 w'.heap.size 3 v ((hasL s4.L).map VC)) ∧ Below w'.heap.size w' w2) := fun w' hw' => RCHas_any (hRK.stay (Chg.below hw' fun _ _ => False) fun _ _ _ x => x)
            have Hhl : Hid ((hasL s4.L).length ≤ 1000000) := by
              obtain ⟨_, _, _, _, hR9⟩ := hRK
              have h8 : sh * room ≤ 8 * 8 := Nat.mul_le_mul h2 h4
              have h9 := hasL_length s4.L
              rw [hR9.len] at h9
              show _ ≤ _
              omega
            obtain ⟨H, hH⟩ : ∃ l, l = hasL s4.L := ⟨_, rfl⟩
            rw [← hH] at HD1 HD2 Hhl
            clear hCD hRK hH
            go_wp2_with fail
            refine HD1.out.mono ?_
            rintro e wA ⟨va, rfl, HOa, hbA⟩
            have HEA := Lib.hid (HE.out.stay X hbA)
            have HD3 := Lib.hid (HD2.out wA hbA)
            clear HE HD1 HD2 hbA
            go_wp2_with fail
            refine HD3.out.mono ?_
            rintro e wB ⟨vb, rfl, HOb, hbB⟩
            have HEB := Lib.hid (HEA.out.stay X hbB)
            have HI := Lib.hid (RCInts_any H H Hhl.out Hhl.out va vb wB (Own.from_ (HOa.out.below hbB (Nat.le_refl _))) (Own.from_ HOb.out))
            rw [decide_eq_true rfl] at HI
            clear HEA HD3 HOa HOb hbB Hhl
            go_wp2_with fail
            refine HI.out.mono ?_
            rintro e wC ⟨rfl, hbC⟩
            have HEC : Hid (BothC C w wC (fun _ => False) D M sh room (q + 1) (q + 1) s4 s4) := HEB.out.also X hbC _ (fun k hk => hk.elim)
            clear HEB HI hbC
            go_wp2
            go_roundw
            case rel => exact ⟨k + 1, (q + 1), s4, by omega, by go_num, by omega, HEC⟩
            case measure => rw [iO10, show intOf (.int .i64 (k : Int)) = (k : Int) from rfl]; omega
      · as_aux_lemma =>
          have HPk : Hid (Calls Try.prog 8 #[.int .i64 dw, .int .i64 6] w5 fun e w' => e = .returned (.int .i64 1) ∧ w' = w5) := by have := Cpick_any dw hlo hhi w5; rw [hp] at this; exact this
          clear hp hp6 hlo hhi
          go_wp2_with (refine wpList_load_mid rfl 32 (.tmp 85) rfl b0 (o0 + k * 3) rfl [.int .i64 dw, .int .i64 di, .slice Ab nb cb] _ HRg.out Try.underlying32 rfl infoCd ?_)
          rw [← HW5.out, ← Hr.out]
          clear HW5 Hr HRg
          refine HPk.out.mono ?_
          rintro e w5 ⟨rfl, rfl⟩
          clear HPk
          have HG := Lib.hid (HB.out.get X (by omega) di HOk.out.2)
          have HG2 : Hid (∀ (w' : World) (Y' : Nat → Prop), BothC C w w' Y' D M sh room (q + 1) q (getC s di).1 s → Calls Try.prog 12 #[.pointer (some ⟨M, 0, none⟩), .int .i64 di] w' fun e w2 => e = .returned (.tuple #[VSt (getC s di).2.1, .bool (getC s di).2.2]) ∧ BothC C w w2 Y' D M sh room (q + 1) (q + 1) (getC s di).1 (getC s di).1 ∧ Chg (FrmC w Y') w' w2) := fun w' Y' hw' => hw'.ref X (Q := fun e => e = .returned (.tuple #[VSt (getC s di).2.1, .bool (getC s di).2.2])) fun G hG => RCGet_any hG (by omega) di
          obtain ⟨gg, hgg⟩ : ∃ g, g = getC s di := ⟨_, rfl⟩
          rw [← hgg] at HG HG2
          clear hgg
          obtain ⟨s4, bb, was⟩ := gg
          dsimp only at HG HG2
          have g1 := HX.out.head (j := 1) rfl
          have Hwr5 : Hid (w.heap.size ≤ w5.heap.size) := HB.out.below.size
          clear HB
          go_wp2_with fail
          refine HG.out.mono ?_
          rintro e w6 ⟨v, rfl, hO, hB6, hC6⟩
          have hx6 : Here w6 r 0 [.int .i64 dw, .int .i64 di, .slice Ab nb cb] := HX.out.chg hC6 fun j _ hs => hs.2 rfl
          have g6 := hx6.head (j := 1) rfl
          have HC3 := Lib.hid (HG2.out w6 _ hB6)
          have HO6 := Lib.hid hO
          clear hB6 hC6 hO hx6 g1 HG HG2 HX
          go_wp2_with fail
          refine HC3.out.mono ?_
          rintro e w7 ⟨rfl, hB7, hC7⟩
          have HB7 := Lib.hid hB7
          have HC7 := Lib.hid hC7
          have hA7 : Arg w7 v bb := own_argC HO6.out hC7 fun k _ e hs => hs.2 (.inr e)
          have hcv := conv_arg hA7
          clear hB7 hC7 hA7 HC3 g6
          obtain ⟨nv, hnv⟩ : ∃ n, n = bb.length := ⟨_, rfl⟩
          have Hnv := Lib.hid hnv
          obtain ⟨sb, hsb⟩ : ∃ x, x = strB bb := ⟨_, rfl⟩
          rw [← hsb] at hcv
          rw [VSt, ← hsb]
          clear hnv hsb
          by_cases hn0 : 0 < nv
          · obtain ⟨g, cg, hv, hg1, hg2, hob, hH6⟩ := own_hereC HO6.out (by rw [List.length_map, ← Hnv.out]; exact hn0)
            have hH7 : Here w7 g 0 (bb.map V8) := hH6.chg HC7.out fun j _ hs => hs.2 (.inr hob)
            have hat : (bb.map V8)[0]? = some (.int .u8 (bb.getD 0 0).toNat) := by
              rw [List.getElem?_map, List.getElem?_eq_getElem (by rw [← Hnv.out]; exact hn0), List.getD_eq_getElem?_getD, List.getElem?_eq_getElem (by rw [← Hnv.out]; exact hn0)]; rfl
            have hc0 := hH7.head hat
            have hf0 := hH7.headFree (j := 0) (by rw [List.length_map, ← Hnv.out]; exact hn0)
            generalize (bb.getD 0 0).toNat = y at *
            have HE : Hid (BothC C w (w7.setCell ⟨g, 0, none⟩ (.int .u8 (((y : Int) + 1) % 256))) (fun k => k = r ∨ v.ownBlock = some k) D M sh room (q + 1) (q + 1) s4 s4) := (HB7.out.chg X (S := fun k _ => k = g) ((Chg.refl _ w7).setCell rfl (fun _ => rfl) (by rw [hc0]; rfl) _) (fun k o _ hs => ⟨.inr (by rw [hs]; exact hob), by rw [hs]; have := Hwr5.out; omega⟩)).mono X (Nat.le_refl _) (Nat.le_refl _)
            rw [List.length_map, ← Hnv.out] at hv
            have hv' := hv
            subst hv
            clear hH6 hH7 hat hob hv' HB7 HC7 HO6 hg1 hg2
            obtain ⟨F9, G9, hCD, hRK, -, -, -, -, -⟩ := HE.out
            have HD1 := Lib.hid (X.has hCD)
            have HD2 : Hid (∀ w', Below (w7.setCell ⟨g, 0, none⟩ (.int .u8 (((y : Int) + 1) % 256))).heap.size (w7.setCell ⟨g, 0, none⟩ (.int .u8 (((y : Int) + 1) % 256))) w' → Calls Try.prog 20 #[.pointer (some ⟨M, 0, none⟩)] w' fun e w2 => ∃ v, e = .returned v ∧ Hid (Own w2 w'.heap.size 3 v ((hasL s4.L).map VC)) ∧ Below w'.heap.size w' w2) := fun w' hw' => RCHas_any (hRK.stay (Chg.below hw' fun _ _ => False) fun _ _ _ x => x)
            have Hhl : Hid ((hasL s4.L).length ≤ 1000000) := by
              obtain ⟨_, _, _, _, hR9⟩ := hRK
              have h8 : sh * room ≤ 8 * 8 := Nat.mul_le_mul h2 h4
              have h9 := hasL_length s4.L
              rw [hR9.len] at h9
              show _ ≤ _
              omega
            obtain ⟨H, hH⟩ : ∃ l, l = hasL s4.L := ⟨_, rfl⟩
            rw [← hH] at HD1 HD2 Hhl
            clear hCD hRK hH
            go_wp2_with fail
            refine HD1.out.mono ?_
            rintro e wA ⟨va, rfl, HOa, hbA⟩
            have HEA := Lib.hid (HE.out.stay X hbA)
            have HD3 := Lib.hid (HD2.out wA hbA)
            clear HE HD1 HD2 hbA
            go_wp2_with fail
            refine HD3.out.mono ?_
            rintro e wB ⟨vb, rfl, HOb, hbB⟩
            have HEB := Lib.hid (HEA.out.stay X hbB)
            have HI := Lib.hid (RCInts_any H H Hhl.out Hhl.out va vb wB (Own.from_ (HOa.out.below hbB (Nat.le_refl _))) (Own.from_ HOb.out))
            rw [decide_eq_true rfl] at HI
            clear HEA HD3 HOa HOb hbB Hhl
            go_wp2_with fail
            refine HI.out.mono ?_
            rintro e wC ⟨rfl, hbC⟩
            have HEC : Hid (BothC C w wC (fun _ => False) D M sh room (q + 1) (q + 1) s4 s4) := HEB.out.also X hbC _ (fun k hk => hk.elim)
            clear HEB HI hbC
            go_wp2
            go_roundw
            case rel => exact ⟨k + 1, (q + 1), s4, by omega, by go_num, by omega, HEC⟩
            case measure => rw [iO10, show intOf (.int .i64 (k : Int)) = (k : Int) from rfl]; omega
          · obtain rfl : nv = 0 := by omega
            obtain ⟨Av, cv, hv⟩ := own_lenC HO6.out
            rw [List.length_map, ← Hnv.out] at hv
            have HE : Hid (BothC C w w7 (fun k => k = r ∨ v.ownBlock = some k) D M sh room (q + 1) (q + 1) s4 s4) := HB7
            subst hv
            clear HB7 HC7 HO6
            obtain ⟨F9, G9, hCD, hRK, -, -, -, -, -⟩ := HE.out
            have HD1 := Lib.hid (X.has hCD)
            have HD2 : Hid (∀ w', Below w7.heap.size w7 w' → Calls Try.prog 20 #[.pointer (some ⟨M, 0, none⟩)] w' fun e w2 => ∃ v, e = .returned v ∧ Hid (Own w2 w'.heap.size 3 v ((hasL s4.L).map VC)) ∧ Below w'.heap.size w' w2) := fun w' hw' => RCHas_any (hRK.stay (Chg.below hw' fun _ _ => False) fun _ _ _ x => x)
            have Hhl : Hid ((hasL s4.L).length ≤ 1000000) := by
              obtain ⟨_, _, _, _, hR9⟩ := hRK
              have h8 : sh * room ≤ 8 * 8 := Nat.mul_le_mul h2 h4
              have h9 := hasL_length s4.L
              rw [hR9.len] at h9
              show _ ≤ _
              omega
            obtain ⟨H, hH⟩ : ∃ l, l = hasL s4.L := ⟨_, rfl⟩
            rw [← hH] at HD1 HD2 Hhl
            clear hCD hRK hH
            go_wp2_with fail
            refine HD1.out.mono ?_
            rintro e wA ⟨va, rfl, HOa, hbA⟩
            have HEA := Lib.hid (HE.out.stay X hbA)
            have HD3 := Lib.hid (HD2.out wA hbA)
            clear HE HD1 HD2 hbA
            go_wp2_with fail
            refine HD3.out.mono ?_
            rintro e wB ⟨vb, rfl, HOb, hbB⟩
            have HEB := Lib.hid (HEA.out.stay X hbB)
            have HI := Lib.hid (RCInts_any H H Hhl.out Hhl.out va vb wB (Own.from_ (HOa.out.below hbB (Nat.le_refl _))) (Own.from_ HOb.out))
            rw [decide_eq_true rfl] at HI
            clear HEA HD3 HOa HOb hbB Hhl
            go_wp2_with fail
            refine HI.out.mono ?_
            rintro e wC ⟨rfl, hbC⟩
            have HEC : Hid (BothC C w wC (fun _ => False) D M sh room (q + 1) (q + 1) s4 s4) := HEB.out.also X hbC _ (fun k hk => hk.elim)
            clear HEB HI hbC
            go_wp2
            go_roundw
            case rel => exact ⟨k + 1, (q + 1), s4, by omega, by go_num, by omega, HEC⟩
            case measure => rw [iO10, show intOf (.int .i64 (k : Int)) = (k : Int) from rfl]; omega
      · as_aux_lemma =>
          have HPk : Hid (Calls Try.prog 8 #[.int .i64 dw, .int .i64 6] w5 fun e w' => e = .returned (.int .i64 2) ∧ w' = w5) := by have := Cpick_any dw hlo hhi w5; rw [hp] at this; exact this
          clear hp hp6 hlo hhi
          go_wp2_with (refine wpList_load_mid rfl 32 (.tmp 85) rfl b0 (o0 + k * 3) rfl [.int .i64 dw, .int .i64 di, .slice Ab nb cb] _ HRg.out Try.underlying32 rfl infoCd ?_)
          rw [← HW5.out, ← Hr.out]
          clear HW5 Hr HRg
          refine HPk.out.mono ?_
          rintro e w5 ⟨rfl, rfl⟩
          clear HPk
          have HBd := Lib.hid (HB.out.stay X (below_drewN (Below.refl _ w5) 1))
          have HXd : Hid (Here w5.drew r 0 [.int .i64 dw, .int .i64 di, .slice Ab nb cb]) := HX.out
          have HC1 : Hid (Calls Try.prog 13 #[.pointer (some ⟨D, 0, none⟩), .int .i64 di] w5.drew fun e w' => e = .returned (.bool (pin s di).2) ∧ BothC C w w' (fun k => k = r) D M sh room (q + 1) q (pin s di).1 s ∧ Chg (FrmC w (fun k => k = r)) w5.drew w') := HBd.out.cache (Q := fun e => e = .returned (.bool (pin s di).2)) fun F hF => X.pin hF (by omega) di HOk.out.2
          have HC2 : Hid (∀ w', BothC C w w' (fun k => k = r) D M sh room (q + 1) q (pin s di).1 s → Calls Try.prog 14 #[.pointer (some ⟨M, 0, none⟩), .int .i64 di, .int .i64 1] w' fun e w2 => e = .returned (.bool (pin s di).2) ∧ BothC C w w2 (fun k => k = r) D M sh room (q + 1) (q + 1) (pin s di).1 (pin s di).1 ∧ Chg (FrmC w (fun k => k = r)) w' w2) := fun w' hw' => hw'.ref X (Q := fun e => e = .returned (.bool (pin s di).2)) fun G hG => RCPin_one hG (by omega) di
          obtain ⟨pp, hpp⟩ : ∃ p, p = (pin s di) := ⟨_, rfl⟩
          rw [← hpp] at HC1 HC2
          clear hpp
          obtain ⟨s4, ok⟩ := pp
          dsimp only at HC1 HC2
          clear HB
          go_wp2_with fail
          refine wp_region_held_drew (S := (fun X => X.cell? ⟨r, 1, none⟩ = some (.int .i64 di))) (by kernel_rfl) (HXd.out.head (j := 1) rfl) (fun hHeld => ?_)
          generalize w5.drew = wd at *
          refine wpAnyH_take (i := 0) (oi := ⟨some 159, _, _, _, _, _⟩) (v := ?_) rfl (by kernel_rfl) (by kernel_rfl) (by kernel_rfl) (fun _ _ _ h => h) (Or.inl ⟨by rfl, ?_⟩) hHeld ?_
          rotate_left
          · intro w hSw
            go_simp
            with_reducible rfl
          try go_frame
          refine wpAnyH_take (i := 1) (oi := ⟨some 160, _, _, _, _, _⟩) (v := ?_) rfl (by kernel_rfl) (by kernel_rfl) (by kernel_rfl) (fun _ _ _ h => h) (Or.inl ⟨by rfl, ?_⟩) hHeld ?_
          rotate_left
          · intro w hSw
            go_simp
            with_reducible rfl
          try go_frame
          refine wpAnyH_take (i := 2) (oi := ⟨some 161, _, _, _, _, _⟩) (v := ?_) rfl (by kernel_rfl) (by kernel_rfl) (by kernel_rfl) (fun _ _ _ h => h) (Or.inl ⟨by rfl, ?_⟩) hHeld ?_
          rotate_left
          · intro w hSw
            have hc := hSw
            go_simp
            with_reducible rfl
          try go_frame
          refine wpAnyH_take (i := 4) (oi := ⟨some 163, _, _, _, _, _⟩) (v := ?_) rfl (by kernel_rfl) (by kernel_rfl) (by kernel_rfl) (fun _ _ _ h => h) (Or.inl ⟨by rfl, ?_⟩) hHeld ?_
          rotate_left
          · intro w hSw
            go_simp
            with_reducible rfl
          try go_frame
          refine wpAnyH_take (i := 5) (oi := ⟨some 164, _, _, _, _, _⟩) (v := ?_) rfl (by kernel_rfl) (by kernel_rfl) (by kernel_rfl) (fun _ _ _ h => h) (Or.inl ⟨by rfl, ?_⟩) hHeld ?_
          rotate_left
          · intro w hSw
            go_simp
            with_reducible rfl
          try go_frame
          refine wpAnyH_take (i := 6) (oi := ⟨some 165, _, _, _, _, _⟩) (v := ?_) rfl (by kernel_rfl) (by kernel_rfl) (by kernel_rfl) (fun _ _ _ h => h) (Or.inl ⟨by rfl, ?_⟩) hHeld ?_
          rotate_left
          · intro w hSw
            have hc := hSw
            go_simp
            with_reducible rfl
          try go_frame
          refine wpAnyH_ready (rs := [3]) (by kernel_rfl) (by simp) ?_
          refine AllReadyH.cons (o := ⟨some 162, _, _, _, _, _⟩) rfl (fun K hK => ?_) AllReadyH.nil
          go_simp
          go_at_call 13
          refine HC1.out.mono ?_
          rintro e w6 ⟨rfl, hB6, hC6⟩
          have HX6 : Hid (Here w6 r 0 [.int .i64 dw, .int .i64 di, .slice Ab nb cb]) := HXd.out.chg hC6 fun j _ hs => hs.2 rfl
          have HC3 := Lib.hid (HC2.out w6 hB6)
          clear hB6 hC6
          refine hK.out _ _ (HX6.out.head (j := 1) rfl) (fun hHeld => ?_)
          clear hK K
          try go_frame
          refine wpAnyH_ready (rs := [7]) (by kernel_rfl) (by simp) ?_
          refine AllReadyH.cons (o := ⟨some 166, _, _, _, _, _⟩) rfl (fun K hK => ?_) AllReadyH.nil
          go_simp
          go_at_call 14
          refine HC3.out.mono ?_
          rintro e w7 ⟨rfl, hB7, hC7⟩
          have HX7 : Hid (Here w7 r 0 [.int .i64 dw, .int .i64 di, .slice Ab nb cb]) := HX6.out.chg hC7 fun j _ hs => hs.2 rfl
          have HE : Hid (BothC C w w7 (fun k => k = r) D M sh room (q + 1) (q + 1) s4 s4) := hB7.mono X (by omega) (by omega)
          clear hB7 hC7
          refine hK.out _ _ (HX7.out.head (j := 1) rfl) (fun hHeld => ?_)
          clear hK K
          try go_frame
          refine wpAnyH_take (i := 8) (oi := ⟨some 167, _, _, _, _, _⟩) (v := ?_) rfl (by kernel_rfl) (by kernel_rfl) (by kernel_rfl) (fun _ _ _ h => h) (Or.inl ⟨by rfl, ?_⟩) hHeld ?_
          rotate_left
          · intro w hSw
            go_simp
            with_reducible rfl
          try go_frame
          refine wpAnyH_take (i := 9) (oi := ⟨some 12, _, _, _, _, _⟩) (v := ?_) rfl (by kernel_rfl) (by kernel_rfl) (by kernel_rfl) (fun _ _ _ h => h) (Or.inl ⟨by rfl, ?_⟩) hHeld ?_
          rotate_left
          · intro w hSw
            go_simp
            with_reducible rfl
          try go_frame
          refine wpAnyH_done (by kernel_rfl) ?_ _
          clear hHeld HC1 HC2 HC3 HX6 HX7 HXd HBd HX
          obtain ⟨F9, G9, hCD, hRK, -, -, -, -, -⟩ := HE.out
          have HD1 := Lib.hid (X.has hCD)
          have HD2 : Hid (∀ w', Below w7.heap.size w7 w' → Calls Try.prog 20 #[.pointer (some ⟨M, 0, none⟩)] w' fun e w2 => ∃ v, e = .returned v ∧ Hid (Own w2 w'.heap.size 3 v ((hasL s4.L).map VC)) ∧ Below w'.heap.size w' w2) := fun w' hw' => RCHas_any (hRK.stay (Chg.below hw' fun _ _ => False) fun _ _ _ x => x)
          have Hhl : Hid ((hasL s4.L).length ≤ 1000000) := by
            obtain ⟨_, _, _, _, hR9⟩ := hRK
            have h8 : sh * room ≤ 8 * 8 := Nat.mul_le_mul h2 h4
            have h9 := hasL_length s4.L
            rw [hR9.len] at h9
            show _ ≤ _
            omega
          obtain ⟨H, hH⟩ : ∃ l, l = hasL s4.L := ⟨_, rfl⟩
          rw [← hH] at HD1 HD2 Hhl
          clear hCD hRK hH
          go_wp2_with fail
          refine HD1.out.mono ?_
          rintro e wA ⟨va, rfl, HOa, hbA⟩
          have HEA := Lib.hid (HE.out.stay X hbA)
          have HD3 := Lib.hid (HD2.out wA hbA)
          clear HE HD1 HD2 hbA
          go_wp2_with fail
          refine HD3.out.mono ?_
          rintro e wB ⟨vb, rfl, HOb, hbB⟩
          have HEB := Lib.hid (HEA.out.stay X hbB)
          have HI := Lib.hid (RCInts_any H H Hhl.out Hhl.out va vb wB (Own.from_ (HOa.out.below hbB (Nat.le_refl _))) (Own.from_ HOb.out))
          rw [decide_eq_true rfl] at HI
          clear HEA HD3 HOa HOb hbB Hhl
          go_wp2_with fail
          refine HI.out.mono ?_
          rintro e wC ⟨rfl, hbC⟩
          have HEC : Hid (BothC C w wC (fun _ => False) D M sh room (q + 1) (q + 1) s4 s4) := HEB.out.also X hbC _ (fun k hk => hk.elim)
          clear HEB HI hbC
          go_wp2
          go_roundw
          case rel => exact ⟨k + 1, (q + 1), s4, by omega, by go_num, by omega, HEC⟩
          case measure => rw [iO10, show intOf (.int .i64 (k : Int)) = (k : Int) from rfl]; omega
      · as_aux_lemma =>
          have HPk : Hid (Calls Try.prog 8 #[.int .i64 dw, .int .i64 6] w5 fun e w' => e = .returned (.int .i64 3) ∧ w' = w5) := by have := Cpick_any dw hlo hhi w5; rw [hp] at this; exact this
          clear hp hp6 hlo hhi
          go_wp2_with (refine wpList_load_mid rfl 32 (.tmp 85) rfl b0 (o0 + k * 3) rfl [.int .i64 dw, .int .i64 di, .slice Ab nb cb] _ HRg.out Try.underlying32 rfl infoCd ?_)
          rw [← HW5.out, ← Hr.out]
          clear HW5 Hr HRg
          refine HPk.out.mono ?_
          rintro e w5 ⟨rfl, rfl⟩
          clear HPk
          have HBd := Lib.hid (HB.out.stay X (below_drewN (Below.refl _ w5) 1))
          have HXd : Hid (Here w5.drew r 0 [.int .i64 dw, .int .i64 di, .slice Ab nb cb]) := HX.out
          have HC1 : Hid (Calls Try.prog 15 #[.pointer (some ⟨D, 0, none⟩), .int .i64 di] w5.drew fun e w' => e = .returned (.bool (unpin s di).2) ∧ BothC C w w' (fun k => k = r) D M sh room q q (unpin s di).1 s ∧ Chg (FrmC w (fun k => k = r)) w5.drew w') := HBd.out.cache (Q := fun e => e = .returned (.bool (unpin s di).2)) fun F hF => X.unpin hF (by omega) di HOk.out.2
          have HC2 : Hid (∀ w', BothC C w w' (fun k => k = r) D M sh room q q (unpin s di).1 s → Calls Try.prog 14 #[.pointer (some ⟨M, 0, none⟩), .int .i64 di, .int .i64 (-1)] w' fun e w2 => e = .returned (.bool (unpin s di).2) ∧ BothC C w w2 (fun k => k = r) D M sh room q (q + 1) (unpin s di).1 (unpin s di).1 ∧ Chg (FrmC w (fun k => k = r)) w' w2) := fun w' hw' => hw'.ref X (Q := fun e => e = .returned (.bool (unpin s di).2)) fun G hG => RCPin_sub hG (by omega) di
          obtain ⟨pp, hpp⟩ : ∃ p, p = (unpin s di) := ⟨_, rfl⟩
          rw [← hpp] at HC1 HC2
          clear hpp
          obtain ⟨s4, ok⟩ := pp
          dsimp only at HC1 HC2
          clear HB
          go_wp2_with fail
          refine wp_region_held_drew (S := (fun X => X.cell? ⟨r, 1, none⟩ = some (.int .i64 di))) (by kernel_rfl) (HXd.out.head (j := 1) rfl) (fun hHeld => ?_)
          generalize w5.drew = wd at *
          refine wpAnyH_take (i := 0) (oi := ⟨some 170, _, _, _, _, _⟩) (v := ?_) rfl (by kernel_rfl) (by kernel_rfl) (by kernel_rfl) (fun _ _ _ h => h) (Or.inl ⟨by rfl, ?_⟩) hHeld ?_
          rotate_left
          · intro w hSw
            go_simp
            with_reducible rfl
          try go_frame
          refine wpAnyH_take (i := 1) (oi := ⟨some 171, _, _, _, _, _⟩) (v := ?_) rfl (by kernel_rfl) (by kernel_rfl) (by kernel_rfl) (fun _ _ _ h => h) (Or.inl ⟨by rfl, ?_⟩) hHeld ?_
          rotate_left
          · intro w hSw
            go_simp
            with_reducible rfl
          try go_frame
          refine wpAnyH_take (i := 2) (oi := ⟨some 172, _, _, _, _, _⟩) (v := ?_) rfl (by kernel_rfl) (by kernel_rfl) (by kernel_rfl) (fun _ _ _ h => h) (Or.inl ⟨by rfl, ?_⟩) hHeld ?_
          rotate_left
          · intro w hSw
            have hc := hSw
            go_simp
            with_reducible rfl
          try go_frame
          refine wpAnyH_take (i := 4) (oi := ⟨some 174, _, _, _, _, _⟩) (v := ?_) rfl (by kernel_rfl) (by kernel_rfl) (by kernel_rfl) (fun _ _ _ h => h) (Or.inl ⟨by rfl, ?_⟩) hHeld ?_
          rotate_left
          · intro w hSw
            go_simp
            with_reducible rfl
          try go_frame
          refine wpAnyH_take (i := 5) (oi := ⟨some 175, _, _, _, _, _⟩) (v := ?_) rfl (by kernel_rfl) (by kernel_rfl) (by kernel_rfl) (fun _ _ _ h => h) (Or.inl ⟨by rfl, ?_⟩) hHeld ?_
          rotate_left
          · intro w hSw
            go_simp
            with_reducible rfl
          try go_frame
          refine wpAnyH_take (i := 6) (oi := ⟨some 176, _, _, _, _, _⟩) (v := ?_) rfl (by kernel_rfl) (by kernel_rfl) (by kernel_rfl) (fun _ _ _ h => h) (Or.inl ⟨by rfl, ?_⟩) hHeld ?_
          rotate_left
          · intro w hSw
            have hc := hSw
            go_simp
            with_reducible rfl
          try go_frame
          refine wpAnyH_ready (rs := [3]) (by kernel_rfl) (by simp) ?_
          refine AllReadyH.cons (o := ⟨some 173, _, _, _, _, _⟩) rfl (fun K hK => ?_) AllReadyH.nil
          go_simp
          go_at_call 15
          refine HC1.out.mono ?_
          rintro e w6 ⟨rfl, hB6, hC6⟩
          have HX6 : Hid (Here w6 r 0 [.int .i64 dw, .int .i64 di, .slice Ab nb cb]) := HXd.out.chg hC6 fun j _ hs => hs.2 rfl
          have HC3 := Lib.hid (HC2.out w6 hB6)
          clear hB6 hC6
          refine hK.out _ _ (HX6.out.head (j := 1) rfl) (fun hHeld => ?_)
          clear hK K
          try go_frame
          refine wpAnyH_ready (rs := [7]) (by kernel_rfl) (by simp) ?_
          refine AllReadyH.cons (o := ⟨some 177, _, _, _, _, _⟩) rfl (fun K hK => ?_) AllReadyH.nil
          go_simp
          go_at_call 14
          refine HC3.out.mono ?_
          rintro e w7 ⟨rfl, hB7, hC7⟩
          have HX7 : Hid (Here w7 r 0 [.int .i64 dw, .int .i64 di, .slice Ab nb cb]) := HX6.out.chg hC7 fun j _ hs => hs.2 rfl
          have HE : Hid (BothC C w w7 (fun k => k = r) D M sh room (q + 1) (q + 1) s4 s4) := hB7.mono X (by omega) (by omega)
          clear hB7 hC7
          refine hK.out _ _ (HX7.out.head (j := 1) rfl) (fun hHeld => ?_)
          clear hK K
          try go_frame
          refine wpAnyH_take (i := 8) (oi := ⟨some 178, _, _, _, _, _⟩) (v := ?_) rfl (by kernel_rfl) (by kernel_rfl) (by kernel_rfl) (fun _ _ _ h => h) (Or.inl ⟨by rfl, ?_⟩) hHeld ?_
          rotate_left
          · intro w hSw
            go_simp
            with_reducible rfl
          try go_frame
          refine wpAnyH_take (i := 9) (oi := ⟨some 12, _, _, _, _, _⟩) (v := ?_) rfl (by kernel_rfl) (by kernel_rfl) (by kernel_rfl) (fun _ _ _ h => h) (Or.inl ⟨by rfl, ?_⟩) hHeld ?_
          rotate_left
          · intro w hSw
            go_simp
            with_reducible rfl
          try go_frame
          refine wpAnyH_done (by kernel_rfl) ?_ _
          clear hHeld HC1 HC2 HC3 HX6 HX7 HXd HBd HX
          obtain ⟨F9, G9, hCD, hRK, -, -, -, -, -⟩ := HE.out
          have HD1 := Lib.hid (X.has hCD)
          have HD2 : Hid (∀ w', Below w7.heap.size w7 w' → Calls Try.prog 20 #[.pointer (some ⟨M, 0, none⟩)] w' fun e w2 => ∃ v, e = .returned v ∧ Hid (Own w2 w'.heap.size 3 v ((hasL s4.L).map VC)) ∧ Below w'.heap.size w' w2) := fun w' hw' => RCHas_any (hRK.stay (Chg.below hw' fun _ _ => False) fun _ _ _ x => x)
          have Hhl : Hid ((hasL s4.L).length ≤ 1000000) := by
            obtain ⟨_, _, _, _, hR9⟩ := hRK
            have h8 : sh * room ≤ 8 * 8 := Nat.mul_le_mul h2 h4
            have h9 := hasL_length s4.L
            rw [hR9.len] at h9
            show _ ≤ _
            omega
          obtain ⟨H, hH⟩ : ∃ l, l = hasL s4.L := ⟨_, rfl⟩
          rw [← hH] at HD1 HD2 Hhl
          clear hCD hRK hH
          go_wp2_with fail
          refine HD1.out.mono ?_
          rintro e wA ⟨va, rfl, HOa, hbA⟩
          have HEA := Lib.hid (HE.out.stay X hbA)
          have HD3 := Lib.hid (HD2.out wA hbA)
          clear HE HD1 HD2 hbA
          go_wp2_with fail
          refine HD3.out.mono ?_
          rintro e wB ⟨vb, rfl, HOb, hbB⟩
          have HEB := Lib.hid (HEA.out.stay X hbB)
          have HI := Lib.hid (RCInts_any H H Hhl.out Hhl.out va vb wB (Own.from_ (HOa.out.below hbB (Nat.le_refl _))) (Own.from_ HOb.out))
          rw [decide_eq_true rfl] at HI
          clear HEA HD3 HOa HOb hbB Hhl
          go_wp2_with fail
          refine HI.out.mono ?_
          rintro e wC ⟨rfl, hbC⟩
          have HEC : Hid (BothC C w wC (fun _ => False) D M sh room (q + 1) (q + 1) s4 s4) := HEB.out.also X hbC _ (fun k hk => hk.elim)
          clear HEB HI hbC
          go_wp2
          go_roundw
          case rel => exact ⟨k + 1, (q + 1), s4, by omega, by go_num, by omega, HEC⟩
          case measure => rw [iO10, show intOf (.int .i64 (k : Int)) = (k : Int) from rfl]; omega
      · as_aux_lemma =>
          have HPk : Hid (Calls Try.prog 8 #[.int .i64 dw, .int .i64 6] w5 fun e w' => e = .returned (.int .i64 4) ∧ w' = w5) := by have := Cpick_any dw hlo hhi w5; rw [hp] at this; exact this
          clear hp hp6 hlo hhi
          go_wp2_with (refine wpList_load_mid rfl 32 (.tmp 85) rfl b0 (o0 + k * 3) rfl [.int .i64 dw, .int .i64 di, .slice Ab nb cb] _ HRg.out Try.underlying32 rfl infoCd ?_)
          rw [← HW5.out, ← Hr.out]
          clear HW5 Hr HRg
          refine HPk.out.mono ?_
          rintro e w5 ⟨rfl, rfl⟩
          clear HPk
          have HBd := Lib.hid (HB.out.stay X (below_drewN (Below.refl _ w5) 1))
          have HXd : Hid (Here w5.drew r 0 [.int .i64 dw, .int .i64 di, .slice Ab nb cb]) := HX.out
          have HC1 : Hid (Calls Try.prog 16 #[.pointer (some ⟨D, 0, none⟩), .int .i64 di] w5.drew fun e w' => e = .returned (.bool (drop s di).2) ∧ BothC C w w' (fun k => k = r) D M sh room q q (drop s di).1 s ∧ Chg (FrmC w (fun k => k = r)) w5.drew w') := HBd.out.cache (Q := fun e => e = .returned (.bool (drop s di).2)) fun F hF => X.drop hF (by omega) di HOk.out.2
          have HC2 : Hid (∀ w', BothC C w w' (fun k => k = r) D M sh room q q (drop s di).1 s → Calls Try.prog 17 #[.pointer (some ⟨M, 0, none⟩), .int .i64 di] w' fun e w2 => e = .returned (.bool (drop s di).2) ∧ BothC C w w2 (fun k => k = r) D M sh room q q (drop s di).1 (drop s di).1 ∧ Chg (FrmC w (fun k => k = r)) w' w2) := fun w' hw' => hw'.ref X (Q := fun e => e = .returned (.bool (drop s di).2)) fun G hG => RCDrop_any hG di
          obtain ⟨pp, hpp⟩ : ∃ p, p = (drop s di) := ⟨_, rfl⟩
          rw [← hpp] at HC1 HC2
          clear hpp
          obtain ⟨s4, ok⟩ := pp
          dsimp only at HC1 HC2
          clear HB
          go_wp2_with fail
          refine wp_region_held_drew (S := (fun X => X.cell? ⟨r, 1, none⟩ = some (.int .i64 di))) (by kernel_rfl) (HXd.out.head (j := 1) rfl) (fun hHeld => ?_)
          generalize w5.drew = wd at *
          refine wpAnyH_take (i := 0) (oi := ⟨some 181, _, _, _, _, _⟩) (v := ?_) rfl (by kernel_rfl) (by kernel_rfl) (by kernel_rfl) (fun _ _ _ h => h) (Or.inl ⟨by rfl, ?_⟩) hHeld ?_
          rotate_left
          · intro w hSw
            go_simp
            with_reducible rfl
          try go_frame
          refine wpAnyH_take (i := 1) (oi := ⟨some 182, _, _, _, _, _⟩) (v := ?_) rfl (by kernel_rfl) (by kernel_rfl) (by kernel_rfl) (fun _ _ _ h => h) (Or.inl ⟨by rfl, ?_⟩) hHeld ?_
          rotate_left
          · intro w hSw
            go_simp
            with_reducible rfl
          try go_frame
          refine wpAnyH_take (i := 2) (oi := ⟨some 183, _, _, _, _, _⟩) (v := ?_) rfl (by kernel_rfl) (by kernel_rfl) (by kernel_rfl) (fun _ _ _ h => h) (Or.inl ⟨by rfl, ?_⟩) hHeld ?_
          rotate_left
          · intro w hSw
            have hc := hSw
            go_simp
            with_reducible rfl
          try go_frame
          refine wpAnyH_take (i := 4) (oi := ⟨some 185, _, _, _, _, _⟩) (v := ?_) rfl (by kernel_rfl) (by kernel_rfl) (by kernel_rfl) (fun _ _ _ h => h) (Or.inl ⟨by rfl, ?_⟩) hHeld ?_
          rotate_left
          · intro w hSw
            go_simp
            with_reducible rfl
          try go_frame
          refine wpAnyH_take (i := 5) (oi := ⟨some 186, _, _, _, _, _⟩) (v := ?_) rfl (by kernel_rfl) (by kernel_rfl) (by kernel_rfl) (fun _ _ _ h => h) (Or.inl ⟨by rfl, ?_⟩) hHeld ?_
          rotate_left
          · intro w hSw
            go_simp
            with_reducible rfl
          try go_frame
          refine wpAnyH_take (i := 6) (oi := ⟨some 187, _, _, _, _, _⟩) (v := ?_) rfl (by kernel_rfl) (by kernel_rfl) (by kernel_rfl) (fun _ _ _ h => h) (Or.inl ⟨by rfl, ?_⟩) hHeld ?_
          rotate_left
          · intro w hSw
            have hc := hSw
            go_simp
            with_reducible rfl
          try go_frame
          refine wpAnyH_ready (rs := [3]) (by kernel_rfl) (by simp) ?_
          refine AllReadyH.cons (o := ⟨some 184, _, _, _, _, _⟩) rfl (fun K hK => ?_) AllReadyH.nil
          go_simp
          go_at_call 16
          refine HC1.out.mono ?_
          rintro e w6 ⟨rfl, hB6, hC6⟩
          have HX6 : Hid (Here w6 r 0 [.int .i64 dw, .int .i64 di, .slice Ab nb cb]) := HXd.out.chg hC6 fun j _ hs => hs.2 rfl
          have HC3 := Lib.hid (HC2.out w6 hB6)
          clear hB6 hC6
          refine hK.out _ _ (HX6.out.head (j := 1) rfl) (fun hHeld => ?_)
          clear hK K
          try go_frame
          refine wpAnyH_ready (rs := [7]) (by kernel_rfl) (by simp) ?_
          refine AllReadyH.cons (o := ⟨some 188, _, _, _, _, _⟩) rfl (fun K hK => ?_) AllReadyH.nil
          go_simp
          go_at_call 17
          refine HC3.out.mono ?_
          rintro e w7 ⟨rfl, hB7, hC7⟩
          have HX7 : Hid (Here w7 r 0 [.int .i64 dw, .int .i64 di, .slice Ab nb cb]) := HX6.out.chg hC7 fun j _ hs => hs.2 rfl
          have HE : Hid (BothC C w w7 (fun k => k = r) D M sh room (q + 1) (q + 1) s4 s4) := hB7.mono X (by omega) (by omega)
          clear hB7 hC7
          refine hK.out _ _ (HX7.out.head (j := 1) rfl) (fun hHeld => ?_)
          clear hK K
          try go_frame
          refine wpAnyH_take (i := 8) (oi := ⟨some 189, _, _, _, _, _⟩) (v := ?_) rfl (by kernel_rfl) (by kernel_rfl) (by kernel_rfl) (fun _ _ _ h => h) (Or.inl ⟨by rfl, ?_⟩) hHeld ?_
          rotate_left
          · intro w hSw
            go_simp
            with_reducible rfl
          try go_frame
          refine wpAnyH_take (i := 9) (oi := ⟨some 12, _, _, _, _, _⟩) (v := ?_) rfl (by kernel_rfl) (by kernel_rfl) (by kernel_rfl) (fun _ _ _ h => h) (Or.inl ⟨by rfl, ?_⟩) hHeld ?_
          rotate_left
          · intro w hSw
            go_simp
            with_reducible rfl
          try go_frame
          refine wpAnyH_done (by kernel_rfl) ?_ _
          clear hHeld HC1 HC2 HC3 HX6 HX7 HXd HBd HX
          obtain ⟨F9, G9, hCD, hRK, -, -, -, -, -⟩ := HE.out
          have HD1 := Lib.hid (X.has hCD)
          have HD2 : Hid (∀ w', Below w7.heap.size w7 w' → Calls Try.prog 20 #[.pointer (some ⟨M, 0, none⟩)] w' fun e w2 => ∃ v, e = .returned v ∧ Hid (Own w2 w'.heap.size 3 v ((hasL s4.L).map VC)) ∧ Below w'.heap.size w' w2) := fun w' hw' => RCHas_any (hRK.stay (Chg.below hw' fun _ _ => False) fun _ _ _ x => x)
          have Hhl : Hid ((hasL s4.L).length ≤ 1000000) := by
            obtain ⟨_, _, _, _, hR9⟩ := hRK
            have h8 : sh * room ≤ 8 * 8 := Nat.mul_le_mul h2 h4
            have h9 := hasL_length s4.L
            rw [hR9.len] at h9
            show _ ≤ _
            omega
          obtain ⟨H, hH⟩ : ∃ l, l = hasL s4.L := ⟨_, rfl⟩
          rw [← hH] at HD1 HD2 Hhl
          clear hCD hRK hH
          go_wp2_with fail
          refine HD1.out.mono ?_
          rintro e wA ⟨va, rfl, HOa, hbA⟩
          have HEA := Lib.hid (HE.out.stay X hbA)
          have HD3 := Lib.hid (HD2.out wA hbA)
          clear HE HD1 HD2 hbA
          go_wp2_with fail
          refine HD3.out.mono ?_
          rintro e wB ⟨vb, rfl, HOb, hbB⟩
          have HEB := Lib.hid (HEA.out.stay X hbB)
          have HI := Lib.hid (RCInts_any H H Hhl.out Hhl.out va vb wB (Own.from_ (HOa.out.below hbB (Nat.le_refl _))) (Own.from_ HOb.out))
          rw [decide_eq_true rfl] at HI
          clear HEA HD3 HOa HOb hbB Hhl
          go_wp2_with fail
          refine HI.out.mono ?_
          rintro e wC ⟨rfl, hbC⟩
          have HEC : Hid (BothC C w wC (fun _ => False) D M sh room (q + 1) (q + 1) s4 s4) := HEB.out.also X hbC _ (fun k hk => hk.elim)
          clear HEB HI hbC
          go_wp2
          go_roundw
          case rel => exact ⟨k + 1, (q + 1), s4, by omega, by go_num, by omega, HEC⟩
          case measure => rw [iO10, show intOf (.int .i64 (k : Int)) = (k : Int) from rfl]; omega
      · as_aux_lemma =>
          have HPk : Hid (Calls Try.prog 8 #[.int .i64 dw, .int .i64 6] w5 fun e w' => e = .returned (.int .i64 5) ∧ w' = w5) := by have := Cpick_any dw hlo hhi w5; rw [hp] at this; exact this
          clear hp hp6 hlo hhi
          go_wp2_with (refine wpList_load_mid rfl 32 (.tmp 85) rfl b0 (o0 + k * 3) rfl [.int .i64 dw, .int .i64 di, .slice Ab nb cb] _ HRg.out Try.underlying32 rfl infoCd ?_)
          rw [← HW5.out, ← Hr.out]
          clear HW5 Hr HRg
          refine HPk.out.mono ?_
          rintro e w5 ⟨rfl, rfl⟩
          clear HPk
          have HE : Hid (BothC C w w5 (fun k => k = r) D M sh room (q + 1) (q + 1) s s) := HB.out.mono X (by omega) (by omega)
          clear HB HX
          obtain ⟨F9, G9, hCD, hRK, -, -, -, -, -⟩ := HE.out
          have HD1 := Lib.hid (X.has hCD)
          have HD2 : Hid (∀ w', Below w5.heap.size w5 w' → Calls Try.prog 20 #[.pointer (some ⟨M, 0, none⟩)] w' fun e w2 => ∃ v, e = .returned v ∧ Hid (Own w2 w'.heap.size 3 v ((hasL s.L).map VC)) ∧ Below w'.heap.size w' w2) := fun w' hw' => RCHas_any (hRK.stay (Chg.below hw' fun _ _ => False) fun _ _ _ x => x)
          have Hhl : Hid ((hasL s.L).length ≤ 1000000) := by
            obtain ⟨_, _, _, _, hR9⟩ := hRK
            have h8 : sh * room ≤ 8 * 8 := Nat.mul_le_mul h2 h4
            have h9 := hasL_length s.L
            rw [hR9.len] at h9
            show _ ≤ _
            omega
          obtain ⟨H, hH⟩ : ∃ l, l = hasL s.L := ⟨_, rfl⟩
          rw [← hH] at HD1 HD2 Hhl
          clear hCD hRK hH
          go_wp2_with fail
          refine HD1.out.mono ?_
          rintro e wA ⟨va, rfl, HOa, hbA⟩
          have HEA := Lib.hid (HE.out.stay X hbA)
          have HD3 := Lib.hid (HD2.out wA hbA)
          clear HE HD1 HD2 hbA
          go_wp2_with fail
          refine HD3.out.mono ?_
          rintro e wB ⟨vb, rfl, HOb, hbB⟩
          have HEB := Lib.hid (HEA.out.stay X hbB)
          have HI := Lib.hid (RCInts_any H H Hhl.out Hhl.out va vb wB (Own.from_ (HOa.out.below hbB (Nat.le_refl _))) (Own.from_ HOb.out))
          rw [decide_eq_true rfl] at HI
          clear HEA HD3 HOa HOb hbB Hhl
          go_wp2_with fail
          refine HI.out.mono ?_
          rintro e wC ⟨rfl, hbC⟩
          have HEC : Hid (BothC C w wC (fun _ => False) D M sh room (q + 1) (q + 1) s s) := HEB.out.also X hbC _ (fun k hk => hk.elim)
          clear HEB HI hbC
          go_wp2
          go_roundw
          case rel => exact ⟨k + 1, (q + 1), s, by omega, by go_num, by omega, HEC⟩
          case measure => rw [iO10, show intOf (.int .i64 (k : Int)) = (k : Int) from rfl]; omega
    · obtain rfl : k = m := by omega
      as_aux_lemma =>
        obtain ⟨F9, G9, hCD, hRK, -, -, -, -, -⟩ := HB2.out
        have hhg := hRK.hits
        have HRt := Lib.hid (X.rate hCD hhg.1 (by omega))
        have Hc45 : Hid (∀ W', Below wr.heap.size wr W' → W'.cell? ⟨M, 4, none⟩ = some (.int .i64 ((s.gets : Nat) : Int)) ∧ W'.cell? ⟨M, 5, none⟩ = some (.int .i64 ((s.hits : Nat) : Int))) := fun W' hW => by
          obtain ⟨_, _, _, _, hR⟩ := hRK.stay (Chg.below hW fun _ _ => False) fun _ _ _ x => x
          exact ⟨hR.c4, hR.c5⟩
        have Hb0 : Hid (Below w.heap.size w wr) := HB2.out.below
        obtain ⟨gt, hgt⟩ : ∃ x, x = s.gets := ⟨_, rfl⟩
        obtain ⟨ht, hht⟩ : ∃ x, x = s.hits := ⟨_, rfl⟩
        rw [← hgt, ← hht] at HRt hhg
        rw [← hgt, ← hht] at Hc45
        obtain ⟨hhg1, hhg2⟩ := hhg
        clear hCD hRK hgt hht HB2 HL
        go_wp2_with fail
        refine HRt.out.mono ?_
        rintro e w7 ⟨v, rfl, hz, hpos, hb7⟩
        obtain ⟨c4, c5⟩ := Hc45.out w7 hb7
        have Hb7 : Hid (Below w.heap.size w w7) := Hb0.out.trans (hb7.mono Hb0.out.size)
        have HS7 : Hid (∀ X, Below w7.heap.size w7 X → X.cell? ⟨M, 4, none⟩ = some (.int .i64 (gt : Int)) ∧ X.cell? ⟨M, 5, none⟩ = some (.int .i64 (ht : Int))) := fun X hX => Hc45.out X (hb7.trans (hX.mono hb7.size))
        clear hb7 HRt Hb0 Hc45
        rcases Nat.eq_zero_or_pos gt with h0 | h0
        · subst h0
          obtain ⟨x, rfl, hx⟩ := hz rfl
          clear hpos c5
          go_wp2_with fail
          refine (Cknows_any X w7).mono ?_
          rintro e w8 ⟨rfl, hb8⟩
          have HBe : Hid (Below w.heap.size w w8) := Hb7.out.trans (hb8.mono Hb7.out.size)
          clear hb8
          go_wp2
          go_ret
          exact ⟨rfl, HBe.out⟩
        obtain ⟨rt, hfr, rfl⟩ := hpos h0
        obtain ⟨rt', hfr', hord⟩ := fq_ok hhg1 h0 (by omega)
        rw [hfr] at hfr'
        injection hfr' with hfr'
        subst hfr'
        obtain ⟨fa, hfa⟩ : ∃ x, x = FloatKind.f64.nearest (ht : Int) := ⟨_, rfl⟩
        obtain ⟨fb, hfb⟩ : ∃ x, x = FloatKind.f64.nearest (gt : Int) := ⟨_, rfl⟩
        have Hca : Hid (∀ W, (convert 3 45 (.int .i64 (ht : Int))).run Try.prog W = .ok (.float .f64 fa) W) := fun W => by rw [hfa]; exact run_i2f _ W
        have Hcb : Hid (∀ W, (convert 3 45 (.int .i64 (gt : Int))).run Try.prog W = .ok (.float .f64 fb) W) := fun W => by rw [hfb]; exact run_i2f _ W
        have Hqu : Hid (∀ W, (binOp .quo 45 (.float .f64 fa) (.float .f64 fb)).run Try.prog W = .ok (.float .f64 rt) W) := fun W => run_quo fa fb rt (by rw [hfa, hfb]; exact hfr) _ W
        have Hord := Lib.hid hord
        have hgn : ¬ (gt : Int) = 0 := by omega
        clear hz hpos hfr hfa hfb hord c5
        go_wp2_with fail
        have HKeep := HS7
        have hC : Below w7.heap.size w7 w7.drew := below_drewN (Below.refl _ _) 1
        refine wp_region_held_drew (S := (fun X => X.cell? ⟨M, 4, none⟩ = some (.int .i64 (gt : Int)) ∧ X.cell? ⟨M, 5, none⟩ = some (.int .i64 (ht : Int)))) (by kernel_rfl) (HKeep.out _ hC) (fun hHeld => ?_)
        generalize w7.drew = w7d at *
        refine wpAnyH_take (i := 0) (oi := ⟨some 213, _, _, _, _, _⟩) (v := ?_) rfl (by kernel_rfl) (by kernel_rfl) (by kernel_rfl) (fun _ _ _ h => h) (Or.inl ⟨by rfl, ?_⟩) hHeld ?_
        rotate_left
        · intro w hSw
          go_simp
          with_reducible rfl
        try go_frame
        refine wpAnyH_take (i := 1) (oi := ⟨some 214, _, _, _, _, _⟩) (v := ?_) rfl (by kernel_rfl) (by kernel_rfl) (by kernel_rfl) (fun _ _ _ h => h) (Or.inl ⟨by rfl, ?_⟩) hHeld ?_
        rotate_left
        · intro w hSw
          go_simp
          with_reducible rfl
        try go_frame
        refine wpAnyH_take (i := 2) (oi := ⟨some 215, _, _, _, _, _⟩) (v := ?_) rfl (by kernel_rfl) (by kernel_rfl) (by kernel_rfl) (fun _ _ _ h => h) (Or.inl ⟨by rfl, ?_⟩) hHeld ?_
        rotate_left
        · intro w hSw
          go_simp
          with_reducible rfl
        try go_frame
        refine wpAnyH_take (i := 3) (oi := ⟨some 216, _, _, _, _, _⟩) (v := ?_) rfl (by kernel_rfl) (by kernel_rfl) (by kernel_rfl) (fun _ _ _ h => h) (Or.inl ⟨by rfl, ?_⟩) hHeld ?_
        rotate_left
        · intro w hSw
          go_simp
          with_reducible rfl
        try go_frame
        refine wpAnyH_take (i := 4) (oi := ⟨some 217, _, _, _, _, _⟩) (v := ?_) rfl (by kernel_rfl) (by kernel_rfl) (by kernel_rfl) (fun _ _ _ h => h) (Or.inl ⟨by rfl, ?_⟩) hHeld ?_
        rotate_left
        · intro w hSw
          have hc := hSw.2
          go_simp
          with_reducible rfl
        try go_frame
        refine wpAnyH_take (i := 5) (oi := ⟨some 218, _, _, _, _, _⟩) (v := ?_) rfl (by kernel_rfl) (by kernel_rfl) (by kernel_rfl) (fun _ _ _ h => h) (Or.inl ⟨by rfl, ?_⟩) hHeld ?_
        rotate_left
        · intro w hSw
          have hv := Hca.out w
          go_simp
          with_reducible rfl
        try go_frame
        refine wpAnyH_take (i := 6) (oi := ⟨some 219, _, _, _, _, _⟩) (v := ?_) rfl (by kernel_rfl) (by kernel_rfl) (by kernel_rfl) (fun _ _ _ h => h) (Or.inl ⟨by rfl, ?_⟩) hHeld ?_
        rotate_left
        · intro w hSw
          go_simp
          with_reducible rfl
        try go_frame
        refine wpAnyH_take (i := 7) (oi := ⟨some 220, _, _, _, _, _⟩) (v := ?_) rfl (by kernel_rfl) (by kernel_rfl) (by kernel_rfl) (fun _ _ _ h => h) (Or.inl ⟨by rfl, ?_⟩) hHeld ?_
        rotate_left
        · intro w hSw
          go_simp
          with_reducible rfl
        try go_frame
        refine wpAnyH_take (i := 8) (oi := ⟨some 221, _, _, _, _, _⟩) (v := ?_) rfl (by kernel_rfl) (by kernel_rfl) (by kernel_rfl) (fun _ _ _ h => h) (Or.inl ⟨by rfl, ?_⟩) hHeld ?_
        rotate_left
        · intro w hSw
          go_simp
          with_reducible rfl
        try go_frame
        refine wpAnyH_take (i := 9) (oi := ⟨some 222, _, _, _, _, _⟩) (v := ?_) rfl (by kernel_rfl) (by kernel_rfl) (by kernel_rfl) (fun _ _ _ h => h) (Or.inl ⟨by rfl, ?_⟩) hHeld ?_
        rotate_left
        · intro w hSw
          have hc := hSw.1
          go_simp
          with_reducible rfl
        try go_frame
        refine wpAnyH_take (i := 10) (oi := ⟨some 223, _, _, _, _, _⟩) (v := ?_) rfl (by kernel_rfl) (by kernel_rfl) (by kernel_rfl) (fun _ _ _ h => h) (Or.inl ⟨by rfl, ?_⟩) hHeld ?_
        rotate_left
        · intro w hSw
          have hv := Hcb.out w
          go_simp
          with_reducible rfl
        try go_frame
        refine wpAnyH_take (i := 11) (oi := ⟨some 224, _, _, _, _, _⟩) (v := ?_) rfl (by kernel_rfl) (by kernel_rfl) (by kernel_rfl) (fun _ _ _ h => h) (Or.inl ⟨by rfl, ?_⟩) hHeld ?_
        rotate_left
        · intro w hSw
          have hv := Hqu.out w
          go_simp
          with_reducible rfl
        try go_frame
        refine wpAnyH_take (i := 12) (oi := ⟨some 225, _, _, _, _, _⟩) (v := ?_) rfl (by kernel_rfl) (by kernel_rfl) (by kernel_rfl) (fun _ _ _ h => h) (Or.inl ⟨by rfl, ?_⟩) hHeld ?_
        rotate_left
        · intro w hSw
          have hv := Hord.out
          go_simp
          with_reducible rfl
        try go_frame
        refine wpAnyH_take (i := 13) (oi := ⟨some 226, _, _, _, _, _⟩) (v := ?_) rfl (by kernel_rfl) (by kernel_rfl) (by kernel_rfl) (fun _ _ _ h => h) (Or.inl ⟨by rfl, ?_⟩) hHeld ?_
        rotate_left
        · intro w hSw
          go_simp
          with_reducible rfl
        try go_frame
        refine wpAnyH_ready (rs := [14]) (by kernel_rfl) (by simp) ?_
        refine AllReadyH.cons (o := ⟨some 227, _, _, _, _, _⟩) rfl (fun K hK => ?_) AllReadyH.nil
        go_simp
        refine (Cknows_any X w7d).mono ?_
        rintro e w8 ⟨rfl, hb8⟩
        replace hC := hC.trans (hb8.mono hC.size)
        refine hK.out _ _ (HKeep.out _ hC) (fun hHeld => ?_)
        clear hK K hb8
        try go_frame
        refine wpAnyH_take (i := 15) (oi := ⟨some 228, _, _, _, _, _⟩) (v := ?_) rfl (by kernel_rfl) (by kernel_rfl) (by kernel_rfl) (fun _ _ _ h => h) (Or.inl ⟨by rfl, ?_⟩) hHeld ?_
        rotate_left
        · intro w hSw
          go_simp
          with_reducible rfl
        try go_frame
        refine wpAnyH_take (i := 16) (oi := ⟨some 6, _, _, _, _, _⟩) (v := ?_) rfl (by kernel_rfl) (by kernel_rfl) (by kernel_rfl) (fun _ _ _ h => h) (Or.inl ⟨by rfl, ?_⟩) hHeld ?_
        rotate_left
        · intro w hSw
          go_simp
          with_reducible rfl
        try go_frame
        refine wpAnyH_done (by kernel_rfl) ?_ _
        have HBe : Hid (Below w.heap.size w w8) := Hb7.out.trans (hC.mono Hb7.out.size)
        clear hHeld HKeep hC HS7 Hb7
        go_wp2
        go_ret
        exact ⟨rfl, HBe.out⟩
end Go.Proofs.Ythcphabfeapjbaa
