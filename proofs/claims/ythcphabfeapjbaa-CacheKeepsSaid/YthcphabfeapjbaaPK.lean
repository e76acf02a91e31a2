/-
  THE WALK of the laws' knows, over the contracts.
-/
import Derived.Test.YthcphabfeapjbaaPJ
import Derived.Lib.SmallJoins
namespace Go.Proofs.Ythcphabfeapjbaa
open Go.RowKit Ca

theorem below_chgC {w0 W W' : World} {S : Nat → Nat → Prop} {n : Nat} (hb : Below n w0 W) (hn : n ≤ W.heap.size) (hc : Chg S W W') (hS : ∀ k o, S k o → n ≤ k) : Below n w0 W' :=
  hb.trans ⟨hc.os, hc.tape, hc.output, hc.size, fun k hk => hc.block k (Nat.lt_of_lt_of_le hk hn) fun o ho => by have := hS k o ho; omega⟩
theorem AfterC.below {C : Cach} {w w' : World} {F : Nat → Prop} {D sh room q n : Nat} {s : St} (h : AfterC C w F w' D sh room q s) (hF : ∀ k, F k → n ≤ k) (hn : n ≤ w.heap.size) :
    ∃ F', C w' F' D sh room q s ∧ (∀ k, F' k → n ≤ k) ∧ Below n w w' := by
  obtain ⟨F', hT, hF', hC⟩ := h
  exact ⟨F', hT, fun k hk => (hF' k hk).elim (hF k) (fun h => Nat.le_trans hn h), below_chgC (Below.refl _ _) hn hC fun k _ hk => hF k hk⟩
def k0 : St := new 1 2
def k1 : St := (put 1 2 k0 1 []).1
def k2 : St := (put 1 2 k1 2 []).1
def k3 : St := (put 1 2 k2 3 [120]).1
def k4 : St := (getC k3 3).1
theorem k3_get : getC k3 3 = (k4, [120], true) := by rfl
theorem k4_has : hasL k4.L = [2, 3] := by decide
theorem k4_gets : k4.gets = 1 ∧ k4.hits = 1 := by decide
theorem one_ne (x : Nat) (h : FloatKind.f64.format.order x x = none) : (FloatKind.f64.format.order x x != some .eq) = true := by rw [h]; rfl
theorem sb120 : (strB [120]).toList = [120] := by kernel_rfl
theorem one_eq : FloatKind.f64.format.order 4607182418800017408 4607182418800017408 = some .eq := by kernel_rfl
theorem fq11 : fq 1 1 = some 4607182418800017408 := by kernel_rfl

set_option maxRecDepth 100000 in
set_option maxHeartbeats 1000000 in
theorem Cknows_any {C : Cach} (X : CacheC C) (w : World) : Calls Try.prog 5 #[] w fun e w' => e = .returned (.bool true) ∧ Below w.heap.size w w' := by
  go_enter Try.func5, Try.ntmps5
  go_wp2_with fail
  refine (X.newOk 1 2 w (by decide) (by decide)).mono ?_
  rintro e w1 ⟨D, F, rfl, hT, hF, hb⟩
  have HC : Hid (Below w.heap.size w w1) := hb
  have HF : Hid (∀ k, F k → w.heap.size ≤ k) := hF
  have HT : Hid (C w1 F D 1 2 0 k0) := hT
  clear hb hF hT
  go_wp2_with fail
  refine (X.newBad 0 2 w1 ⟨by decide, by decide⟩ ⟨by decide, by decide⟩ (.inl (by decide))).mono ?_
  rintro e w2 ⟨rfl, hb⟩
  replace HC := Lib.hid (HC.out.trans (hb.mono HC.out.size))
  replace HT := Lib.hid (X.stay HT.out (Chg.below hb fun _ _ => False) fun _ _ _ x => x)
  clear hb
  go_wp2_with fail
  refine (X.rate HT.out (by decide) (by decide)).mono ?_
  rintro e w3 ⟨v, rfl, hv, _, hb⟩
  obtain ⟨x, rfl, hx⟩ := hv rfl
  replace HC := Lib.hid (HC.out.trans (hb.mono HC.out.size))
  replace HT := Lib.hid (X.stay HT.out (Chg.below hb fun _ _ => False) fun _ _ _ x => x)
  have HX := Lib.hid hx
  clear hb hv hx
  go_wp2_with fail
  refine (X.put HT.out (by decide) 1 _ [] ⟨by decide, by decide⟩ (by decide) (.inl ⟨none, rfl, rfl⟩)).mono ?_
  rintro e w4 ⟨rfl, haf⟩
  obtain ⟨F4, hT4, hF4, hb⟩ := AfterC.below haf HF.out HC.out.size
  replace HF : Hid (∀ k, F4 k → w.heap.size ≤ k) := hF4
  replace HC := Lib.hid (HC.out.trans hb)
  replace HT : Hid (C w4 F4 D 1 2 0 k1) := hT4
  clear hb haf hF4 hT4
  go_wp2_with fail
  refine (X.put HT.out (by decide) 2 _ [] ⟨by decide, by decide⟩ (by decide) (.inl ⟨none, rfl, rfl⟩)).mono ?_
  rintro e w5 ⟨rfl, haf⟩
  obtain ⟨F5, hT5, hF5, hb⟩ := AfterC.below haf HF.out HC.out.size
  replace HF : Hid (∀ k, F5 k → w.heap.size ≤ k) := hF5
  replace HC := Lib.hid (HC.out.trans hb)
  replace HT : Hid (C w5 F5 D 1 2 0 k2) := hT5
  clear hb haf hF5 hT5
  have hc1 := Joins.run_convert_bytes_const_at (P := Try.prog) w5 30 5 #[.int .u8 120] 1 1 w5.heap.size rfl Try.underlying30 Try.underlying5
  obtain ⟨w6, hw6⟩ : ∃ w6, w6 = w5.alloc (.cells #[.int .u8 120] 5 (1, 2)) := ⟨_, rfl⟩
  have hb6 : Below w5.heap.size w5 w6 := by rw [hw6]; exact (Below.refl _ _).alloc (Nat.le_refl _) _
  have HA : Hid (Arg w6 (.slice (some ⟨w5.heap.size, 0, none⟩) 1 1) [120]) := by
    refine .inr ⟨w5.heap.size, 0, 1, rfl, by rw [hw6]; simp, by decide, fun j u hu => ?_⟩
    rw [hw6, Nat.zero_add]
    refine (Joins.cell_alloc_mark_at w5 _ _ _ _ j rfl).trans ?_
    rw [List.getElem?_toArray]
    exact hu
  replace HC := Lib.hid (HC.out.trans (hb6.mono HC.out.size))
  replace HT := Lib.hid (X.stay HT.out (Chg.below hb6 fun _ _ => False) fun _ _ _ x => x)
  clear hb6
  go_wp2_with fail
  rw [← hw6]
  refine (X.put HT.out (by decide) 3 _ [120] ⟨by decide, by decide⟩ (by decide) HA.out).mono ?_
  rintro e w7 ⟨rfl, haf⟩
  obtain ⟨F7, hT7, hF7, hb⟩ := AfterC.below haf HF.out HC.out.size
  replace HF : Hid (∀ k, F7 k → w.heap.size ≤ k) := hF7
  replace HC := Lib.hid (HC.out.trans hb)
  replace HT : Hid (C w7 F7 D 1 2 0 k3) := hT7
  clear hb haf hF7 hT7 hc1 hw6 HA
  go_wp2_with fail
  refine (X.get HT.out (by decide) 3 ⟨by decide, by decide⟩).mono ?_
  rw [k3_get]
  rintro e w8 ⟨v, F8, rfl, hO, hap, hT8, hF8, hC8⟩
  have hs7 := HC.out.size
  replace HC : Hid (Below w.heap.size w w8) := below_chgC HC.out HC.out.size hC8 fun k _ hk => HF.out k hk
  replace HF : Hid (∀ k, F8 k → w.heap.size ≤ k) := fun k hk => (hF8 k hk).elim (HF.out k) fun h => Nat.le_trans hs7 h
  replace HT := Lib.hid hT8
  have HA := Lib.hid (Own.arg hO)
  clear hC8 hF8 hT8 hap hs7 hO
  go_wp2_with fail
  refine (X.has HT.out).mono ?_
  rw [k4_has]
  rintro e w9 ⟨l, rfl, hOl, hb⟩
  obtain ⟨g, cap, hl, hgl, hgs, hsee⟩ := hOl.out.form (by decide)
  replace HC := Lib.hid (HC.out.trans (hb.mono HC.out.size))
  replace HT := Lib.hid (X.stay HT.out (Chg.below hb fun _ _ => False) fun _ _ _ x => x)
  replace HA := Lib.hid (HA.out.below hb)
  have HSee : Hid (Sees w9 g 0 ([2, 3].map VC)) := hsee
  have Hgs := Lib.hid hgs
  rw [show ([2, 3].map VC).length = 2 from rfl] at hl
  subst hl
  clear hOl hsee hgs hb hgl
  go_wp2_with fail
  refine (X.rateNil w9).mono ?_
  rintro e w10 ⟨v2, rfl, ⟨y, rfl, hy⟩, hb⟩
  have hsee := HSee.out.below hb Hgs.out
  have e0 : w10.cell? ⟨g, 0, none⟩ = some (.int .i64 2) := hsee 0 _ rfl
  have e1 : w10.cell? ⟨g, 1, none⟩ = some (.int .i64 3) := hsee 1 _ rfl
  replace HC := Lib.hid (HC.out.trans (hb.mono HC.out.size))
  replace HT := Lib.hid (X.stay HT.out (Chg.below hb fun _ _ => False) fun _ _ _ x => x)
  have hcv := conv_arg (HA.out.below hb)
  have hx := HX.out
  have hsb : (strB [120]).toList = [120] := sb120
  have hone := one_eq
  clear hsee hb HSee Hgs HA HX
  go_wp2_with fail
  refine (X.rate HT.out (by decide) (by decide)).mono ?_
  rintro e w11 ⟨v3, rfl, _, hr, hb⟩
  obtain ⟨r, hr1, rfl⟩ := hr (by decide)
  rw [show fq k4.hits k4.gets = some 4607182418800017408 from fq11] at hr1
  injection hr1 with hr1
  subst hr1
  replace HC := Lib.hid (HC.out.trans (hb.mono HC.out.size))
  clear hr hb
  go_wp2
  go_ret
  exact ⟨rfl, HC.out⟩
end Go.Proofs.Ythcphabfeapjbaa
