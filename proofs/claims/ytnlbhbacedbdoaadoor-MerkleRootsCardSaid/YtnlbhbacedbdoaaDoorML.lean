/-
  WHAT THE LAWS OF LAYER 8 LEAN ON: the contracts of the program's functions, stated (each is shown in its own text); arrays compared; THE WALK of knows.
-/
import Derived.Test.YtnlbhbacedbdoaaDoorMK
import Derived.Laws.StructEq
namespace Go.Proofs.YtnlbhbacedbdoaaDoor
open Go.RowKit Mk

def HeightC : Prop := ∀ (m : Int) (w : World), m ≤ 100000 → Calls Tryd.prog 10 #[.int .i64 m] w fun e w' => (∃ h : Nat, Hid (IsH m h) ∧ h ≤ 9 ∧ e = .returned (.int .i64 (h : Int))) ∧ Below w.heap.size w w'
def NodeC : Prop := ∀ (key : Tg) (four : List Tg) (v : Value) (ks : List Value) (w : World), key.length ≤ 1000 → four.length = 4 → (∀ t ∈ four, t.length = 32) → ks = four.flatten.map V8 → Hm.Tab w → Arg w v key →
  Calls Tryd.prog 19 #[v, .agg ks.toArray] w fun e w' => (∃ rs : List Value, Hid (Vec 32 (node key four) rs) ∧ e = .returned (.agg rs.toArray)) ∧ Below w.heap.size w w'
def RootC : Prop := ∀ (key : Tg) (l : List Tg) (v x : Value) (w : World), key.length ≤ 1000 → l.length ≤ 70 → Hm.Tab w → Arg w v key → Tags w x l →
  Calls Tryd.prog 9 #[v, x] w fun e w' => (∃ (h : Nat) (rs : List Value), Hid (IsH l.length h) ∧ Hid (Vec 32 (root key l h) rs) ∧ e = .returned (.agg rs.toArray)) ∧ Below w.heap.size w w'
def WayC : Prop := ∀ (key : Tg) (l : List Tg) (v x : Value) (p : Nat) (w : World), key.length ≤ 1000 → l.length ≤ 70 → p < l.length → Hm.Tab w → Arg w v key → Tags w x l →
  Calls Tryd.prog 13 #[v, x, .int .i64 (p : Int)] w fun e w' => (∃ (h : Nat) (r : Value), Hid (IsH l.length h) ∧ Hid (Fours w' r (way key l h p)) ∧ e = .returned (.tuple #[r, .int .i64 0])) ∧ Below w.heap.size w w'
def WayBadC : Prop := ∀ (key : Tg) (l : List Tg) (v x : Value) (d : Int) (w : World), key.length ≤ 1000 → l.length ≤ 70 → (d < 0 ∨ (l.length : Int) ≤ d) → Hm.Tab w → Arg w v key → Tags w x l →
  Calls Tryd.prog 13 #[v, x, .int .i64 d] w fun e w' => e = .returned (.tuple #[.slice none 0 0, .int .i64 1]) ∧ Below w.heap.size w w'
def CheckC : Prop := ∀ (key : Tg) (ws : List (List Tg)) (v x : Value) (d : Int) (leaf rt : Tg) (ls rs : List Value) (w : World), key.length ≤ 1000 → ws.length ≤ 100 → -9223372036854775808 ≤ d → d ≤ 9223372036854775807 → Vec 32 leaf ls → Vec 32 rt rs → Hm.Tab w → Arg w v key → Fours w x ws →
  Calls Tryd.prog 17 #[v, x, .int .i64 d, .agg ls.toArray, .agg rs.toArray] w fun e w' => e = .returned (.bool (chk key ws d leaf rt)) ∧ Below w.heap.size w w'
structure Merkle : Prop where
  height : HeightC
  node : NodeC
  root : RootC
  way : WayC
  bad : WayBadC
  check : CheckC

theorem arr_eq (t : TypeId) (n : Nat) (ht : Tryd.prog.underlying t = some (.array n 5)) (a b : List UInt8) (rs ss : List Value) (ha : Vec n a rs) (hb : Vec n b ss) (w : World) :
    (Op.equalIn 10000 t (.agg rs.toArray) (.agg ss.toArray)).run Tryd.prog w = .ok (decide (a = b)) w := by
  have hs : (sizeOf 5).run Tryd.prog w = .ok 1 w := by kernel_rfl
  have hag : (isAgg 5).run Tryd.prog w = .ok false w := by kernel_rfl
  rw [show (10000 : Nat) = 9999 + 1 from rfl, Op.equalIn]
  simp only [Sem.run_bind, run_underlying ht, Result.andThen_ok, hs]
  simp only [Std.Legacy.Range.forIn_eq_forIn_range', Std.Legacy.Range.size, Nat.sub_zero, Nat.add_sub_cancel, Nat.div_one]
  have key : ∀ L : List Nat, (∀ i ∈ L, i < n) → (forIn (m := Sem) L ((none, ()) : Option Bool × Unit) fun i _ => do
            let a ← part 5 rs.toArray (i * 1)
            let b ← part 5 ss.toArray (i * 1)
            let c ← Op.equalIn 9999 5 a b
            if (!c) = true then pure (ForInStep.done ((some false, ()) : Option Bool × Unit)) else pure (ForInStep.yield (none, ()))).run Tryd.prog w = .ok (if ∀ i ∈ L, a.getD i 0 = b.getD i 0 then (none, ()) else (some false, ())) w := by
    intro L
    induction L with
    | nil => intro _; simp
    | cons i r ih =>
      intro hL
      have hi : i < n := hL i (by simp)
      have hp : (part 5 rs.toArray (i * 1)).run Tryd.prog w = .ok (.int .u8 (a.getD i 0).toNat) w := by
        have hx := ha.at_ i hi
        simp only [part, Sem.run_bind, hag, Result.andThen_ok]
        simp [hx]
      have hq : (part 5 ss.toArray (i * 1)).run Tryd.prog w = .ok (.int .u8 (b.getD i 0).toNat) w := by
        have hx := hb.at_ i hi
        simp only [part, Sem.run_bind, hag, Result.andThen_ok]
        simp [hx]
      have he : (Op.equalIn 9999 5 (.int .u8 ((a.getD i 0).toNat : Int)) (.int .u8 ((b.getD i 0).toNat : Int))).run Tryd.prog w = .ok (((a.getD i 0).toNat : Int) == ((b.getD i 0).toNat : Int)) w := by
        rw [show (9999 : Nat) = 9998 + 1 from rfl, run_equalIn_int w 9998 5 .u8 .u8 _ _ Tryd.underlying5]
      rw [List.forIn_cons]
      by_cases hxy : a.getD i 0 = b.getD i 0
      · have hbb : (((a.getD i 0).toNat : Int) == ((b.getD i 0).toNat : Int)) = true := by rw [hxy]; simp
        rw [hbb] at he
        simp only [Sem.run_bind, hp, hq, Result.andThen_ok, he, Bool.not_true, Bool.false_eq_true, if_false, Sem.run_pure]
        rw [ih (fun j hj => hL j (by simp [hj]))]
        simp only [List.mem_cons, forall_eq_or_imp, hxy, true_and]
      · have hbb : (((a.getD i 0).toNat : Int) == ((b.getD i 0).toNat : Int)) = false := by
          rw [beq_eq_false_iff_ne]
          intro hh
          exact hxy (UInt8.toNat_inj.1 (by omega))
        rw [hbb] at he
        simp only [Sem.run_bind, hp, hq, Result.andThen_ok, he, Bool.not_false, if_true, Sem.run_pure]
        simp only [List.mem_cons, forall_eq_or_imp, hxy, false_and, if_false]
  rw [key _ (fun i hi => by simpa using (List.mem_range'_1.1 hi).2)]
  by_cases hab : a = b
  · rw [if_pos (fun i _ => by rw [hab])]
    simp [hab]
  · have hne : ¬ ∀ i ∈ List.range' 0 n 1, a.getD i 0 = b.getD i 0 := by
      intro hh
      apply hab
      apply List.ext_getElem (by rw [ha.2, hb.2])
      intro i h1 h2
      have h3 := hh i (by rw [List.mem_range'_1]; have := ha.2; omega)
      simpa [List.getD_eq_getElem?_getD, h1, h2] using h3
    rw [if_neg hne]
    simp [hab]

theorem Vec.same {n : Nat} {a b : List UInt8} {rs ss : List Value} (ha : Vec n a rs) (hb : Vec n b ss) (h : a = b) : rs = ss := by rw [ha.1, hb.1, h]

def Z128 : List Value := List.replicate 128 (.int .u8 0)
theorem zero4 (w : World) : (zeroValue 48).run Tryd.prog w = .ok (.agg Z128.toArray) w := by kernel_rfl
theorem Z128_eq : Z128 = (List.replicate 4 zero).flatten.map V8 := by kernel_rfl
def kW : Tg := [107]
set_option maxRecDepth 1000000 in
theorem node_kW : (node kW (List.replicate 4 zero))[0]? ≠ some 0 := by decide +kernel
theorem isH5 : IsH 5 2 := ⟨by decide, by decide, .inr (by decide)⟩
theorem isH0 : IsH 0 1 := ⟨by decide, by decide, .inl rfl⟩
theorem root_nil (key : Tg) : root key [] 1 = node key (List.replicate 4 zero) := by
  simp [root, lev, ups, full, zero, List.range_succ]

set_option maxRecDepth 100000 in
set_option maxHeartbeats 1000000 in
theorem Mknows_any (C : Merkle) (w : World) (hT : Hm.Tab w) : Calls Tryd.prog 6 #[] w fun e w' => e = .returned (.bool true) ∧ Below w.heap.size w w' := by
  have hz := Hm.zeroTag
  have hz4 := zero4
  have hc1 := Joins.run_convert_bytes_const_at (P := Tryd.prog) w 22 5 #[.int .u8 107] 1 1 w.heap.size rfl Tryd.underlying22 Tryd.underlying5
  obtain ⟨w0, hw0⟩ : ∃ w0, w0 = w.alloc (.cells #[.int .u8 107] 5 (1, 2)) := ⟨_, rfl⟩
  have HC : Hid (Below w.heap.size w w0) := by rw [hw0]; exact (Below.refl _ _).alloc (Nat.le_refl _) _
  have HA : Hid (Arg w0 (.slice (some ⟨w.heap.size, 0, none⟩) 1 1) kW) := by
    refine .inr ⟨w.heap.size, 0, 1, rfl, by rw [hw0]; simp, by decide, fun j u hu => ?_⟩
    rw [hw0, Nat.zero_add]
    refine (Joins.cell_alloc_mark_at w _ _ _ _ j rfl).trans ?_
    rw [List.getElem?_toArray]
    exact hu
  have HT : Hid (Hm.Tab w0) := hT.below HC.out
  have hnil : ∀ W, Tags W (.slice none 0 0) [] := fun W => ⟨fun t ht => (by cases ht), none, 0, rfl, fun h => (by simp at h)⟩
  have HN := Lib.hid hnil
  have Hk : Hid (kW.length ≤ 1000) := by show _ ≤ _; decide
  clear hT hnil
  go_enter Tryd.func6, Tryd.ntmps6
  go_wp2_with fail
  rw [← hw0]
  refine (C.bad kW [] _ _ 0 w0 Hk.out (by decide) (.inr (by decide)) HT.out HA.out (HN.out _)).mono ?_
  rintro e w1 ⟨rfl, hb⟩
  clear hc1 hw0
  replace HC := Lib.hid (HC.out.trans (hb.mono HC.out.size))
  replace HT := Lib.hid (HT.out.below hb)
  replace HA := Lib.hid (HA.out.below hb)
  clear hb
  go_wp2_with fail
  refine (C.height 5 w1 (by decide)).mono ?_
  rintro e w2 ⟨⟨h, Hh, _, rfl⟩, hb⟩
  obtain rfl : h = 2 := Hh.out.unique isH5
  replace HC := Lib.hid (HC.out.trans (hb.mono HC.out.size))
  replace HT := Lib.hid (HT.out.below hb)
  replace HA := Lib.hid (HA.out.below hb)
  clear hb
  clear Hh
  go_wp2_with fail
  refine (C.height 0 w2 (by decide)).mono ?_
  rintro e w3 ⟨⟨h, Hh, _, rfl⟩, hb⟩
  obtain rfl : h = 1 := Hh.out.unique isH0
  replace HC := Lib.hid (HC.out.trans (hb.mono HC.out.size))
  replace HT := Lib.hid (HT.out.below hb)
  replace HA := Lib.hid (HA.out.below hb)
  clear hb
  clear Hh
  go_wp2_with fail
  refine (C.root kW [] _ _ w3 Hk.out (by decide) HT.out HA.out (HN.out _)).mono ?_
  rintro e w4 ⟨⟨h, rs, Hh, Hrs, rfl⟩, hb⟩
  obtain rfl : h = 1 := Hh.out.unique isH0
  rw [root_nil] at Hrs
  replace HC := Lib.hid (HC.out.trans (hb.mono HC.out.size))
  replace HT := Lib.hid (HT.out.below hb)
  replace HA := Lib.hid (HA.out.below hb)
  clear hb
  clear Hh
  go_wp2_with fail
  refine (C.node kW (List.replicate 4 zero) _ Z128 w4 Hk.out (by decide) (by decide) Z128_eq HT.out HA.out).mono ?_
  rintro e w5 ⟨⟨ss, Hss, rfl⟩, hb⟩
  obtain rfl : ss = rs := Hss.out.same Hrs.out rfl
  replace HC := Lib.hid (HC.out.trans (hb.mono HC.out.size))
  replace HT := Lib.hid (HT.out.below hb)
  replace HA := Lib.hid (HA.out.below hb)
  clear hb
  have hte := arr_eq 30 32 Tryd.underlying30 _ _ ss ss Hrs.out Hrs.out
  simp only [decide_true] at hte
  go_wp2_with fail
  refine (C.node kW (List.replicate 4 zero) _ Z128 w5 Hk.out (by decide) (by decide) Z128_eq HT.out HA.out).mono ?_
  rintro e w6 ⟨⟨us, Hus, rfl⟩, hb⟩
  obtain rfl : us = ss := Hus.out.same Hrs.out rfl
  replace HC := Lib.hid (HC.out.trans (hb.mono HC.out.size))
  clear hb
  have hne : node kW (List.replicate 4 zero) ≠ List.replicate 32 0 := fun h => node_kW (by rw [h]; decide)
  have htn := arr_eq 30 32 Tryd.underlying30 (node kW (List.replicate 4 zero)) (List.replicate 32 0) us Hm.Z32 Hus.out ⟨by rfl, by rfl⟩
  simp only [decide_eq_false hne] at htn
  clear hte hne Hrs Hus Hss HA HT HN Hk
  go_wp2
  go_ret
  exact ⟨rfl, HC.out⟩
end Go.Proofs.YtnlbhbacedbdoaaDoor
