/-
  PLAIN (no program): which nodes are stale, chapter 9.
-/
import Derived.Test.YtepbnimheedodaaDoorMF
namespace Go.Proofs.YtepbnimheedodaaDoor
namespace Mt
open Mk
/-- The level above: a node is stale if one below it is. -/
def upB (s : List Bool) : List Bool := (List.range ((s.length + 3) / 4)).map fun i => ((s.drop (4 * i)).take 4).any id
def cnt (s : List Bool) : Nat := s.count true
/-- How many nodes are stale, over so many levels. -/
def st : Nat → List Bool → Nat
  | 0, _ => 0
  | h + 1, s => cnt (upB s) + st h (upB s)
theorem upB_length (s : List Bool) : (upB s).length = (s.length + 3) / 4 := by simp [upB]
theorem cnt_le (s : List Bool) : cnt s ≤ s.length := List.count_le_length
theorem st_le (h : Nat) : ∀ (s : List Bool) (n : Nat), s.length ≤ n → st h s ≤ h * (n + 1) := by
  induction h with
  | zero => intro s n _; simp [st]
  | succ h ih =>
    intro s n hs
    have h1 : (upB s).length ≤ n := by rw [upB_length]; omega
    have h2 := cnt_le (upB s)
    have h3 := ih (upB s) n h1
    rw [st, Nat.succ_mul]; omega
theorem any4 (s : List Bool) (a : Nat) : ((s.drop a).take 4).any id = (s.getD a false || s.getD (a + 1) false || s.getD (a + 2) false || s.getD (a + 3) false) := by
  have e : ∀ j, s.getD (a + j) false = (s.drop a).getD j false := fun j => by rw [List.getD_eq_getElem?_getD, List.getD_eq_getElem?_getD, List.getElem?_drop]
  have e0 := e 0
  rw [Nat.add_zero] at e0
  rw [e0, e 1, e 2, e 3]
  generalize s.drop a = t
  match t with
  | [] => rfl
  | [x] => simp
  | [x, y] => simp
  | [x, y, z] => simp [Bool.or_assoc]
  | x :: y :: z :: u :: r => simp [Bool.or_assoc]
theorem upB_get (s : List Bool) (k : Nat) : (upB s).getD k false = (s.getD (4 * k) false || s.getD (4 * k + 1) false || s.getD (4 * k + 2) false || s.getD (4 * k + 3) false) := by
  by_cases hk : k < (s.length + 3) / 4
  · rw [upB, List.getD_eq_getElem?_getD, List.getElem?_map, List.getElem?_range hk, Option.map_some, Option.getD_some, any4]
  · have hz : ∀ j, 4 * k ≤ j → s.getD j false = false := fun j hj => by rw [List.getD_eq_getElem?_getD, List.getElem?_eq_none (by omega)]; rfl
    rw [hz _ (Nat.le_refl _), hz _ (by omega), hz _ (by omega), hz _ (by omega), List.getD_eq_getElem?_getD, List.getElem?_eq_none (by rw [upB_length]; omega)]
    rfl
theorem ext_getD {s t : List Bool} (hl : s.length = t.length) (h : ∀ k, s.getD k false = t.getD k false) : s = t := by
  apply List.ext_getElem hl
  intro i h1 h2
  have := h i
  rwa [List.getD_eq_getElem?_getD, List.getD_eq_getElem?_getD, List.getElem?_eq_getElem h1, List.getElem?_eq_getElem h2] at this
theorem set_getD (s : List Bool) (i k : Nat) (hi : i < s.length) : (s.set i true).getD k false = (decide (k = i) || s.getD k false) := by
  rw [List.getD_eq_getElem?_getD, List.getD_eq_getElem?_getD, List.getElem?_set]
  by_cases h : i = k
  · subst h; simp [hi]
  · rw [if_neg h, decide_eq_false (fun e => h e.symm), Bool.false_or]
theorem upB_set (s : List Bool) (i : Nat) (hi : i < s.length) : upB (s.set i true) = (upB s).set (i / 4) true := by
  apply ext_getD
  · rw [upB_length, List.length_set, List.length_set, upB_length]
  · intro k
    rw [upB_get, set_getD _ _ _ hi, set_getD _ _ _ hi, set_getD _ _ _ hi, set_getD _ _ _ hi, set_getD _ _ _ (by rw [upB_length]; omega), upB_get]
    have hd : decide (k = i / 4) = (decide (4 * k = i) || decide (4 * k + 1 = i) || decide (4 * k + 2 = i) || decide (4 * k + 3 = i)) := by
      rw [Bool.eq_iff_iff]; simp; omega
    rw [hd]
    cases decide (4 * k = i) <;> cases decide (4 * k + 1 = i) <;> cases decide (4 * k + 2 = i) <;> cases decide (4 * k + 3 = i) <;> cases s.getD (4 * k) false <;> cases s.getD (4 * k + 1) false <;> cases s.getD (4 * k + 2) false <;> cases s.getD (4 * k + 3) false <;> rfl
theorem cnt_set : ∀ (s : List Bool) (i : Nat), cnt (s.set i true) ≤ cnt s + 1
  | [], i => by simp [cnt]
  | b :: r, 0 => by cases b <;> simp [cnt]
  | b :: r, i + 1 => by
    have := cnt_set r i
    simp only [cnt, List.set_cons_succ, List.count_cons] at this ⊢
    omega
theorem st_set (h : Nat) : ∀ (s : List Bool) (i : Nat), i < s.length → st h (s.set i true) ≤ st h s + h := by
  induction h with
  | zero => intro s i _; simp [st]
  | succ h ih =>
    intro s i hi
    rw [st, st, upB_set s i hi]
    have h1 := cnt_set (upB s) (i / 4)
    have h2 := ih (upB s) (i / 4) (by rw [upB_length]; omega)
    omega
theorem upB_no (n : Nat) : upB (List.replicate n false) = List.replicate ((n + 3) / 4) false := by
  apply ext_getD
  · rw [upB_length, List.length_replicate, List.length_replicate]
  · intro k
    have hz : ∀ m j, (List.replicate m false).getD j false = false := fun m j => by
      rw [List.getD_eq_getElem?_getD, List.getElem?_replicate]; split <;> rfl
    rw [upB_get, hz, hz, hz, hz, hz]; rfl
theorem cnt_no (n : Nat) : cnt (List.replicate n false) = 0 := by simp [cnt, List.count_replicate]
theorem st_no (h : Nat) : ∀ n, st h (List.replicate n false) = 0 := by
  induction h with
  | zero => intro n; rfl
  | succ h ih => intro n; rw [st, upB_no, cnt_no, ih]
/-- The level above while it is being filled. -/
def upF (s : List Bool) : Nat → List Bool
  | 0 => List.replicate ((s.length + 3) / 4) false
  | k + 1 => if s.getD k false then (upF s k).set (k / 4) true else upF s k
theorem upF_length (s : List Bool) : ∀ k, (upF s k).length = (s.length + 3) / 4
  | 0 => by simp [upF]
  | k + 1 => by
    rw [upF]; split
    · rw [List.length_set, upF_length s k]
    · exact upF_length s k
theorem upF_get (s : List Bool) : ∀ (k : Nat), k ≤ s.length → ∀ j, (upF s k).getD j false = ((decide (4 * j < k) && s.getD (4 * j) false) || (decide (4 * j + 1 < k) && s.getD (4 * j + 1) false) || (decide (4 * j + 2 < k) && s.getD (4 * j + 2) false) || (decide (4 * j + 3 < k) && s.getD (4 * j + 3) false))
  | 0, _, j => by
    rw [upF, List.getD_eq_getElem?_getD, List.getElem?_replicate]
    rw [decide_eq_false (by omega), decide_eq_false (by omega), decide_eq_false (by omega), decide_eq_false (by omega)]
    split <;> rfl
  | k + 1, hk, j => by
    have ih := upF_get s k (by omega) j
    have hd : ∀ m, (decide (m < k + 1) && s.getD m false) = ((decide (m < k) && s.getD m false) || (decide (m = k) && s.getD k false)) := fun m => by
      by_cases h1 : m < k
      · rw [decide_eq_true h1, decide_eq_true (show m < k + 1 by omega), decide_eq_false (show ¬ m = k by omega)]; simp
      · by_cases h2 : m = k
        · subst h2; rw [decide_eq_false h1, decide_eq_true (show m < m + 1 by omega)]; simp
        · rw [decide_eq_false h1, decide_eq_false (show ¬ m < k + 1 by omega), decide_eq_false h2]; simp
    rw [hd, hd, hd, hd, upF]
    by_cases hs : s.getD k false = true
    · rw [if_pos hs, set_getD _ _ _ (by rw [upF_length]; omega), ih, hs]
      have hj : decide (j = k / 4) = (decide (4 * j = k) || decide (4 * j + 1 = k) || decide (4 * j + 2 = k) || decide (4 * j + 3 = k)) := by
        rw [Bool.eq_iff_iff]; simp; omega
      rw [hj]
      generalize decide (4 * j = k) = a
      generalize decide (4 * j + 1 = k) = b
      generalize decide (4 * j + 2 = k) = c
      generalize decide (4 * j + 3 = k) = d
      generalize (decide (4 * j < k) && s.getD (4 * j) false) = e
      generalize (decide (4 * j + 1 < k) && s.getD (4 * j + 1) false) = f
      generalize (decide (4 * j + 2 < k) && s.getD (4 * j + 2) false) = g
      generalize (decide (4 * j + 3 < k) && s.getD (4 * j + 3) false) = i
      revert a b c d e f g i; decide
    · rw [if_neg hs, ih]
      rw [Bool.not_eq_true] at hs
      rw [hs]; simp
theorem upF_all (s : List Bool) : upF s s.length = upB s := by
  apply ext_getD
  · rw [upF_length, upB_length]
  · intro k
    rw [upF_get s _ (Nat.le_refl _), upB_get]
    have hz : ∀ m, (decide (m < s.length) && s.getD m false) = s.getD m false := fun m => by
      by_cases h : m < s.length
      · rw [decide_eq_true h, Bool.true_and]
      · rw [decide_eq_false h, List.getD_eq_getElem?_getD, List.getElem?_eq_none (by omega)]; rfl
    rw [hz, hz, hz, hz]
theorem cnt_set_new (s : List Bool) : ∀ (i : Nat), i < s.length → s.getD i false = false → cnt (s.set i true) = cnt s + 1 := by
  induction s with
  | nil => intro i hi; simp at hi
  | cons b r ih =>
    intro i hi hf
    match i with
    | 0 => simp at hf; subst hf; simp [cnt]
    | i + 1 =>
      have := ih i (by simpa using hi) (by simpa using hf)
      simp only [cnt, List.set_cons_succ, List.count_cons] at this ⊢
      omega
theorem set_same (s : List Bool) (i : Nat) (h : s.getD i false = true) : s.set i true = s := by
  apply List.ext_getElem (by simp)
  intro k h1 h2
  rw [List.getElem_set]
  split
  · rename_i e
    subst e
    rw [List.getD_eq_getElem?_getD, List.getElem?_eq_getElem h2] at h
    exact h.symm
  · rfl
/-- One step of the count. -/
theorem upF_step (s : List Bool) (k : Nat) (hk : k < s.length) : cnt (upF s (k + 1)) = cnt (upF s k) + (if s.getD k false && !(upF s k).getD (k / 4) false then 1 else 0) := by
  rw [upF]
  by_cases hs : s.getD k false = true
  · rw [if_pos hs, hs, Bool.true_and]
    by_cases hu : (upF s k).getD (k / 4) false = true
    · rw [set_same _ _ hu, hu]; simp
    · rw [Bool.not_eq_true] at hu
      rw [cnt_set_new _ _ (by rw [upF_length]; omega) hu, hu]; simp
  · rw [if_neg hs]
    rw [Bool.not_eq_true] at hs
    rw [hs]; simp
end Mt
end Go.Proofs.YtepbnimheedodaaDoor
