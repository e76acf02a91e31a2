/-
  PLAIN (no program): the true tag of each node, and which nodes are stale, by level and index, chapter 9.
-/
import Derived.Test.YtepbnimheedodaaDoorNA
namespace Go.Proofs.YtepbnimheedodaaDoor
namespace Mt
open Mk
/-- How many nodes a level has. -/
def up (n : Nat) : Nat → Nat
  | 0 => n
  | j + 1 => (up n j + 3) / 4
/-- The tag of a node, zeros standing behind the places. -/
def tv (key : Tg) (l : List Tg) : Nat → Nat → Tg
  | 0, i => l.getD i zero
  | j + 1, i => node key [tv key l j (4 * i), tv key l j (4 * i + 1), tv key l j (4 * i + 2), tv key l j (4 * i + 3)]
theorem tv_32 (key : Tg) (l : List Tg) (h : ∀ t ∈ l, t.length = 32) : ∀ j i, (tv key l j i).length = 32
  | 0, i => by
    rw [tv, List.getD_eq_getElem?_getD]
    by_cases hi : i < l.length
    · rw [List.getElem?_eq_getElem hi]; exact h _ (List.getElem_mem hi)
    · rw [List.getElem?_eq_none (by omega)]; rfl
  | _ + 1, _ => node_length _ _
theorem four_of {α : Type} (d : α) (row : List α) (a : Nat) (h : a + 4 ≤ row.length) : (row.drop a).take 4 = [row.getD a d, row.getD (a + 1) d, row.getD (a + 2) d, row.getD (a + 3) d] := by
  apply List.ext_getElem?
  intro j
  have hlen : ((row.drop a).take 4).length = 4 := by simp; omega
  have e : ∀ k, k < 4 → ((row.drop a).take 4)[k]? = some (row.getD (a + k) d) := fun k hk => by
    rw [List.getElem?_take, if_pos hk, List.getElem?_drop, List.getD_eq_getElem?_getD, List.getElem?_eq_getElem (show a + k < row.length by omega)]; rfl
  match j with
  | 0 => exact e 0 (by omega)
  | 1 => exact e 1 (by omega)
  | 2 => exact e 2 (by omega)
  | 3 => exact e 3 (by omega)
  | j + 4 => rw [List.getElem?_eq_none (by omega), List.getElem?_eq_none (by simp)]
theorem tv_full (key : Tg) (l : List Tg) (h : Nat) (hl : l.length ≤ 4 ^ h) : ∀ j i, j ≤ h → i < 4 ^ (h - j) → (lev key (full l h) j).getD i [] = tv key l j i
  | 0, i, _, hi => by
    rw [Nat.sub_zero] at hi
    rw [lev, tv, full, List.getD_eq_getElem?_getD, List.getD_eq_getElem?_getD]
    by_cases hl2 : i < l.length
    · rw [List.getElem?_append_left hl2, List.getElem?_eq_getElem hl2]; rfl
    · rw [List.getElem?_append_right (by omega), List.getElem?_replicate, if_pos (by omega), List.getElem?_eq_none (by omega)]; rfl
  | j + 1, i, hj, hi => by
    have hp : 4 ^ (h - j) = 4 * 4 ^ (h - (j + 1)) := by rw [show h - j = (h - (j + 1)) + 1 by omega, Nat.pow_succ, Nat.mul_comm]
    have hrow : (lev key (full l h) j).length = 4 * 4 ^ (h - (j + 1)) := by rw [lev_length key _ h (full_length l h hl) j (by omega), hp]
    have e : (ups key (lev key (full l h) j))[i]? = some (node key (((lev key (full l h) j).drop (4 * i)).take 4)) := by
      rw [ups, List.getElem?_map, List.getElem?_range (by omega)]; rfl
    rw [lev, List.getD_eq_getElem?_getD, e, Option.getD_some, four_of [] _ _ (by omega), tv]
    rw [tv_full key l h hl j (4 * i) (by omega) (by omega), tv_full key l h hl j (4 * i + 1) (by omega) (by omega), tv_full key l h hl j (4 * i + 2) (by omega) (by omega), tv_full key l h hl j (4 * i + 3) (by omega) (by omega)]
theorem root_tv (key : Tg) (l : List Tg) (h : Nat) (hh : IsH l.length h) : root key l h = tv key l h 0 := by
  have hl : l.length ≤ 4 ^ h := by have := hh.2.1; rw [← pow_int] at this; omega
  rw [root, tv_full key l h hl h 0 (Nat.le_refl _) (by rw [Nat.sub_self]; exact Nat.one_pos)]
theorem tv_set (key : Tg) (l : List Tg) (i : Nat) (t : Tg) : ∀ j k, k ≠ i / 4 ^ j → tv key (l.set i t) j k = tv key l j k
  | 0, k, hk => by
    rw [Nat.pow_zero, Nat.div_one] at hk
    rw [tv, tv, List.getD_eq_getElem?_getD, List.getD_eq_getElem?_getD, List.getElem?_set_ne (fun e => hk e.symm)]
  | j + 1, k, hk => by
    have hd : i / 4 ^ (j + 1) = i / 4 ^ j / 4 := by rw [Nat.pow_succ, Nat.div_div_eq_div_mul]
    rw [hd] at hk
    rw [tv, tv, tv_set key l i t j (4 * k) (by omega), tv_set key l i t j (4 * k + 1) (by omega), tv_set key l i t j (4 * k + 2) (by omega), tv_set key l i t j (4 * k + 3) (by omega)]
/-- The nodes of a level that are stale. -/
def sl (s : List Bool) : Nat → List Bool
  | 0 => s
  | j + 1 => upB (sl s j)
theorem sl_length (s : List Bool) : ∀ j, (sl s j).length = up s.length j
  | 0 => rfl
  | j + 1 => by rw [sl, upB_length, sl_length s j, up]
theorem sl_up (s : List Bool) : ∀ j, sl (upB s) j = sl s (j + 1)
  | 0 => rfl
  | j + 1 => by show upB (sl (upB s) j) = upB (sl s (j + 1)); rw [sl_up s j]
theorem sl_set (s : List Bool) (i : Nat) (hi : i < s.length) : ∀ j, sl (s.set i true) j = (sl s j).set (i / 4 ^ j) true ∧ i / 4 ^ j < (sl s j).length
  | 0 => by rw [Nat.pow_zero, Nat.div_one]; exact ⟨rfl, hi⟩
  | j + 1 => by
    obtain ⟨h1, h2⟩ := sl_set s i hi j
    have hd : i / 4 ^ (j + 1) = i / 4 ^ j / 4 := by rw [Nat.pow_succ, Nat.div_div_eq_div_mul]
    rw [hd, sl, h1, upB_set _ _ h2]
    exact ⟨rfl, by rw [sl, upB_length]; omega⟩
theorem sl_no (n j k : Nat) : (sl (List.replicate n false) j).getD k false = false := by
  have e : sl (List.replicate n false) j = List.replicate (up n j) false := by
    induction j with
    | zero => rfl
    | succ j ih => rw [sl, ih, upB_no, up]
  rw [e, List.getD_eq_getElem?_getD, List.getElem?_replicate]; split <;> rfl
/-- Is that node stale? -/
def isK (h : Nat) (s : List Bool) (p : Nat × Nat) : Prop := 1 ≤ p.1 ∧ p.1 ≤ h ∧ (sl s p.1).getD p.2 false = true
theorem isK_lt {h : Nat} {s : List Bool} {p : Nat × Nat} (hp : isK h s p) : p.2 < up s.length p.1 := by
  rw [← sl_length]
  rcases Nat.lt_or_ge p.2 (sl s p.1).length with h1 | h1
  · exact h1
  · have := hp.2.2
    rw [List.getD_eq_getElem?_getD, List.getElem?_eq_none h1] at this
    cases this
theorem isK_set {h : Nat} {s : List Bool} {i : Nat} (hi : i < s.length) (p : Nat × Nat) : isK h (s.set i true) p ↔ isK h s p ∨ (1 ≤ p.1 ∧ p.1 ≤ h ∧ p.2 = i / 4 ^ p.1) := by
  obtain ⟨h1, h2⟩ := sl_set s i hi p.1
  unfold isK
  rw [h1, set_getD _ _ _ h2, Bool.or_eq_true, decide_eq_true_eq]
  constructor
  · rintro ⟨a, b, c | c⟩
    · exact .inr ⟨a, b, c⟩
    · exact .inl ⟨a, b, c⟩
  · rintro (⟨a, b, c⟩ | ⟨a, b, c⟩)
    · exact ⟨a, b, .inr c⟩
    · exact ⟨a, b, .inl c⟩
theorem isK_no (h n : Nat) (p : Nat × Nat) : ¬ isK h (List.replicate n false) p := fun hp => by have := hp.2.2; rw [sl_no] at this; cases this
/-- All stale nodes, level by level. -/
def trues (s : List Bool) : List Nat := (List.range s.length).filter fun k => s.getD k false
theorem trues_mem (s : List Bool) (k : Nat) : k ∈ trues s ↔ s.getD k false = true := by
  rw [trues, List.mem_filter, List.mem_range]
  constructor
  · exact fun h => h.2
  · intro h
    refine ⟨?_, h⟩
    rcases Nat.lt_or_ge k s.length with h1 | h1
    · exact h1
    · rw [List.getD_eq_getElem?_getD, List.getElem?_eq_none h1] at h; cases h
theorem trues_length (s : List Bool) : (trues s).length = cnt s := by
  have e : s = (List.range s.length).map fun k => s.getD k false := by
    apply List.ext_getElem (by simp)
    intro i h1 h2
    rw [List.getElem_map, List.getElem_range, List.getD_eq_getElem?_getD, List.getElem?_eq_getElem h1]; rfl
  rw [trues, cnt, ← List.countP_eq_length_filter, List.count]
  conv => rhs; rw [e]
  rw [List.countP_map]
  congr 1
  funext k
  simp
def allK (s : List Bool) : Nat → List (Nat × Nat)
  | 0 => []
  | h + 1 => allK s h ++ (trues (sl s (h + 1))).map fun k => (h + 1, k)
theorem allK_mem (s : List Bool) (h : Nat) (p : Nat × Nat) : p ∈ allK s h ↔ isK h s p := by
  induction h with
  | zero =>
    constructor
    · intro hp; cases hp
    · rintro ⟨a, b, _⟩; omega
  | succ h ih =>
    rw [allK, List.mem_append, ih, List.mem_map]
    constructor
    · rintro (⟨a, b, c⟩ | ⟨k, hk, rfl⟩)
      · exact ⟨a, by omega, c⟩
      · exact ⟨by show 1 ≤ h + 1; omega, Nat.le_refl _, (trues_mem _ _).1 hk⟩
    · rintro ⟨a, b, c⟩
      by_cases e : p.1 = h + 1
      · exact .inr ⟨p.2, (trues_mem _ _).2 (by rw [← e]; exact c), by rw [← e]⟩
      · exact .inl ⟨a, by omega, c⟩
theorem allK_nodup (s : List Bool) : ∀ h, (allK s h).Nodup
  | 0 => List.nodup_nil
  | h + 1 => by
    rw [allK, List.nodup_append]
    refine ⟨allK_nodup s h, ?_, ?_⟩
    · refine List.Pairwise.map _ (R := (· ≠ ·)) ?_ ((List.nodup_range).sublist List.filter_sublist)
      intro a b hab e
      injection e with _ e
      exact hab e
    · rintro a ha b hb rfl
      have h1 := ((allK_mem s h a).1 ha).2.1
      obtain ⟨k, _, rfl⟩ := List.mem_map.1 hb
      exact absurd h1 (by show ¬ h + 1 ≤ h; omega)
theorem st_succ (s : List Bool) : ∀ h, st (h + 1) s = st h s + cnt (sl s (h + 1)) := by
  intro h
  induction h generalizing s with
  | zero => simp [st, sl]
  | succ h ih =>
    rw [st, ih (upB s), st, sl_up]; omega
theorem allK_length (s : List Bool) : ∀ h, (allK s h).length = st h s
  | 0 => rfl
  | h + 1 => by rw [allK, List.length_append, List.length_map, trues_length, allK_length s h, st_succ]
theorem isK_count {h : Nat} {s : List Bool} {ks : List (Nat × Nat)} (hn : ks.Nodup) (hm : ∀ p, p ∈ ks ↔ isK h s p) : ks.length = st h s := by
  rw [← allK_length]
  exact ((List.perm_ext_iff_of_nodup hn (allK_nodup s h)).2 fun p => by rw [hm, allK_mem]).length_eq
/-- The widths of the levels. -/
theorem up_pow (n : Nat) : ∀ j, n ≤ 4 ^ j * up n j
  | 0 => by simp [up]
  | j + 1 => by
    have h1 := up_pow n j
    have h2 : up n j ≤ 4 * up n (j + 1) := by rw [up]; omega
    calc n ≤ 4 ^ j * up n j := h1
      _ ≤ 4 ^ j * (4 * up n (j + 1)) := Nat.mul_le_mul_left _ h2
      _ = 4 ^ (j + 1) * up n (j + 1) := by rw [Nat.pow_succ, Nat.mul_assoc]
theorem up_pos (n : Nat) (hn : 1 ≤ n) : ∀ j, 1 ≤ up n j
  | 0 => hn
  | j + 1 => by have := up_pos n hn j; rw [up]; omega
theorem up_le (n m : Nat) : ∀ j, n ≤ 4 ^ (j + m) → up n j ≤ 4 ^ m
  | 0, h => by rwa [Nat.zero_add] at h
  | j + 1, h => by
    have := up_le n (m + 1) j (by rwa [show j + (m + 1) = j + 1 + m by omega])
    rw [Nat.pow_succ] at this
    rw [up]; omega
theorem up_top {n h : Nat} (hn : 1 ≤ n) (hh : IsH n h) : up n h = 1 := by
  have hl : n ≤ 4 ^ h := by have := hh.2.1; rw [← pow_int] at this; omega
  have h1 := up_le n 0 h (by rwa [Nat.add_zero])
  have h2 := up_pos n hn h
  rw [Nat.pow_zero] at h1; omega
theorem up_small (n j : Nat) (hn : n ≤ 100) : up n j ≤ 100 := by
  induction j with
  | zero => exact hn
  | succ j ih => rw [up]; omega
theorem isH_four {n h : Nat} (hn : n ≤ 100) (hh : IsH n h) : 1 ≤ h ∧ h ≤ 4 := by
  refine ⟨hh.1, ?_⟩
  rcases hh.2.2 with e | e
  · omega
  · by_cases h5 : h ≤ 4
    · exact h5
    · have h6 : (4 : Nat) ^ 4 ≤ 4 ^ (h - 1) := Nat.pow_le_pow_right (by omega) (by omega)
      have e2 : (((4 ^ (h - 1) : Nat) : Int)) < n := by rw [pow_int]; exact e
      omega
end Mt
end Go.Proofs.YtepbnimheedodaaDoor
