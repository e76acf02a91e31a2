/-
  PLAIN (no program): nodes, heights, rows, ways of chapter 8.
-/
import Derived.Test.YtepbnimheedodaaDoorHmTI
import Derived.Test.YtepbnimheedodaaDoorHmTK
import Derived.Test.YtepbnimheedodaaDoorO
namespace Go.Proofs.YtepbnimheedodaaDoor
theorem hm_arg {w : World} {v : Value} {bs : List UInt8} : Hm.Arg w v bs ↔ Arg w v bs := Iff.rfl
theorem hm_vec {n : Nat} {bs : List UInt8} {rs : List Value} : Hm.Vec n bs rs ↔ Vec n bs rs := Iff.rfl
theorem hm_own {w : World} {B : Nat} {e : TypeId} {v : Value} {ys : List Value} : Hm.Own w B e v ys ↔ Own w B e v ys := Iff.rfl

namespace Mk
abbrev Tg := List UInt8
def nodeW : Tg := [110, 111, 100, 101]
def zero : Tg := List.replicate 32 0
def node (key : Tg) (four : List Tg) : Tg := Hm.mac key (Hm.joined (nodeW :: four))
theorem node_length (key : Tg) (four : List Tg) : (node key four).length = 32 := Hm.mac_length _ _
/-- The height of so many. -/
def IsH (m : Int) (h : Nat) : Prop := 1 ≤ h ∧ m ≤ 4 ^ h ∧ (h = 1 ∨ (4 : Int) ^ (h - 1) < m)
theorem pow_int (h : Nat) : ((4 ^ h : Nat) : Int) = (4 : Int) ^ h := by simp
theorem IsH.unique {m : Int} {h k : Nat} (a : IsH m h) (b : IsH m k) : h = k := by
  have mono : ∀ {i j : Nat}, i ≤ j → (4 : Int) ^ i ≤ 4 ^ j := fun {i j} hij => by
    rw [← pow_int, ← pow_int]
    exact_mod_cast Nat.pow_le_pow_right (by omega) hij
  obtain ⟨a1, a2, a3⟩ := a
  obtain ⟨b1, b2, b3⟩ := b
  rcases Nat.lt_trichotomy h k with hlt | e | hlt
  · rcases b3 with b3 | b3
    · omega
    · have := mono (show h ≤ k - 1 by omega)
      omega
  · exact e
  · rcases a3 with a3 | a3
    · omega
    · have := mono (show k ≤ h - 1 by omega)
      omega
/-- The row above a row, and a row i levels above. -/
def ups (key : Tg) (l : List Tg) : List Tg := (List.range (l.length / 4)).map fun i => node key ((l.drop (4 * i)).take 4)
theorem ups_length (key : Tg) (l : List Tg) : (ups key l).length = l.length / 4 := by simp [ups]
def lev (key : Tg) (l : List Tg) : Nat → List Tg
  | 0 => l
  | i + 1 => ups key (lev key l i)
theorem lev_length (key : Tg) (l : List Tg) (h : Nat) (hl : l.length = 4 ^ h) : ∀ i, i ≤ h → (lev key l i).length = 4 ^ (h - i)
  | 0, _ => hl
  | i + 1, hi => by
    rw [lev, ups_length, lev_length key l h hl i (by omega), show h - i = (h - (i + 1)) + 1 by omega, Nat.pow_succ, Nat.mul_div_cancel _ (by omega)]
theorem ups_short (key : Tg) (l : List Tg) : ∀ t ∈ ups key l, t.length = 32 := fun t ht => by
  obtain ⟨i, _, rfl⟩ := List.mem_map.1 ht
  exact node_length _ _
/-- A row with its zeros. -/
def full (l : List Tg) (h : Nat) : List Tg := l ++ List.replicate (4 ^ h - l.length) zero
theorem full_length (l : List Tg) (h : Nat) (hl : l.length ≤ 4 ^ h) : (full l h).length = 4 ^ h := by simp [full]; omega
theorem full_32 (l : List Tg) (h : Nat) (h32 : ∀ t ∈ l, t.length = 32) : ∀ t ∈ full l h, t.length = 32 := fun t ht => by
  rcases List.mem_append.1 ht with h1 | h1
  · exact h32 t h1
  · rw [List.eq_of_mem_replicate h1]; rfl
theorem lev_32 (key : Tg) (l : List Tg) (h32 : ∀ t ∈ l, t.length = 32) : ∀ i, ∀ t ∈ lev key l i, t.length = 32
  | 0 => h32
  | _ + 1 => ups_short key _
def root (key : Tg) (l : List Tg) (h : Nat) : Tg := (lev key (full l h) h).getD 0 []
/-- The four of a place in a row. -/
def fourAt (l : List Tg) (p : Nat) : List Tg := (l.drop (p - p % 4)).take 4
def way (key : Tg) (l : List Tg) (h place : Nat) : List (List Tg) := (List.range h).map fun i => fourAt (lev key (full l h) i) (place / 4 ^ i)
/-- Does a row of fours lead from a tag, at a place, to a root? -/
def leads (key : Tg) : List (List Tg) → Nat → Tg → Tg → Bool
  | [], p, leaf, rt => decide (p = 0) && decide (leaf = rt)
  | f :: r, p, leaf, rt => decide (f.getD (p % 4) [] = leaf) && leads key r (p / 4) (node key f) rt
/-- Check, as the chapter has it. -/
def chk (key : Tg) (w : List (List Tg)) (place : Int) (leaf rt : Tg) : Bool := decide (0 ≤ place) && decide (w ≠ []) && leads key w place.toNat leaf rt
end Mk
end Go.Proofs.YtepbnimheedodaaDoor
