/-
  PLAIN: a place's way leads from its tag to the root, and from no other one.
-/
import Derived.Test.YtnlbhbacedbdoaaDoorMO
namespace Go.Proofs.YtnlbhbacedbdoaaDoor
open Go.RowKit Mk
namespace Mk

def wayFrom (key : Tg) (R0 : List Tg) (p i j : Nat) : List (List Tg) := (List.range' i j).map fun i => fourAt (lev key R0 i) (p / 4 ^ i)
theorem fourAt_at (l : List Tg) (P : Nat) : (fourAt l P).getD (P % 4) [] = l.getD P [] := by
  rw [fourAt, List.getD_eq_getElem?_getD, List.getElem?_take, if_pos (by omega), List.getElem?_drop, List.getD_eq_getElem?_getD]
  congr 2
  omega
theorem ups_at (key : Tg) (l : List Tg) (P : Nat) (h : P / 4 < l.length / 4) : (ups key l).getD (P / 4) [] = node key (fourAt l P) := by
  rw [List.getD_eq_getElem?_getD, ups, List.getElem?_map, List.getElem?_range h]
  show node key ((l.drop (4 * (P / 4))).take 4) = _
  rw [fourAt, show 4 * (P / 4) = P - P % 4 by omega]
theorem lead_from (key : Tg) (R0 : List Tg) (h p : Nat) (hR : R0.length = 4 ^ h) (hp : p < 4 ^ h) : ∀ j i t, i + j = h → leads key (wayFrom key R0 p i j) (p / 4 ^ i) t ((lev key R0 h).getD 0 []) = decide (t = (lev key R0 i).getD (p / 4 ^ i) []) := by
  intro j
  induction j with
  | zero =>
    intro i t hi
    obtain rfl : i = h := by omega
    have h0 : p / 4 ^ i = 0 := Nat.div_eq_of_lt hp
    rw [h0]
    simp [wayFrom, leads]
  | succ j ih =>
    intro i t hi
    have hll := lev_length key R0 h hR i (by omega)
    have hP : p / 4 ^ i < 4 ^ (h - i) := by
      rw [Nat.div_lt_iff_lt_mul (Nat.pow_pos (by omega)), ← Nat.pow_add, show h - i + i = h by omega]
      exact hp
    have h4 : 4 ^ (h - i) = 4 * 4 ^ (h - (i + 1)) := by rw [show h - i = (h - (i + 1)) + 1 by omega, Nat.pow_succ]; omega
    have hd : p / 4 ^ i / 4 = p / 4 ^ (i + 1) := by rw [Nat.div_div_eq_div_mul, Nat.pow_succ]
    rw [wayFrom, List.range'_succ, List.map_cons, leads, fourAt_at, hd]
    have hi2 := ih (i + 1) (node key (fourAt (lev key R0 i) (p / 4 ^ i))) (by omega)
    rw [wayFrom] at hi2
    rw [hi2, ← hd, lev, ups_at key _ _ (by rw [hll]; omega)]
    simp [eq_comm]
theorem way_chk (key : Tg) (l : List Tg) (h p : Nat) (h1 : 1 ≤ h) (hl : l.length ≤ 4 ^ h) (hp : p < l.length) (t : Tg) : chk key (way key l h p) p t (root key l h) = decide (t = l.getD p []) := by
  have hw : way key l h p = wayFrom key (full l h) p 0 h := by rw [way, wayFrom, List.range_eq_range']
  have hne : way key l h p ≠ [] := by
    intro e
    have := congrArg List.length e
    rw [way, List.length_map, List.length_range] at this
    simp at this
    omega
  have hL := lead_from key (full l h) h p (full_length l h hl) (by omega) h 0 t (by omega)
  rw [chk, decide_eq_true hne, decide_eq_true (by omega : (0 : Int) ≤ (p : Int)), hw, root, Int.toNat_natCast]
  simp only [Bool.true_and]
  rw [Nat.pow_zero, Nat.div_one] at hL
  rw [hL]
  congr 2
  rw [lev, full, List.getD_eq_getElem?_getD, List.getElem?_append_left hp, ← List.getD_eq_getElem?_getD]
theorem way_length (key : Tg) (l : List Tg) (h p : Nat) : (way key l h p).length = h := by rw [way, List.length_map, List.length_range]
end Mk
end Go.Proofs.YtnlbhbacedbdoaaDoor
