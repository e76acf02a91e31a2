/-
  HOW THE LAW's apart COUNTS: its row of counts, and what lies beside it.
-/
import Derived.Test.YtiafmghdiidniaaLF
import Derived.Test.YtiafmghdiidniaaLE
import Derived.Test.YtiafmghdiidniaaFBA
namespace Go.Proofs.Ytiafmghdiidniaa
open Go.RowKit Cdc Inn Fil

/-- How often each number below 200 is met. -/
def metL (T : List Nat) : List Int := (List.range 200).map fun i => (T.count i : Int)
theorem metL_length (T : List Nat) : (metL T).length = 200 := by simp [metL]
theorem metL_at (T : List Nat) (i : Nat) (hi : i < 200) : (metL T).getD i 0 = (T.count i : Int) := by
  rw [metL, List.getD_eq_getElem?_getD, List.getElem?_map, List.getElem?_range hi]; rfl
theorem metL_put (T : List Nat) (a : Nat) (ha : a < 200) : (metL T).set a ((T.count a : Int) + 1) = metL (T ++ [a]) := by
  apply List.ext_getElem?
  intro i
  rw [List.getElem?_set, metL_length]
  unfold metL
  rw [List.getElem?_map, List.getElem?_map]
  rcases Nat.lt_or_ge i 200 with hi | hi
  · rw [List.getElem?_range hi, Option.map_some, Option.map_some]
    by_cases h : a = i
    · subst h
      rw [if_pos rfl, if_pos hi, List.count_append]
      simp
    · rw [if_neg h, List.count_append]
      have : [a].count i = 0 := List.count_eq_zero.2 (by simp; exact fun e => h e.symm)
      rw [this]
      rfl
  · rw [List.getElem?_eq_none (by simpa using hi)]
    rw [if_neg (by omega : ¬ a = i)]
    rfl
theorem metL_first (i : Nat) (hi : i < 200) : (metL (List.range i)).set i 1 = metL (List.range (i + 1)) := by
  have := metL_put (List.range i) i hi
  rw [List.count_eq_zero.2 (by simp), ← List.range_succ] at this
  exact this
theorem metL_nil : metL [] = List.replicate 200 0 := by
  unfold metL
  rw [List.eq_replicate_iff]
  simp

theorem atBo0 {w : World} {b : Nat} {l : List Bool} (h : Sees w b 0 (l.map Value.bool)) (i : Nat) (hi : i < l.length) : w.cell? ⟨b, i, none⟩ = some (.bool (l.getD i false)) := by
  have : (l.map Value.bool)[i]? = some (.bool (l.getD i false)) := by rw [List.getElem?_map, List.getElem?_eq_getElem hi]; simp [hi]
  have := h.at_ this
  rwa [Nat.zero_add] at this
/-- Inodes as cells. -/
def inosC (l : List Ino) : List Value := l.flatMap fun x => x.l.map VI
theorem inosC_length (l : List Ino) : (inosC l).length = 7 * l.length := by
  induction l with
  | nil => rfl
  | cons x l ih =>
    rw [inosC, List.flatMap_cons, List.length_append, List.length_map, l_len, List.length_cons]
    have : (List.flatMap (fun x => List.map VI x.l) l).length = 7 * l.length := ih
    omega
theorem inosC_at (l : List Ino) : ∀ (i j : Nat) (x : Ino), l[i]? = some x → j < 7 → (inosC l)[7 * i + j]? = some (VI (x.l.getD j 0)) := by
  induction l with
  | nil => intro i j x h; simp at h
  | cons y l ih =>
    intro i j x h hj
    rw [inosC, List.flatMap_cons]
    cases i with
    | zero =>
      simp only [List.getElem?_cons_zero, Option.some.injEq] at h
      subst h
      rw [Nat.mul_zero, Nat.zero_add, List.getElem?_append_left (by rw [List.length_map, l_len]; exact hj), List.getElem?_map, List.getD_eq_getElem?_getD, List.getElem?_eq_getElem (by rw [l_len]; exact hj)]
      rfl
    | succ i =>
      rw [List.getElem?_append_right (by rw [List.length_map, l_len]; omega), List.length_map, l_len, show 7 * (i + 1) + j - 7 = 7 * i + j by omega]
      exact ih i j x (by simpa using h) hj

/-- What lies while apart counts: the geometry, the row of counts, the bits. -/
structure Apt (w wr : World) (gb mb bb : Nat) (n k : Int) (bits : List Bool) (T : List Nat) : Prop where
  geo : Row wr gb 23 [.int .i64 n, .int .i64 k]
  met : Row wr mb 3 ((metL T).map VI)
  bit : Sees wr bb 0 (bits.map Value.bool)
  bel : Below w.heap.size w wr
  gm : gb ≠ mb
  bm : bb ≠ mb
  mw : w.heap.size ≤ mb
  bl : bb < wr.heap.size
section
variable {w wr wr' : World} {gb mb bb : Nat} {n k : Int} {bits : List Bool} {T : List Nat}
theorem Apt.below (h : Apt w wr gb mb bb n k bits T) (hb : Below wr.heap.size wr wr') : Apt w wr' gb mb bb n k bits T :=
  ⟨h.geo.below hb h.geo.lt, h.met.below hb h.met.lt, h.bit.below hb h.bl, h.bel.trans (hb.mono h.bel.size), h.gm, h.bm, h.mw, Nat.lt_of_lt_of_le h.bl hb.size⟩
theorem Apt.drewN (h : Apt w wr gb mb bb n k bits T) (j : Nat) : Apt w (wr.drewN j) gb mb bb n k bits T := ⟨h.geo.drewN j, h.met.drewN j, h.bit.drewN j, below_drewN h.bel j, h.gm, h.bm, h.mw, h.bl⟩
theorem Apt.store (h : Apt w wr gb mb bb n k bits T) (a : Nat) (z : Int) {T' : List Nat} (hT : (metL T).set a z = metL T') : Apt w (wr.setCell ⟨mb, a, none⟩ (.int .i64 z)) gb mb bb n k bits T' := by
  refine ⟨h.geo.apart h.gm _, ?_, h.bit.setCell h.bm _, h.bel.setCell h.mw _, h.gm, h.bm, h.mw, by simpa [World.setCell] using h.bl⟩
  have := h.met.set a (VI z)
  rwa [← List.map_set, hT] at this
theorem Apt.cell (h : Apt w wr gb mb bb n k bits T) (i : Nat) (hi : i < 200) : wr.cell? ⟨mb, i, none⟩ = some (.int .i64 (T.count i : Int)) := by
  have := rowI h.met i (by rw [metL_length]; exact hi)
  rwa [metL_at T i hi] at this
end
end Go.Proofs.Ytiafmghdiidniaa
