/-
  WHAT THE LAWS OF LAYER 10 LEAN ON: the contracts of the program's functions (each is shown in its own text), over any account C of how a cache lies. The quotient of two small numbers as float64.
-/
import Derived.Test.YthcphabfeapjbaaPH
namespace Go.Proofs.Ythcphabfeapjbaa
open Go.RowKit Ca

def fq (h g : Nat) : Option Nat := FloatKind.f64.format.div (FloatKind.f64.nearest (h : Int)) (FloatKind.f64.nearest (g : Int))
def fqOk (h g : Nat) : Bool := match fq h g with
  | some r => FloatKind.f64.format.order r r == some .eq
  | none => false
theorem fq_all : ((List.range 121).all fun g => (List.range (g + 1)).all fun h => g == 0 || fqOk h g) = true := by kernel_rfl
theorem fq_ok {h g : Nat} (h1 : h ≤ g) (h2 : 0 < g) (h3 : g ≤ 120) : ∃ r, fq h g = some r ∧ FloatKind.f64.format.order r r = some .eq := by
  have := List.all_eq_true.1 (List.all_eq_true.1 fq_all g (by simp; omega)) h (by simp; omega)
  simp only [Bool.or_eq_true, beq_iff_eq] at this
  rcases this with e | e
  · omega
  · unfold fqOk at e
    cases hq : fq h g with
    | none => rw [hq] at e; cases e
    | some r => rw [hq] at e; exact ⟨r, rfl, by simpa using e⟩
end Go.Proofs.Ythcphabfeapjbaa
