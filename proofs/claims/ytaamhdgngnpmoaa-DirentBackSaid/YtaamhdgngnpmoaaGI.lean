/-
  THE CONTRACTS wanted of the program's dirent (layer 15).
-/
import Derived.Test.YtaamhdgngnpmoaaGD
namespace Go.Proofs.Ytaamhdgngnpmoaa
open Go.RowKit Dir

/-- Entries whose numbers are ints, whose names are no longer than a string may be. -/
def EnsOk (l : List En) : Prop := ∀ e ∈ l, e.n.length ≤ 9223372036854775807 ∧ -9223372036854775808 ≤ e.k ∧ e.k ≤ 9223372036854775807
structure DirC : Prop where
  name : ∀ (s : List UInt8) (w : World), s.length ≤ 9223372036854775807 → Calls Try.prog 10 #[.string (strB s)] w fun e w' => e = .returned (.int .i64 (nameE s)) ∧ Below w.heap.size w w'
  put : ∀ (l : List En) (v : Value) (w : World), l.length ≤ 1000 → EnsOk l → EntsAt w v l → Calls Try.prog 7 #[v] w fun e w' => ∃ r, e = .returned (.tuple #[r, .int .i64 (if fine l then 0 else 1)]) ∧ Hid (Arg w' r (if fine l then encL l else [])) ∧ Below w.heap.size w w'
  get : ∀ (b : List UInt8) (v : Value) (w : World), b.length ≤ 1000 → Arg w v b → Calls Try.prog 13 #[v] w fun e w' => ∃ r, e = .returned (.tuple #[r, .int .i64 (if okG b then 0 else 10)]) ∧ Hid (EntsHi w' w.heap.size r (getL b)) ∧ Below w.heap.size w w'
  find : ∀ (l : List En) (s : List UInt8) (v : Value) (w : World), l.length ≤ 1000 → EnsOk l → EntsAt w v l → Calls Try.prog 18 #[v, .string (strB s)] w fun e w' => e = .returned (.int .i64 (findE s l)) ∧ Below w.heap.size w w'
  drop : ∀ (l : List En) (i : Int) (v : Value) (w : World), l.length ≤ 1000 → EnsOk l → -9223372036854775808 ≤ i ∧ i ≤ 9223372036854775807 → EntsAt w v l → Calls Try.prog 16 #[v, .int .i64 i] w fun e w' => ∃ r, e = .returned r ∧ Hid (EntsHi w' w.heap.size r (dropE l i)) ∧ Below w.heap.size w w'
  names : ∀ (l : List En) (v : Value) (w : World), l.length ≤ 1000 → EnsOk l → EntsAt w v l → Calls Try.prog 17 #[v] w fun e w' => ∃ r, e = .returned r ∧ Hid (From w' r ((namesL l).map SB)) ∧ Below w.heap.size w w'
end Go.Proofs.Ytaamhdgngnpmoaa
