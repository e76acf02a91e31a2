/-
  THE CONTRACTS of the cache, over any account C of how it lies (each is shown of the program in its own text).
-/
import Derived.Test.YthcphabfeapjbaaPI
namespace Go.Proofs.Ythcphabfeapjbaa
open Go.RowKit Ca

/-- C w F D sh room q s: at D lies a cache of sh shards with room for room entries in the blocks F: s; nothing is counted beyond q. -/
abbrev Cach := World → (Nat → Prop) → Nat → Nat → Nat → Nat → St → Prop
def AfterC (C : Cach) (w : World) (F : Nat → Prop) (w' : World) (D sh room q : Nat) (s : St) : Prop :=
  ∃ F', C w' F' D sh room q s ∧ (∀ k, F' k → F k ∨ w.heap.size ≤ k) ∧ Chg (fun k _ => F k) w w'
def In64 (i : Int) : Prop := -9223372036854775808 ≤ i ∧ i ≤ 9223372036854775807
def NotNum (v : Value) : Prop := ∃ x, v = .float .f64 x ∧ FloatKind.f64.format.order x x = none
structure CacheC (C : Cach) : Prop where
  lt : ∀ {w F D sh room q s}, C w F D sh room q s → ∀ k, F k → k < w.heap.size
  mono : ∀ {w F D sh room q q' s}, C w F D sh room q s → q ≤ q' → C w F D sh room q' s
  stay : ∀ {w F D sh room q s w' X}, C w F D sh room q s → Chg X w w' → (∀ k o, F k → ¬ X k o) → C w' F D sh room q s
  newBad : ∀ (a b : Int) (w : World), In64 a → In64 b → (a < 1 ∨ 64 < a ∨ b < 1 ∨ 64 < b) → Calls Try.prog 6 #[.int .i64 a, .int .i64 b] w fun e w' => e = .returned (.tuple #[.pointer none, .int .i64 1]) ∧ Below w.heap.size w w'
  newOk : ∀ (sh room : Nat) (w : World), 1 ≤ sh ∧ sh ≤ 64 → 1 ≤ room ∧ room ≤ 64 → Calls Try.prog 6 #[.int .i64 (sh : Int), .int .i64 (room : Int)] w fun e w' =>
    ∃ D F, e = .returned (.tuple #[.pointer (some ⟨D, 0, none⟩), .int .i64 0]) ∧ C w' F D sh room 0 (new sh room) ∧ (∀ k, F k → w.heap.size ≤ k) ∧ Below w.heap.size w w'
  put : ∀ {w F D sh room q s}, C w F D sh room q s → q ≤ 1000000 → ∀ (i : Int) (v : Value) (bs : List UInt8), In64 i → bs.length ≤ 1000 → Arg w v bs → Calls Try.prog 9 #[.pointer (some ⟨D, 0, none⟩), .int .i64 i, v] w fun e w' =>
    e = .returned (.bool (put sh room s i bs).2) ∧ AfterC C w F w' D sh room q (put sh room s i bs).1
  get : ∀ {w F D sh room q s}, C w F D sh room q s → q ≤ 1000000 → ∀ (i : Int), In64 i → Calls Try.prog 11 #[.pointer (some ⟨D, 0, none⟩), .int .i64 i] w fun e w' =>
    ∃ v F', e = .returned (.tuple #[v, .bool (getC s i).2.2]) ∧ Own w' w.heap.size 5 v ((getC s i).2.1.map V8) ∧ (∀ k, v.ownBlock = some k → ¬ F' k) ∧ C w' F' D sh room (q + 1) (getC s i).1 ∧ (∀ k, F' k → F k ∨ w.heap.size ≤ k) ∧ Chg (fun k _ => F k) w w'
  pin : ∀ {w F D sh room q s}, C w F D sh room q s → q ≤ 1000000 → ∀ (i : Int), In64 i → Calls Try.prog 13 #[.pointer (some ⟨D, 0, none⟩), .int .i64 i] w fun e w' => e = .returned (.bool (pin s i).2) ∧ AfterC C w F w' D sh room (q + 1) (pin s i).1
  unpin : ∀ {w F D sh room q s}, C w F D sh room q s → q ≤ 1000000 → ∀ (i : Int), In64 i → Calls Try.prog 15 #[.pointer (some ⟨D, 0, none⟩), .int .i64 i] w fun e w' => e = .returned (.bool (unpin s i).2) ∧ AfterC C w F w' D sh room q (unpin s i).1
  drop : ∀ {w F D sh room q s}, C w F D sh room q s → q ≤ 1000000 → ∀ (i : Int), In64 i → Calls Try.prog 16 #[.pointer (some ⟨D, 0, none⟩), .int .i64 i] w fun e w' => e = .returned (.bool (drop s i).2) ∧ AfterC C w F w' D sh room q (drop s i).1
  has : ∀ {w F D sh room q s}, C w F D sh room q s → Calls Try.prog 19 #[.pointer (some ⟨D, 0, none⟩)] w fun e w' => ∃ v, e = .returned v ∧ Hid (Own w' w.heap.size 3 v ((hasL s.L).map VC)) ∧ Below w.heap.size w w'
  rate : ∀ {w F D sh room q s}, C w F D sh room q s → s.hits ≤ s.gets → s.gets ≤ 1000 → Calls Try.prog 21 #[.pointer (some ⟨D, 0, none⟩)] w fun e w' =>
    ∃ v, e = .returned v ∧ (s.gets = 0 → NotNum v) ∧ (0 < s.gets → ∃ r, fq s.hits s.gets = some r ∧ v = .float .f64 r) ∧ Below w.heap.size w w'
  rateNil : ∀ (w : World), Calls Try.prog 21 #[.pointer none] w fun e w' => ∃ v, e = .returned v ∧ NotNum v ∧ Below w.heap.size w w'
end Go.Proofs.Ythcphabfeapjbaa
