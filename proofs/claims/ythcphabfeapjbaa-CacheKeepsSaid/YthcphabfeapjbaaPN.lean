/-
  A SLICE OF DEEDS (of layer 10): what is done, a block's number, bytes.
-/
import Derived.Test.YthcphabfeapjbaaPM
namespace Go.Proofs.Ythcphabfeapjbaa
open Go.RowKit Ca

structure CDeed where
  what : Int
  i : Int
  v : Value
  b : List UInt8
def CDeed.cells (d : CDeed) : List Value := [.int .i64 d.what, .int .i64 d.i, d.v]
structure CDeed.ok (w : World) (d : CDeed) : Prop where
  arg : Arg w d.v d.b
  lo : -9223372036854775808 ≤ d.what
  hi : d.what ≤ 9223372036854775807
  at_ : In64 d.i
def CDeeds (w : World) (v : Value) (l : List CDeed) : Prop :=
  ∃ A cap, v = .slice A l.length cap ∧ (0 < l.length → ∃ b o, A = some ⟨b, o, none⟩ ∧ b < w.heap.size ∧ ∀ (j : Nat) (d : CDeed), l[j]? = some d → Sees w b (o + j * 3) d.cells) ∧ ∀ d ∈ l, d.ok w
theorem CDeed.ok.below {w W : World} {d : CDeed} (h : d.ok w) (hb : Below w.heap.size w W) : d.ok W := ⟨h.arg.below hb, h.lo, h.hi, h.at_⟩
end Go.Proofs.Ythcphabfeapjbaa
