/-
  ONE LEMMA of XMM.
-/
import Derived.Test.YtepbnimheedodaaDoorML
namespace Go.Proofs.YtepbnimheedodaaDoor
open Go.RowKit Mk
theorem flat_length (f : List Tg) (h4 : f.length = 4) (h32 : ∀ t ∈ f, t.length = 32) : f.flatten.length = 128 := by
  match f, h4 with
  | [a, b, c, d], _ =>
    have ha := h32 a (by simp)
    have hb := h32 b (by simp)
    have hc := h32 c (by simp)
    have hd := h32 d (by simp)
    simp only [List.flatten_cons, List.flatten_nil, List.length_append, List.length_nil]
    omega
end Go.Proofs.YtepbnimheedodaaDoor
