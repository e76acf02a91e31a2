/-
  THE PROGRAM's four functions keep what the laws want of them.
-/
import Derived.Test.YtoblnmmbcdokgaaFR
namespace Go.Proofs.Ytoblnmmbcdokgaa
open Go.RowKit Bm

theorem bitmapAll : BitC where
  get := fun b i v w hl hi h => (BmGet_any b i v w (by omega) hi h).mono fun _ _ ⟨he, hw⟩ => ⟨he, hw ▸ Below.refl _ _⟩
  set := fun b i on v w hl hi h => BmSet_any b i on v w (by omega) hi h
  count := fun b f t v w hl hf ht h => BmCount_any b f t v w (by omega) hf ht h
  first := fun b f t v w hl hf ht h => BmFirst_any b f t v w (by omega) hf ht h
end Go.Proofs.Ytoblnmmbcdokgaa
