/-
  ALL THAT IS WANTED OF THE PROGRAM holds.
-/
import Derived.Test.YtcpdhfgigopfoaaIE
import Derived.Test.YtcpdhfgigopfoaaIY
namespace Go.Proofs.Ytcpdhfgigopfoaa
open Go.RowKit Cdc Inn

theorem inodeAll : InC where
  need := fun n w hi _ => (InNeed_any n hi w).mono fun e w' h => ⟨h.1, by rw [h.2]; exact Below.refl _ _⟩
  may := fun x w hf => InMay_any x hf w
  put := fun x w hf => InPut_any x hf w
  get := fun b v w _ h => InGet_any b v w h
end Go.Proofs.Ytcpdhfgigopfoaa
