/-
  THE PROGRAM's merkle keeps the contracts that the laws lean on.
-/
import Derived.Test.YtnlbhbacedbdoaaDoorMYF
namespace Go.Proofs.YtnlbhbacedbdoaaDoor
theorem merkleAll : Merkle := ⟨height_holds, node_holds, root_holds, way_holds, wayBad_holds, check_holds⟩
end Go.Proofs.YtnlbhbacedbdoaaDoor
