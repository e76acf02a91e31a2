/-
  PLAIN: the digest of no bytes.
-/
import Derived.Test.YtcmledlghipcbaaDoorR
namespace Go.Proofs.YtcmledlghipcbaaDoor
namespace Sha
set_option maxRecDepth 100000
theorem none_digest : bytesOf (sumSt K0 []).list = [227, 176, 196, 66, 152, 252, 28, 20, 154, 251, 244, 200, 153, 111, 185, 36, 39, 174, 65, 228, 100, 155, 147, 76, 164, 149, 153, 27, 120, 82, 184, 85] := by decide +kernel
end Sha
end Go.Proofs.YtcmledlghipcbaaDoor
