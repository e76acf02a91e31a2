/-
  PLAIN: what the example of the laws of layer 7 comes to: the first byte of its tag is 202, so the tag is not all zeros.
-/
import Derived.Test.YtfodblgoamkgmaaDoorSA
namespace Go.Proofs.YtfodblgoamkgmaaDoor
open Aes Ctr
namespace Sl
def secretW : List UInt8 := [115, 101, 99, 114, 101, 116]
set_option maxRecDepth 1000000 in
theorem known_head : (tg (macK secretW) 3 (rw_ (encK secretW) 3 5 (List.replicate 64 0)))[0]? = some 202 := by decide +kernel
end Sl
end Go.Proofs.YtfodblgoamkgmaaDoor
