/-
  THE LIBRARY'S slices.IndexFunc, laid at this program: its bodies are theirs, number by number.
-/
import Derived.Test.YthcphabfeapjbaaProg
import Derived.Shelf.SlicesQ.IndexFunc
namespace Go.Proofs
open Go.Shelf

def Try.indexLay_ren : Go.Shelf.Ren := ⟨fun | 6 => 37 | n => n, fun | 22 => 55 | 23 => 68 | 25 => 75 | 3 => 3 | 0 => 0 | 4 => 4 | n => n, fun  | n => n⟩
theorem Try.indexLay : SlLaysH0.n6 Try.prog Try.indexLay_ren := {
  mixed := by kernel_rfl
  f6 := ⟨Try.f37.name, by decide, Try.func37.trans (congrArg some (by kernel_rfl))⟩
  t0 := Try.underlying0
  a0 := Try.isAgg0
  z0 := Try.sizeOf0
  v0 := Try.zeroValue0
  t3 := Try.underlying3
  a3 := Try.isAgg3
  z3 := Try.sizeOf3
  v3 := Try.zeroValue3
  t4 := Try.underlying4
  a4 := Try.isAgg4
  z4 := Try.sizeOf4
  v4 := Try.zeroValue4
  t22 := Try.underlying55
  a22 := Try.isAgg55
  z22 := Try.sizeOf55
  v22 := Try.zeroValue55
  t25 := Try.underlying75
  a25 := Try.isAgg75
  z25 := Try.sizeOf75
  v25 := Try.zeroValue75
}

end Go.Proofs
