/-
  THE LIBRARY'S slices.IndexFunc at entries, laid at this program: its bodies are theirs, number by number.
-/
import Derived.Test.YtaamhdgngnpmoaaProg
import Derived.Shelf.SlicesQ.IndexFunc
namespace Go.Proofs
open Go.Shelf

def Try.indexLay_ren : Go.Shelf.Ren := ⟨fun | 6 => 30 | n => n, fun | 22 => 22 | 23 => 26 | 25 => 63 | 3 => 3 | 0 => 0 | 4 => 4 | n => n, fun  | n => n⟩
theorem Try.indexLay : SlLaysH0.n6 Try.prog Try.indexLay_ren := {
  mixed := by kernel_rfl
  f6 := ⟨Try.f30.name, by decide, Try.func30.trans (congrArg some (by kernel_rfl))⟩
  t0 := Try.underlying0
  a0 := Try.isAgg0
  z0 := Try.sizeOf0
  v0 := Try.zeroValue0
  t3 := Try.underlying3
  a3 := Try.isAgg3
  z3 := Try.sizeOf3
  v3 := Try.zeroValue3
  t4 := Try.underlying4
  a4 := Try.isAgg4
  z4 := Try.sizeOf4
  v4 := Try.zeroValue4
  t22 := Try.underlying22
  a22 := Try.isAgg22
  z22 := Try.sizeOf22
  v22 := Try.zeroValue22
  t25 := Try.underlying63
  a25 := Try.isAgg63
  z25 := Try.sizeOf63
  v25 := Try.zeroValue63
}

end Go.Proofs
