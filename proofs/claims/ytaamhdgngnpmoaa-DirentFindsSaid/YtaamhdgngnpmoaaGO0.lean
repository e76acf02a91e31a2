/-
  THE LIBRARY'S strings.ContainsAny, laid at this program: its bodies are theirs, number by number.
-/
import Derived.Test.YtaamhdgngnpmoaaProg
import Derived.Shelf.Strings.IndexAnyAll
namespace Go.Proofs
open Go.Shelf

def Try.anyLay_ren : Go.Shelf.Ren := ⟨fun | 150 => 24 | 153 => 32 | 152 => 36 | 226 => 37 | 227 => 38 | 228 => 39 | 137 => 51 | 119 => 52 | 224 => 53 | 225 => 54 | 217 => 61 | 266 => 63 | n => n, fun | 9 => 9 | 4 => 4 | 3 => 3 | 5 => 5 | 21 => 21 | 117 => 77 | 116 => 76 | 0 => 0 | 46 => 72 | 124 => 95 | n => n, fun  | n => n⟩
theorem Try.anyLay : Lays.n150 Try.prog Try.anyLay_ren := {
  mixed := by kernel_rfl
  f119 := Try.func52.trans (congrArg some (by kernel_rfl))
  f137 := Try.func51.trans (congrArg some (by kernel_rfl))
  f150 := Try.func24.trans (congrArg some (by kernel_rfl))
  f152 := Try.func36.trans (congrArg some (by kernel_rfl))
  f153 := Try.func32.trans (congrArg some (by kernel_rfl))
  f217 := Try.func61.trans (congrArg some (by kernel_rfl))
  f224 := Try.func53.trans (congrArg some (by kernel_rfl))
  f225 := Try.func54.trans (congrArg some (by kernel_rfl))
  f226 := Try.func37.trans (congrArg some (by kernel_rfl))
  f227 := Try.func38.trans (congrArg some (by kernel_rfl))
  f228 := Try.func39.trans (congrArg some (by kernel_rfl))
  f266 := Try.func63.trans (congrArg some (by kernel_rfl))
  t0 := Try.underlying0
  a0 := Try.isAgg0
  z0 := Try.sizeOf0
  v0 := Try.zeroValue0
  t3 := Try.underlying3
  a3 := Try.isAgg3
  z3 := Try.sizeOf3
  v3 := Try.zeroValue3
  t4 := Try.underlying4
  a4 := Try.isAgg4
  z4 := Try.sizeOf4
  v4 := Try.zeroValue4
  t5 := Try.underlying5
  a5 := Try.isAgg5
  z5 := Try.sizeOf5
  v5 := Try.zeroValue5
  t9 := Try.underlying9
  a9 := Try.isAgg9
  z9 := Try.sizeOf9
  v9 := Try.zeroValue9
  t21 := Try.underlying21
  a21 := Try.isAgg21
  z21 := Try.sizeOf21
  v21 := Try.zeroValue21
  t46 := Try.underlying72
  a46 := Try.isAgg72
  z46 := Try.sizeOf72
  v46 := Try.zeroValue72
  t116 := Try.underlying76
  a116 := Try.isAgg76
  z116 := Try.sizeOf76
  t117 := Try.underlying77
  a117 := Try.isAgg77
  z117 := Try.sizeOf77
  v117 := Try.zeroValue77
  t124 := Try.underlying95
  a124 := Try.isAgg95
  z124 := Try.sizeOf95
  v124 := Try.zeroValue95
}

end Go.Proofs
