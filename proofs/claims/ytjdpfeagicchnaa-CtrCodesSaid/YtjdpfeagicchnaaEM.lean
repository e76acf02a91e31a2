/-
  WHAT THE READING OF AN ARGUMENT OF 16 BYTES GIVES; a world for the witness.
-/
import Derived.Test.YtjdpfeagicchnaaEJ
import Derived.WalkKit
import Derived.ProofKit
import Derived.OpenShut
import Derived.ChangeOld
import Derived.Deep.DeepHandedRow
import Derived.WideKeyArr2
import Derived.LaidLaws
namespace Go.Proofs.Ytjdpfeagicchnaa
open Go.ChangeShapes Go.WideShapes Go.ChangeAt Go.RowKit Aes

theorem ownK : ownKnob Try.prog.godebug = none := by kernel_rfl
theorem laidOut : laidOutB Try.prog = true := by kernel_rfl
theorem cells8 : Try.prog.cellsOf 5 = 1 := by kernel_rfl
theorem cells16 : Try.prog.cellsOf 22 = 16 := by kernel_rfl

theorem okWide_16 {W : World} {r : Reach} {b0 : Nat} {v : Value} (h : Value.okWide Try.prog W r b0 22 v) : ∃ xs : Array Value, v = .agg xs ∧ xs.size = 16 := by
  simp only [Value.okWide, Try.underlying22] at h
  obtain ⟨cs, h1, h2, _⟩ := h
  exact ⟨cs, h1, by rw [h2, cells16]⟩

def numOf : Value → UInt8
  | .int _ n => UInt8.ofNat n.toNat
  | _ => 0

theorem open16 {H : Type} {enc : TypeId × Value → H} {W : World} {xs : Array Value} {d0 : DataW H} {p0 : List MemPlace} (hn : xs.size = 16)
    (h0 : DataW.Trod enc Try.prog W 0 (fun _ => true) true 22 (.agg xs) d0 p0) : ∃ bs : List UInt8, Vec 16 bs xs.toList := by
  obtain ⟨fuel, hf⟩ := h0
  obtain ⟨ys, m, _, _, _, hyl, hel⟩ := DataW.trod_array Try.underlying22 hf
  refine ⟨xs.toList.map numOf, ?_, by simp [hn]⟩
  rw [List.map_map]
  apply List.ext_getElem?
  intro i
  rcases Nat.lt_or_ge i 16 with hi | hi
  · have h1 := hel i hi
    rw [cells8, Nat.mul_one, List.getElem?_eq_getElem (by omega : i < ys.length)] at h1
    obtain ⟨a, ea, _, wa⟩ := DataW.trod_int Try.underlying5 h1
    have hb := bounds_u8 wa
    have hx : xs.toList[i]? = some (.int .u8 a) := by
      have h2 := congrArg List.head? ea
      simpa [Value.cells, List.head?_take, List.head?_drop] using h2
    rw [List.getElem?_map, hx]
    simp only [Option.map_some, Function.comp, numOf, V8]
    rw [toNat_ofNat8 (by omega)]
    congr 2
    omega
  · rw [List.getElem?_eq_none (by simp [hn]; omega), List.getElem?_eq_none (by simp [hn]; omega)]

/-- A world for the witness, and its arguments. -/
noncomputable def bareWorld (os : Os) : World := World.holding Try.prog os ⟨#[], #[], []⟩
end Go.Proofs.Ytjdpfeagicchnaa
