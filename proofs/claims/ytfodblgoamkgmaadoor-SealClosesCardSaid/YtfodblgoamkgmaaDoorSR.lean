/-
  WHAT THE ARGUMENTS' READING GIVES: bytes, arrays of bytes, pairs of keys; the table of the cube roots; a world for the witness.
-/
import Derived.Test.YtfodblgoamkgmaaDoorSG
import Derived.WalkKit
import Derived.ProofKit
import Derived.OpenShut
import Derived.ChangeOld
import Derived.Deep.DeepHandedRow
import Derived.Deep.Matrix
import Derived.Lib.LaidTab
namespace Go.Proofs.YtfodblgoamkgmaaDoor
open Go.ChangeShapes Go.WideShapes Go.ChangeAt Go.RowKit Go.Deep Aes Ctr Sl Hm.Sha

set_option maxRecDepth 100000
theorem ownK : ownKnob Tryd.prog.godebug = none := by kernel_rfl
theorem laidOut : laidOutB Tryd.prog = true := by kernel_rfl
theorem gTab : Tryd.prog.globalNamed "padlock/sha256.cubeRoots" = some 0 := by kernel_rfl
theorem gTabType : (Tryd.prog.globals[0]?).map (·.type) = some 122 := by kernel_rfl
theorem cellsT : Tryd.prog.cellsOf 122 = 64 := by kernel_rfl
theorem cellsE : Tryd.prog.cellsOf 82 = 1 := by kernel_rfl
theorem cellsB : Tryd.prog.cellsOf 5 = 1 := by kernel_rfl
theorem cells16 : Tryd.prog.cellsOf 25 = 16 := by kernel_rfl
theorem cellsTg : Tryd.prog.cellsOf 27 = 32 := by kernel_rfl
theorem cells64 : Tryd.prog.cellsOf 50 = 64 := by kernel_rfl
theorem cellsSk : Tryd.prog.cellsOf 29 = 48 := by kernel_rfl

theorem tab_of {W : World} (h : Lib.TabIs Tryd.prog W "padlock/sha256.cubeRoots" .u32 (K0.map fun x => (x.toNat : Int))) : Hm.Tab W := by
  have hs : Hm.Sees W 0 0 (K0.map Hm.V32) := by
    intro j u hu
    have hj : j < (K0.map fun x => (x.toNat : Int)).length := by
      have := (List.getElem?_eq_some_iff.1 hu).1
      simpa using this
    have hc := h.cell gTab j hj
    rw [Nat.zero_add]
    rw [List.getElem?_map] at hu
    obtain ⟨x, hx, rfl⟩ := Option.map_eq_some_iff.1 hu
    refine hc.trans ?_
    simp [Hm.V32, hx]
  exact ⟨block_lt_of_cell (hs 0 _ rfl), hs⟩

/-- A slice of bytes as the reading gives it. -/
theorem arg_of {W : World} {a : Option Addr} {len cap : Nat} {zs : List Int}
    (h : (a = none ∧ len = 0 ∧ cap = 0 ∧ zs = []) ∨ ∃ x, a = some x ∧ len ≤ cap ∧ cap ≤ maxLen ∧ zs.length = cap ∧ (∀ i, i < zs.length → W.cell? (x.add i) = some (.int .u8 (zs.getD i 0))) ∧ ∀ n ∈ zs, (Lit.int .u8 n).wf = true) :
    ∃ bs : List UInt8, bs.length = len ∧ Arg W (.slice a len cap) bs := by
  rcases h with ⟨rfl, rfl, rfl, rfl⟩ | ⟨x, rfl, hl, hm, hz, hc, hw⟩
  · exact ⟨[], rfl, .inl ⟨none, rfl, rfl⟩⟩
  · rcases Nat.eq_zero_or_pos cap with h0 | h0
    · obtain rfl : len = 0 := by omega
      subst h0
      exact ⟨[], rfl, .inl ⟨_, rfl, rfl⟩⟩
    · obtain ⟨b, off, rfl, hc'⟩ := ints_at hc (by omega)
      have hb : b < W.heap.size := block_lt_of_cell (hc' 0 (by omega))
      refine ⟨(zs.take len).map fun n => UInt8.ofNat n.toNat, by simp; omega, .inr ⟨b, off, cap, by simp; omega, hb, by simp; omega, ?_⟩⟩
      intro j u hu
      rw [List.getElem?_map, List.getElem?_map] at hu
      obtain ⟨x, hx, rfl⟩ := Option.map_eq_some_iff.1 hu
      obtain ⟨z, hz1, rfl⟩ := Option.map_eq_some_iff.1 hx
      rw [List.getElem?_take] at hz1
      split at hz1
      · have hj : j < zs.length := (List.getElem?_eq_some_iff.1 hz1).1
        rw [hc' j hj]
        have hzz : zs.getD j 0 = z := by rw [List.getD_eq_getElem?_getD, hz1]; rfl
        have hbd := bounds_u8 (hw z (List.mem_of_getElem? hz1))
        rw [hzz, V8, toNat_ofNat8 (by omega)]
        congr 2
        omega
      · cases hz1
section
variable {H : Type} {enc : TypeId × Value → H} {W : World}
theorem open_arg {a0 : Option Addr} {len0 cap0 : Nat} {d0 : DataW H} {p0 : List MemPlace}
    (h0 : DataW.Trod enc Tryd.prog W 0 (fun _ => true) true 22 (.slice a0 len0 cap0) d0 p0) : ∃ bs : List UInt8, bs.length = len0 ∧ Arg W (.slice a0 len0 cap0) bs := by
  obtain ⟨fuel, hf⟩ := h0
  rcases open_ints Tryd.underlying22 Tryd.underlying5 cellsB hf with ⟨hcs, _⟩ | ⟨x, l, c, zs, hcs, _, hl, hm, hz, _, hcell, hwz⟩
  · simp [Value.cells] at hcs
    obtain ⟨rfl, rfl, rfl⟩ := hcs
    exact arg_of (.inl ⟨rfl, rfl, rfl, rfl⟩)
  · simp [Value.cells] at hcs
    obtain ⟨rfl, rfl, rfl⟩ := hcs
    exact arg_of (.inr ⟨_, rfl, hl, hm, by simpa using hz, hcell, hwz⟩)

def numOf : Value → UInt8
  | .int _ n => UInt8.ofNat n.toNat
  | _ => 0
/-- The cells of an array of bytes. -/
theorem raw_row {t : TypeId} {n fuel : Nat} {cs : List Value} {x : DataW H × List MemPlace} (ht : Tryd.prog.underlying t = some (.array n 5)) (hc : Tryd.prog.cellsOf t = n)
    (hf : DataW.trod enc Tryd.prog W 0 (fun _ => true) true fuel t cs = some x) : ∃ bs : List UInt8, cs = bs.map V8 ∧ bs.length = n := by
  obtain ⟨ys, m, _, _, hl, hyl, hel⟩ := DataW.trod_array ht hf
  rw [hc] at hl
  refine ⟨cs.map numOf, ?_, by simp [hl]⟩
  rw [List.map_map]
  apply List.ext_getElem?
  intro i
  rcases Nat.lt_or_ge i n with hi | hi
  · have h1 := hel i hi
    rw [cellsB, Nat.mul_one, List.getElem?_eq_getElem (by omega : i < ys.length)] at h1
    obtain ⟨a, ea, _, wa⟩ := DataW.trod_int Tryd.underlying5 h1
    have hb := bounds_u8 wa
    have hx : cs[i]? = some (.int .u8 a) := by
      have h2 := congrArg List.head? ea
      simpa [List.head?_take, List.head?_drop] using h2
    rw [List.getElem?_map, hx]
    simp only [Option.map_some, Function.comp, numOf, V8]
    rw [toNat_ofNat8 (by omega)]
    congr 2
    omega
  · rw [List.getElem?_eq_none (by omega), List.getElem?_eq_none (by simp; omega)]
theorem okWide_row {t : TypeId} {n : Nat} (ht : Tryd.prog.underlying t = some (.array n 5)) (hc : Tryd.prog.cellsOf t = n) {r : Reach} {b0 : Nat} {v : Value} (h : Value.okWide Tryd.prog W r b0 t v) : ∃ xs : List Value, v = .agg xs.toArray ∧ xs.length = n := by
  simp only [Value.okWide, ht] at h
  obtain ⟨cs, h1, h2, _⟩ := h
  exact ⟨cs.toList, by rw [h1], by rw [Array.length_toList, h2, hc]⟩
theorem okWide_keys {r : Reach} {b0 : Nat} {v : Value} (h : Value.okWide Tryd.prog W r b0 29 v) : ∃ xs : List Value, v = .agg xs.toArray ∧ xs.length = 48 := by
  simp only [Value.okWide, Tryd.underlying29] at h
  obtain ⟨cs, h1, h2, _⟩ := h
  exact ⟨cs.toList, by rw [h1], by rw [Array.length_toList, h2, cellsSk]⟩
theorem open_row {t : TypeId} {n : Nat} (ht : Tryd.prog.underlying t = some (.array n 5)) (hc : Tryd.prog.cellsOf t = n) {xs : List Value} {d0 : DataW H} {p0 : List MemPlace}
    (h0 : DataW.Trod enc Tryd.prog W 0 (fun _ => true) true t (.agg xs.toArray) d0 p0) : ∃ bs : List UInt8, Vec n bs xs := by
  obtain ⟨fuel, hf⟩ := h0
  have hf' : DataW.trod enc Tryd.prog W 0 (fun _ => true) true fuel t xs = some (d0, p0) := by simpa [Value.cells] using hf
  obtain ⟨bs, h1, h2⟩ := raw_row ht hc hf'
  exact ⟨bs, h1, h2⟩
theorem open_keys {xs : List Value} (hn : xs.length = 48) {d0 : DataW H} {p0 : List MemPlace}
    (h0 : DataW.Trod enc Tryd.prog W 0 (fun _ => true) true 29 (.agg xs.toArray) d0 p0) : ∃ ek mk : List UInt8, KeysV ek mk xs := by
  obtain ⟨fuel, hf⟩ := h0
  have hf' : DataW.trod enc Tryd.prog W 0 (fun _ => true) true fuel 29 xs = some (d0, p0) := by simpa [Value.cells] using hf
  obtain ⟨ys, m, _, _, _, hyl, hel⟩ := DataW.trod_struct Tryd.underlying29 hf'
  have h1 : DataW.trod enc Tryd.prog W 0 (fun _ => true) true m 25 ((xs.drop 0).take (Tryd.prog.cellsOf 25)) = ys[0]? := hel 0 _ rfl
  have h2 : DataW.trod enc Tryd.prog W 0 (fun _ => true) true m 27 ((xs.drop 16).take (Tryd.prog.cellsOf 27)) = ys[1]? := hel 1 _ rfl
  have hy : ys.length = 2 := by rw [hyl]; rfl
  rw [List.getElem?_eq_getElem (by omega : 0 < ys.length)] at h1
  rw [List.getElem?_eq_getElem (by omega : 1 < ys.length)] at h2
  obtain ⟨ek, e1, l1⟩ := raw_row Tryd.underlying25 cells16 h1
  obtain ⟨mk, e2, l2⟩ := raw_row Tryd.underlying27 cellsTg h2
  rw [cells16] at e1
  rw [cellsTg] at e2
  refine ⟨ek, mk, ?_, l1, l2⟩
  rw [List.map_append, ← e1, ← e2]
  show xs = (xs.drop 0).take 16 ++ (xs.drop 16).take 32
  rw [List.drop_zero, List.take_of_length_le (l := xs.drop 16) (by rw [List.length_drop]; omega), List.take_append_drop]
end

/-- Worlds, and arguments, for the witness: the settled world, the table as its initialiser lays it. -/
noncomputable def laidWorld (os : Os) : World :=
  { World.holding Tryd.prog os ⟨#[], #[], []⟩ with heap := (World.holding Tryd.prog os ⟨#[], #[], []⟩).heap.modify 0 fun
      | .cells _ t frozen => .cells (K0.map Hm.V32).toArray t frozen
      | o => o }
def Z64 : List Value := List.replicate 64 (.int .u8 0)
end Go.Proofs.YtfodblgoamkgmaaDoor
