/-
  WHAT THE ARGUMENTS' READING GIVES: bytes, and parts of bytes; the table of the cube roots.
-/
import Derived.Test.YtcmledlghipcbaaDoorTE
import Derived.WalkKit
import Derived.ProofKit
import Derived.OpenShut
import Derived.ChangeOld
import Derived.Deep.DeepHandedRow
import Derived.Deep.Matrix
import Derived.Lib.LaidTab
namespace Go.Proofs.YtcmledlghipcbaaDoor
open Go.ChangeShapes Go.WideShapes Go.ChangeAt Go.RowKit Go.Deep Sha

theorem ownK : ownKnob Tryd.prog.godebug = none := by kernel_rfl
theorem laidOut : laidOutB Tryd.prog = true := by kernel_rfl
theorem gTab : Tryd.prog.globalNamed "padlock/sha256.cubeRoots" = some 0 := by kernel_rfl
theorem gTabType : (Tryd.prog.globals[0]?).map (·.type) = some 70 := by kernel_rfl
theorem cellsT : Tryd.prog.cellsOf 70 = 64 := by kernel_rfl
theorem cellsE : Tryd.prog.cellsOf 49 = 1 := by kernel_rfl
theorem cellsB : Tryd.prog.cellsOf 5 = 1 := by kernel_rfl
theorem cellsS : Tryd.prog.cellsOf 22 = 1 := by kernel_rfl

theorem tab_of {W : World} (h : Lib.TabIs Tryd.prog W "padlock/sha256.cubeRoots" .u32 (K0.map fun x => (x.toNat : Int))) : Tab W := by
  have hs : Sees W 0 0 (K0.map V32) := by
    intro j u hu
    have hj : j < (K0.map fun x => (x.toNat : Int)).length := by
      have := (List.getElem?_eq_some_iff.1 hu).1
      simpa using this
    have hc := h.cell gTab j hj
    rw [Nat.zero_add]
    rw [List.getElem?_map] at hu
    obtain ⟨x, hx, rfl⟩ := Option.map_eq_some_iff.1 hu
    refine hc.trans ?_
    simp [V32, hx]
  exact ⟨block_lt_of_cell (hs 0 _ rfl), hs⟩

/-- A slice of bytes as the reading gives it. -/
theorem arg_of {W : World} {a : Option Addr} {len cap : Nat} {zs : List Int}
    (h : (a = none ∧ len = 0 ∧ cap = 0 ∧ zs = []) ∨ ∃ x, a = some x ∧ len ≤ cap ∧ cap ≤ maxLen ∧ zs.length = cap ∧ (∀ i, i < zs.length → W.cell? (x.add i) = some (.int .u8 (zs.getD i 0))) ∧ ∀ n ∈ zs, (Lit.int .u8 n).wf = true) :
    ∃ bs : List UInt8, bs.length = len ∧ Arg W (.slice a len cap) bs := by
  rcases h with ⟨rfl, rfl, rfl, rfl⟩ | ⟨x, rfl, hl, hm, hz, hc, hw⟩
  · exact ⟨[], rfl, .inl ⟨none, rfl, rfl⟩⟩
  · rcases Nat.eq_zero_or_pos cap with h0 | h0
    · obtain rfl : len = 0 := by omega
      subst h0
      exact ⟨[], rfl, .inl ⟨_, rfl, rfl⟩⟩
    · obtain ⟨b, off, rfl, hc'⟩ := ints_at hc (by omega)
      have hb : b < W.heap.size := block_lt_of_cell (hc' 0 (by omega))
      refine ⟨(zs.take len).map fun n => UInt8.ofNat n.toNat, by simp; omega, .inr ⟨b, off, cap, by simp; omega, hb, by simp; omega, ?_⟩⟩
      intro j u hu
      rw [List.getElem?_map, List.getElem?_map] at hu
      obtain ⟨x, hx, rfl⟩ := Option.map_eq_some_iff.1 hu
      obtain ⟨z, hz1, rfl⟩ := Option.map_eq_some_iff.1 hx
      rw [List.getElem?_take] at hz1
      split at hz1
      · have hj : j < zs.length := (List.getElem?_eq_some_iff.1 hz1).1
        rw [hc' j hj]
        have hzz : zs.getD j 0 = z := by rw [List.getD_eq_getElem?_getD, hz1]; rfl
        have hbd := bounds_u8 (hw z (List.mem_of_getElem? hz1))
        rw [hzz, V8, toNat_ofNat8 (by omega)]
        congr 2
        omega
      · cases hz1
theorem open_arg {H : Type} {enc : TypeId × Value → H} {W : World} {a0 : Option Addr} {len0 cap0 : Nat} {d0 : DataW H} {p0 : List MemPlace}
    (h0 : DataW.Trod enc Tryd.prog W 0 (fun _ => true) true 22 (.slice a0 len0 cap0) d0 p0) : ∃ bs : List UInt8, bs.length = len0 ∧ Arg W (.slice a0 len0 cap0) bs := by
  obtain ⟨fuel, hf⟩ := h0
  rcases open_ints Tryd.underlying22 Tryd.underlying5 cellsB hf with ⟨hcs, _⟩ | ⟨x, l, c, zs, hcs, _, hl, hm, hz, _, hcell, hwz⟩
  · simp [Value.cells] at hcs
    obtain ⟨rfl, rfl, rfl⟩ := hcs
    exact arg_of (.inl ⟨rfl, rfl, rfl, rfl⟩)
  · simp [Value.cells] at hcs
    obtain ⟨rfl, rfl, rfl⟩ := hcs
    exact arg_of (.inr ⟨_, rfl, hl, hm, by simpa using hz, hcell, hwz⟩)
/-- A slice of slices of bytes as the reading gives it. -/
theorem open_parts {H : Type} {enc : TypeId × Value → H} {W : World} {a0 : Option Addr} {len0 cap0 : Nat} {d0 : DataW H} {p0 : List MemPlace}
    (h0 : DataW.Trod enc Tryd.prog W 0 (fun _ => true) true 23 (.slice a0 len0 cap0) d0 p0) : ∃ ps : List (List UInt8), Parts W (.slice a0 len0 cap0) ps := by
  obtain ⟨fuel, hf⟩ := h0
  rcases open_int_rows Tryd.underlying23 Tryd.underlying22 Tryd.underlying5 cellsS cellsB hf with ⟨hcs, _⟩ | ⟨x, l, c, A, L, C, Z, hcs, _, hl, hm, _, hrow⟩
  · simp [Value.cells] at hcs
    obtain ⟨rfl, rfl, rfl⟩ := hcs
    exact ⟨[], none, 0, [], rfl, ⟨rfl, fun j v p hv => by simp at hv⟩, fun h => by simp at h⟩
  · simp [Value.cells] at hcs
    obtain ⟨rfl, rfl, rfl⟩ := hcs
    have each : ∀ r, r < len0 → ∃ bs : List UInt8, bs.length = L r ∧ Arg W (.slice (A r) (L r) (C r)) bs := fun r hr => by
      obtain ⟨_, h2, h3, h4, h5, h6, h7⟩ := hrow r (by omega)
      refine arg_of (zs := Z r) ?_
      cases hA : A r with
      | none =>
        have hc0 := h6 hA
        exact .inl ⟨rfl, by omega, hc0, List.eq_nil_of_length_eq_zero (by omega)⟩
      | some a' => exact .inr ⟨a', rfl, h2, h3, h4, fun i hi => (h7 a' hA).2 i (by omega), h5⟩
    obtain ⟨f, hf⟩ := choose_lt each
    refine ⟨(List.range len0).map f, some x, cap0, (List.range len0).map fun r => .slice (A r) (L r) (C r), by simp, ⟨by simp, fun j v p hv hp => ?_⟩, fun hpos => ?_⟩
    · rw [List.getElem?_map] at hv hp
      obtain ⟨i, hi, rfl⟩ := Option.map_eq_some_iff.1 hv
      obtain ⟨i', hi', rfl⟩ := Option.map_eq_some_iff.1 hp
      rw [hi] at hi'
      cases hi'
      have hlt : i < len0 := by
        have := List.mem_of_getElem? hi
        simpa using this
      exact (hf i hlt).2
    · have hpos' : 0 < len0 := by simpa using hpos
      obtain ⟨b, off, spot⟩ := x
      have hc0 := (hrow 0 (by omega)).1
      have hspot : spot = none := by simpa [Addr.add] using World.cell?_spot hc0
      subst hspot
      have hcj : ∀ j, j < len0 → W.cell? ⟨b, off + j, none⟩ = some (.slice (A j) (L j) (C j)) := fun j hj => by
        rw [← Go.WideShapes.add_plain]; exact (hrow j (by omega)).1
      refine ⟨b, off, rfl, block_lt_of_cell (hcj 0 hpos'), fun j u hu => ?_⟩
      rw [List.getElem?_map] at hu
      obtain ⟨i, hi, rfl⟩ := Option.map_eq_some_iff.1 hu
      have hlt : j < len0 := by simpa using (List.getElem?_eq_some_iff.1 hi).1
      have hij : i = j := by
        have := (List.getElem?_eq_some_iff.1 hi).2
        simpa using this.symm
      subst hij
      exact hcj i hlt

/-- A world for the witness: the settled one, the table as its initialiser lays it. -/
noncomputable def laidWorld (os : Os) : World :=
  { World.holding Tryd.prog os ⟨#[], #[], []⟩ with heap := (World.holding Tryd.prog os ⟨#[], #[], []⟩).heap.modify 0 fun
      | .cells _ t frozen => .cells (K0.map V32).toArray t frozen
      | o => o }
end Go.Proofs.YtcmledlghipcbaaDoor
