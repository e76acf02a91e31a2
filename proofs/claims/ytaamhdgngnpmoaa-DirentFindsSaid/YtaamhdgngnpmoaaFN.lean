/-
  WHAT THE READING OF AN ARGUMENT GIVES: a slice of bytes; a world for the witness.
-/
import Derived.Test.YtaamhdgngnpmoaaKA
import Derived.WalkKit
import Derived.ProofKit
import Derived.OpenShut
import Derived.ChangeOld
import Derived.Deep.DeepHandedRow
import Derived.WideKeyArr2
import Derived.LaidLaws
import Derived.Deep.Matrix
namespace Go.Proofs.Ytaamhdgngnpmoaa
open Go.ChangeShapes Go.WideShapes Go.ChangeAt Go.RowKit Go.Deep

theorem ownK : ownKnob Try.prog.godebug = none := by kernel_rfl
theorem laidOut : laidOutB Try.prog = true := by kernel_rfl
theorem cellsB : Try.prog.cellsOf 5 = 1 := by kernel_rfl
/-- A world for the witness, and its arguments. -/
noncomputable def bareWorld (os : Os) : World := World.holding Try.prog os ⟨#[], #[], []⟩

/-- A slice of numbers of a kind as the reading gives it. -/
theorem seen_of {W : World} {q : IntKind} {a : Option Addr} {len cap : Nat} {zs : List Int}
    (h : (a = none ∧ len = 0 ∧ cap = 0 ∧ zs = []) ∨ ∃ x, a = some x ∧ len ≤ cap ∧ cap ≤ maxLen ∧ zs.length = cap ∧ (∀ i, i < zs.length → W.cell? (x.add i) = some (.int q (zs.getD i 0))) ∧ ∀ n ∈ zs, (Lit.int q n).wf = true) :
    ∃ ws : List Int, ws.length = len ∧ (∀ n ∈ ws, (Lit.int q n).wf = true) ∧ ((∃ A, Value.slice a len cap = .slice A 0 0 ∧ ws = []) ∨ ∃ b o, a = some ⟨b, o, none⟩ ∧ b < W.heap.size ∧ len ≤ cap ∧ Sees W b o (ws.map (fun n => Value.int q n))) := by
  rcases h with ⟨rfl, rfl, rfl, rfl⟩ | ⟨x, rfl, hl, hm, hz, hc, hw⟩
  · exact ⟨[], rfl, (fun n h => by cases h), .inl ⟨none, rfl, rfl⟩⟩
  · rcases Nat.eq_zero_or_pos cap with h0 | h0
    · obtain rfl : len = 0 := by omega
      subst h0
      exact ⟨[], rfl, (fun n h => by cases h), .inl ⟨_, rfl, rfl⟩⟩
    · obtain ⟨b, off, rfl, hc'⟩ := ints_at hc (by omega)
      have hb : b < W.heap.size := block_lt_of_cell (hc' 0 (by omega))
      refine ⟨zs.take len, by simp; omega, fun n h => hw n (List.mem_of_mem_take h), .inr ⟨b, off, rfl, hb, hl, ?_⟩⟩
      intro j u hu
      rw [List.getElem?_map] at hu
      obtain ⟨z, hz1, rfl⟩ := Option.map_eq_some_iff.1 hu
      rw [List.getElem?_take] at hz1
      split at hz1
      · have hj : j < zs.length := (List.getElem?_eq_some_iff.1 hz1).1
        rw [hc' j hj]
        have hzz : zs.getD j 0 = z := by rw [List.getD_eq_getElem?_getD, hz1]; rfl
        rw [hzz]
      · cases hz1
theorem seen_open {H : Type} {enc : TypeId × Value → H} {W : World} {t e : TypeId} {q : IntKind} (ht : Try.prog.underlying t = some (.slice e)) (he : Try.prog.underlying e = some (.int q)) (hce : Try.prog.cellsOf e = 1) {a0 : Option Addr} {len0 cap0 : Nat} {d0 : DataW H} {p0 : List MemPlace}
    (h0 : DataW.Trod enc Try.prog W 0 (fun _ => true) true t (.slice a0 len0 cap0) d0 p0) :
    ∃ ws : List Int, ws.length = len0 ∧ (∀ n ∈ ws, (Lit.int q n).wf = true) ∧ ((∃ A, Value.slice a0 len0 cap0 = .slice A 0 0 ∧ ws = []) ∨ ∃ b o, a0 = some ⟨b, o, none⟩ ∧ b < W.heap.size ∧ len0 ≤ cap0 ∧ Sees W b o (ws.map (fun n => Value.int q n))) := by
  obtain ⟨fuel, hf⟩ := h0
  rcases open_ints ht he hce hf with ⟨hcs, _⟩ | ⟨x, l, c, zs, hcs, _, hl, hm, hz, _, hcell, hwz⟩
  · simp [Value.cells] at hcs
    obtain ⟨rfl, rfl, rfl⟩ := hcs
    exact seen_of (.inl ⟨rfl, rfl, rfl, rfl⟩)
  · simp [Value.cells] at hcs
    obtain ⟨rfl, rfl, rfl⟩ := hcs
    exact seen_of (.inr ⟨_, rfl, hl, hm, by simpa using hz, hcell, hwz⟩)
section
variable {H : Type} {enc : TypeId × Value → H} {W : World} {a0 : Option Addr} {len0 cap0 : Nat} {d0 : DataW H} {p0 : List MemPlace}
theorem open_arg (h0 : DataW.Trod enc Try.prog W 0 (fun _ => true) true 23 (.slice a0 len0 cap0) d0 p0) : ∃ bs : List UInt8, bs.length = len0 ∧ Arg W (.slice a0 len0 cap0) bs := by
  obtain ⟨ws, hl, hw, h⟩ := seen_open Try.underlying23 Try.underlying5 cellsB h0
  refine ⟨ws.map (fun z => UInt8.ofNat z.toNat), by simp [hl], ?_⟩
  have hv : (ws.map (fun z => UInt8.ofNat z.toNat)).map V8 = ws.map (fun n => Value.int .u8 n) := by
    rw [List.map_map]
    apply List.map_congr_left
    intro z hz
    have := bounds_u8 (hw z hz)
    simp only [Function.comp, V8]
    congr 1
    rw [toNat_ofNat8 (by omega)]
    omega
  rcases h with ⟨A, e, rfl⟩ | ⟨b, o, rfl, hb, hc, hs⟩
  · exact .inl ⟨A, e, rfl⟩
  · exact .inr ⟨b, o, cap0, by rw [List.length_map, hl], hb, by rw [List.length_map, hl]; exact hc, by rw [hv]; exact hs⟩
end
end Go.Proofs.Ytaamhdgngnpmoaa
