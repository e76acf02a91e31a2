/-
  WHAT THE READING OF AN ARGUMENT GIVES: a slice of deeds (layer 10); a world for the witness.
-/
import Derived.Test.YthcphabfeapjbaaPN
import Derived.WalkKit
import Derived.ProofKit
import Derived.OpenShut
import Derived.ChangeOld
import Derived.Deep.DeepHandedRow
import Derived.WideKeyArr2
import Derived.LaidLaws
import Derived.Deep.Matrix
import Derived.Deep.Fields
import Derived.Deep.Grids
import Derived.ChangeSame
namespace Go.Proofs.Ythcphabfeapjbaa
open Go.ChangeShapes Go.WideShapes Go.ChangeAt Go.RowKit Go.Deep

theorem ownK : ownKnob Try.prog.godebug = none := by kernel_rfl
theorem laidOut : laidOutB Try.prog = true := by kernel_rfl
theorem cellsU8 : Try.prog.cellsOf 5 = 1 := by kernel_rfl
theorem cellsI : Try.prog.cellsOf 3 = 1 := by kernel_rfl
theorem cellsCd : Try.prog.cellsOf 32 = 3 := by kernel_rfl
theorem cellsBs : Try.prog.cellsOf 30 = 1 := by kernel_rfl
/-- A world for the witness, and its arguments. -/
noncomputable def bareWorld (os : Os) : World := World.holding Try.prog os ⟨#[], #[], []⟩

section
variable {H : Type} {enc : TypeId × Value → H} {W : World} {fuel : Nat} {c : Value} {x : DataW H × List MemPlace}
theorem raw_bytes (h : DataW.trod enc Try.prog W 0 (fun _ => true) true fuel 30 [c] = some x) : ∃ bs : List UInt8, Arg W c bs := by
  rcases open_ints Try.underlying30 Try.underlying5 cellsU8 h with ⟨hcs, _⟩ | ⟨a, l, cap, zs, hcs, _, hl, hm, hz, _, hcell, hwz⟩
  · obtain rfl : c = .slice none 0 0 := by simpa using hcs
    exact ⟨[], .inl ⟨none, rfl, rfl⟩⟩
  · obtain rfl : c = .slice (some a) l cap := by simpa using hcs
    simp only [if_true] at hz
    rcases Nat.eq_zero_or_pos cap with h0 | h0
    · obtain rfl : l = 0 := by omega
      subst h0
      exact ⟨[], .inl ⟨_, rfl, rfl⟩⟩
    · obtain ⟨b, off, rfl, hc'⟩ := ints_at hcell (by omega)
      have hb : b < W.heap.size := block_lt_of_cell (hc' 0 (by omega))
      refine ⟨(zs.take l).map (fun z => UInt8.ofNat z.toNat), .inr ⟨b, off, cap, by simp; omega, hb, by simp; omega, fun j u hu => ?_⟩⟩
      rw [List.getElem?_map, List.getElem?_map] at hu
      obtain ⟨y, hy, rfl⟩ := Option.map_eq_some_iff.1 hu
      obtain ⟨z, hz1, rfl⟩ := Option.map_eq_some_iff.1 hy
      rw [List.getElem?_take] at hz1
      split at hz1
      · have hj : j < zs.length := (List.getElem?_eq_some_iff.1 hz1).1
        have hzz : zs.getD j 0 = z := by rw [List.getD_eq_getElem?_getD, hz1]; rfl
        have hbz := bounds_u8 (hwz z (List.mem_of_getElem? hz1))
        rw [hc' j hj, hzz]
        unfold V8
        rw [toNat_ofNat8 (by omega)]
        congr 2
        omega
      · cases hz1
/-- One deed. -/
theorem raw_cdeed {cs : List Value} (h : DataW.trod enc Try.prog W 0 (fun _ => true) true fuel 32 cs = some x) : ∃ d : CDeed, cs = d.cells ∧ d.ok W := by
  obtain ⟨xs, n, _, _, hlen, hxl, hf⟩ := DataW.trod_struct Try.underlying32 h
  rw [cellsCd] at hlen
  match cs, xs, hlen, hxl with
  | [c0, c1, c2], [x0, x1, x2], _, _ =>
    have f0 : DataW.trod enc Try.prog W 0 (fun _ => true) true n 3 [c0] = some x0 := by have := hf 0 _ rfl; simpa [cellsI] using this
    have f1 : DataW.trod enc Try.prog W 0 (fun _ => true) true n 3 [c1] = some x1 := by have := hf 1 _ rfl; simpa [cellsI] using this
    have f2 : DataW.trod enc Try.prog W 0 (fun _ => true) true n 30 [c2] = some x2 := by have := hf 2 _ rfl; simpa [cellsBs] using this
    obtain ⟨n0, e0, _, w0⟩ := DataW.trod_int Try.underlying3 f0
    obtain ⟨n1, e1, _, w1⟩ := DataW.trod_int Try.underlying3 f1
    obtain ⟨bs, hb⟩ := raw_bytes f2
    have b0 := bounds_i64 w0
    have b1 := bounds_i64 w1
    injection e0 with e0
    injection e1 with e1
    exact ⟨⟨n0, n1, c2, bs⟩, by rw [e0, e1]; rfl, hb, b0.1, (by show n0 ≤ _; omega), b1.1, (by show n1 ≤ _; omega)⟩

theorem open_cdeeds {a0 : Option Addr} {len0 cap0 : Nat} {d0 : DataW H} {p0 : List MemPlace} (h0 : DataW.Trod enc Try.prog W 0 (fun _ => true) true 22 (.slice a0 len0 cap0) d0 p0) :
    ∃ l : List CDeed, l.length = len0 ∧ CDeeds W (.slice a0 len0 cap0) l := by
  obtain ⟨fuel, hf⟩ := h0
  rcases open_slice Try.underlying22 hf with ⟨hcs, _⟩ | ⟨a, l, cap, m, n, D, Pl, hcs, _, hl, hm, hmm, _, hx⟩
  · simp [Value.cells] at hcs
    obtain ⟨rfl, rfl, rfl⟩ := hcs
    exact ⟨[], rfl, none, 0, rfl, fun h => by simp at h, fun d h => by cases h⟩
  · simp [Value.cells] at hcs
    obtain ⟨rfl, rfl, rfl⟩ := hcs
    simp only [if_true] at hmm
    rw [cellsCd] at hx
    have each : ∀ i, i < len0 → ∃ d : CDeed, d.ok W ∧ ∀ j u, d.cells[j]? = some u → W.cell? ((a.add (i * 3)).add j) = some u := fun i hi => by
      obtain ⟨cs', hc, ht⟩ := hx i (by omega)
      obtain ⟨_, hcl, hat⟩ := World.cells?_some hc
      obtain ⟨d, rfl, hok⟩ := raw_cdeed ht
      refine ⟨d, hok, fun j u hu => ?_⟩
      rw [hat j (by have := (List.getElem?_eq_some_iff.1 hu).1; omega)]
      exact hu
    haveI : Inhabited CDeed := ⟨⟨0, 0, .bool false, []⟩⟩
    obtain ⟨f, hf⟩ := choose_lt each
    refine ⟨(List.range len0).map f, by simp, some a, cap0, by simp, fun hpos => ?_, fun d hd => ?_⟩
    · have hpos' : 0 < len0 := by simpa using hpos
      obtain ⟨b, off, spot⟩ := a
      have hc0 := (hf 0 hpos').2 0 _ rfl
      have hspot : spot = none := by simpa [Addr.add] using World.cell?_spot hc0
      subst hspot
      have hc1 : W.cell? ⟨b, off, none⟩ = some (.int .i64 (f 0).what) := by simpa [Addr.add] using hc0
      refine ⟨b, off, rfl, block_lt_of_cell hc1, fun i d hd j u hu => ?_⟩
      rw [List.getElem?_map] at hd
      obtain ⟨i', hi', rfl⟩ := Option.map_eq_some_iff.1 hd
      have hlt : i < len0 := by simpa using (List.getElem?_eq_some_iff.1 hi').1
      have hii : i' = i := by
        have := (List.getElem?_eq_some_iff.1 hi').2
        simpa using this.symm
      subst hii
      have := (hf i' hlt).2 j u hu
      rwa [Go.WideShapes.add_plain, Go.WideShapes.add_plain] at this
    · obtain ⟨i, hi, rfl⟩ := List.mem_map.1 hd
      exact (hf i (by simpa using hi)).1
end
end Go.Proofs.Ythcphabfeapjbaa
