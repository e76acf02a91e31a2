/-
  WHAT THE READING OF AN ARGUMENT GIVES: a slice of entries.
-/
import Derived.Test.YtaamhdgngnpmoaaGNS
import Derived.Test.YtaamhdgngnpmoaaGI
namespace Go.Proofs.Ytaamhdgngnpmoaa
open Go.ChangeShapes Go.WideShapes Go.ChangeAt Go.RowKit Go.Deep Go.ChangeMaps Dir

theorem cellsDIn : Try.prog.cellsOf 3 = 1 := by kernel_rfl
theorem cellsDen : Try.prog.cellsOf 26 = 2 := by kernel_rfl
section
variable {H : Type} {enc : TypeId × Value → H} {W : World}
set_option maxRecDepth 100000 in
theorem raw_dent {fuel : Nat} {cs : List Value} {x : DataW H × List MemPlace} (h : DataW.trod enc Try.prog W 0 (fun _ => true) true fuel 26 cs = some x) : ∃ e : En, cs = cE e ∧ e.n.length ≤ 9223372036854775807 ∧ -9223372036854775808 ≤ e.k ∧ e.k ≤ 9223372036854775807 := by
  obtain ⟨ys, m, _, _, hlen, hyl, hel⟩ := DataW.trod_struct Try.underlying26 h
  rw [cellsDen] at hlen
  match cs, ys, hlen, hyl with
  | [c0, c1], [y0, y1], _, _ =>
    have f0 : DataW.trod enc Try.prog W 0 (fun _ => true) true m 9 [c0] = some y0 := by have := hel 0 _ rfl; simpa [cellsDSt] using this
    have f1 : DataW.trod enc Try.prog W 0 (fun _ => true) true m 3 [c1] = some y1 := by have := hel 1 _ rfl; simpa [cellsDIn] using this
    obtain ⟨s, e0, _, hs⟩ := DataW.trod_string Try.underlying9 f0
    obtain ⟨n1, e1, _, w1⟩ := DataW.trod_int Try.underlying3 f1
    have b1 := bounds_i64 w1
    injection e0 with e0
    injection e1 with e1
    refine ⟨⟨s.data.toList, n1⟩, ?_, len_data s hs, by show _ ≤ n1; omega, by show n1 ≤ _; omega⟩
    rw [e0, e1]
    show _ = [SB _, _]
    unfold SB
    rw [← strB_data]
theorem open_dents {a0 : Option Addr} {len0 cap0 : Nat} {d0 : DataW H} {p0 : List MemPlace} (h0 : DataW.Trod enc Try.prog W 0 (fun _ => true) true 22 (.slice a0 len0 cap0) d0 p0) :
    ∃ l : List En, l.length = len0 ∧ EnsOk l ∧ EntsAt W (.slice a0 len0 cap0) l := by
  obtain ⟨fuel, hf⟩ := h0
  rcases open_slice Try.underlying22 hf with ⟨hcs, _⟩ | ⟨a, l, cap, m, n, D, Pl, hcs, _, hl, hm, hmm, _, hx⟩
  · simp [Value.cells] at hcs
    obtain ⟨rfl, rfl, rfl⟩ := hcs
    exact ⟨[], rfl, (fun e h => by cases h), none, 0, rfl, (fun h => by simp at h)⟩
  · simp [Value.cells] at hcs
    obtain ⟨rfl, rfl, rfl⟩ := hcs
    simp only [if_true] at hmm
    rw [cellsDen] at hx
    have each : ∀ i, i < len0 → ∃ e : En, (e.n.length ≤ 9223372036854775807 ∧ -9223372036854775808 ≤ e.k ∧ e.k ≤ 9223372036854775807) ∧ ∀ j u, (cE e)[j]? = some u → W.cell? ((a.add (i * 2)).add j) = some u := fun i hi => by
      obtain ⟨cs', hc, ht⟩ := hx i (by omega)
      obtain ⟨_, hcl, hat⟩ := World.cells?_some hc
      obtain ⟨e, rfl, hok⟩ := raw_dent ht
      refine ⟨e, hok, fun j u hu => ?_⟩
      rw [hat j (by have := (List.getElem?_eq_some_iff.1 hu).1; omega)]
      exact hu
    haveI : Inhabited En := ⟨⟨[], 0⟩⟩
    obtain ⟨f, hf⟩ := choose_lt each
    refine ⟨(List.range len0).map f, by simp, fun e he => ?_, some a, cap0, by simp, fun hpos => ?_⟩
    · obtain ⟨i, hi, rfl⟩ := List.mem_map.1 he
      exact (hf i (List.mem_range.1 hi)).1
    · have hpos' : 0 < len0 := by simpa using hpos
      obtain ⟨b, off, spot⟩ := a
      have hc0 := (hf 0 hpos').2 0 _ rfl
      have hspot : spot = none := by simpa [Addr.add] using World.cell?_spot hc0
      subst hspot
      have hc1 : W.cell? ⟨b, off, none⟩ = some (SB (f 0).n) := by simpa [Addr.add] using hc0
      refine ⟨b, off, rfl, block_lt_of_cell hc1, fun j u hu => ?_⟩
      have hj : j < len0 * 2 := by
        have := (List.getElem?_eq_some_iff.1 hu).1
        rw [cEs_length] at this
        simpa using this
      have hi : j / 2 < len0 := by omega
      obtain ⟨h1, h2⟩ := cEs_at ((List.range len0).map f) (j / 2) (f (j / 2)) (by simp [hi])
      have hh := (hf (j / 2) hi).2
      rcases Nat.mod_two_eq_zero_or_one j with hm2 | hm2
      · have := hh 0 _ rfl
        rw [show j / 2 * 2 = j by omega] at h1 this
        rw [h1] at hu
        injection hu with hu
        rw [← hu]
        simpa [Go.WideShapes.add_plain] using this
      · have := hh 1 _ rfl
        rw [show j / 2 * 2 + 1 = j by omega] at h2
        rw [h2] at hu
        injection hu with hu
        rw [← hu, show off + j = off + j / 2 * 2 + 1 by omega]
        simpa [Go.WideShapes.add_plain] using this
end
end Go.Proofs.Ytaamhdgngnpmoaa
