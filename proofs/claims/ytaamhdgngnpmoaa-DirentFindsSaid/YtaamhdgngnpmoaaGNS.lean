/-
  WHAT THE READING OF AN ARGUMENT GIVES: a string, a slice of strings.
-/
import Derived.Test.YtaamhdgngnpmoaaFN
import Derived.Test.YtaamhdgngnpmoaaGB
import Derived.Deep.Fields
import Derived.Deep.Grids
import Derived.ChangeMaps5
import Derived.SliceStrings
namespace Go.Proofs.Ytaamhdgngnpmoaa
open Go.ChangeShapes Go.WideShapes Go.ChangeAt Go.RowKit Go.Deep Go.ChangeMaps Dir

theorem cellsDSt : Try.prog.cellsOf 9 = 1 := by kernel_rfl
set_option maxRecDepth 100000 in
theorem strB_data (s : ByteArray) : s = strB s.data.toList := by cases s; rfl
theorem len_data (s : ByteArray) (h : s.size ≤ maxLen) : s.data.toList.length ≤ 9223372036854775807 := by
  have e : s.data.toList.length = s.size := Array.length_toList
  rw [e]
  exact Nat.le_trans h (by decide)
section
variable {H : Type} {enc : TypeId × Value → H} {W : World}
set_option maxRecDepth 100000 in
theorem open_str {r : Reach} {b0 : Nat} {v : Value} {d : DataW H} {ps : List MemPlace} (hval : Value.okWide Try.prog W r b0 9 v) (hd : DataW.Trod enc Try.prog W 0 (fun _ => true) true 9 v d ps) :
    ∃ bs : List UInt8, v = .string (strB bs) ∧ bs.length ≤ 9223372036854775807 := by
  obtain ⟨s, rfl, _, _, h⟩ := open_string Try.underlying9 hval hd
  exact ⟨s.data.toList, by rw [← strB_data], len_data s h⟩
theorem open_strs {a0 : Option Addr} {len0 cap0 : Nat} {d0 : DataW H} {p0 : List MemPlace} (h0 : DataW.Trod enc Try.prog W 0 (fun _ => true) true 44 (.slice a0 len0 cap0) d0 p0) :
    ∃ l : List (List UInt8), l.length = len0 ∧ ((∀ s ∈ l, s.length ≤ 9223372036854775807) ∧ len0 ≤ cap0) ∧ From W (.slice a0 len0 cap0) (l.map SB) := by
  obtain ⟨fuel, hf⟩ := h0
  rcases open_strings Try.underlying44 Try.underlying9 cellsDSt hf with ⟨hcs, _⟩ | ⟨a, l, cap, ss, hcs, _, hl, hm, hz, _, hcell, hsz⟩
  · simp [Value.cells] at hcs
    obtain ⟨rfl, rfl, rfl⟩ := hcs
    exact ⟨[], rfl, ⟨fun e h => (by cases h), Nat.le_refl _⟩, .inl ⟨none, rfl, rfl⟩⟩
  · simp [Value.cells] at hcs
    obtain ⟨rfl, rfl, rfl⟩ := hcs
    simp only [if_true] at hz
    rcases Nat.eq_zero_or_pos cap0 with h0 | h0
    · obtain rfl : len0 = 0 := by omega
      subst h0
      exact ⟨[], rfl, ⟨fun e h => (by cases h), hl⟩, .inl ⟨_, rfl, rfl⟩⟩
    · obtain ⟨b, off, spot⟩ := a
      have hspot : spot = none := by simpa [Addr.add] using World.cell?_spot (hcell 0 (by omega))
      subst hspot
      have hc : ∀ j, j < ss.length → W.cell? ⟨b, off + j, none⟩ = some (.string (ss.getD j ByteArray.empty)) := fun j hj => by
        rw [← Go.WideShapes.add_plain]; exact hcell j hj
      refine ⟨(ss.take len0).map fun s => s.data.toList, by simp; omega, ⟨fun s hs => ?_, hl⟩, .inr ⟨b, off, cap0, by simp; omega, block_lt_of_cell (hc 0 (by omega)), fun j u hu => ?_⟩⟩
      · obtain ⟨x, hx, rfl⟩ := List.mem_map.1 hs
        exact len_data x (hsz x (List.mem_of_mem_take hx))
      · rw [List.getElem?_map, List.getElem?_map] at hu
        obtain ⟨y, hy, rfl⟩ := Option.map_eq_some_iff.1 hu
        obtain ⟨x, hx, rfl⟩ := Option.map_eq_some_iff.1 hy
        rw [List.getElem?_take] at hx
        split at hx
        · have hj : j < ss.length := (List.getElem?_eq_some_iff.1 hx).1
          have hgd : ss.getD j ByteArray.empty = x := by rw [List.getD_eq_getElem?_getD, hx]; rfl
          rw [hc j hj, hgd]
          unfold SB
          rw [← strB_data]
        · cases hx
end
end Go.Proofs.Ytaamhdgngnpmoaa
