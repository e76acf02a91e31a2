/-
  WHAT THE READING OF AN ARGUMENT GIVES: an array of 12 bytes, a slice of bytes.
-/
import Derived.Test.YtjdpfeagicchnaaEM
import Derived.Deep.Matrix
namespace Go.Proofs.Ytjdpfeagicchnaa
open Go.ChangeShapes Go.WideShapes Go.ChangeAt Go.RowKit Go.Deep

theorem cellsB : Try.prog.cellsOf 5 = 1 := by kernel_rfl
theorem cells12 : Try.prog.cellsOf 23 = 12 := by kernel_rfl
theorem okWide_12 {W : World} {r : Reach} {b0 : Nat} {v : Value} (h : Value.okWide Try.prog W r b0 23 v) : ∃ xs : Array Value, v = .agg xs ∧ xs.size = 12 := by
  simp only [Value.okWide, Try.underlying23] at h
  obtain ⟨cs, h1, h2, _⟩ := h
  exact ⟨cs, h1, by rw [h2, cells12]⟩

theorem open12 {H : Type} {enc : TypeId × Value → H} {W : World} {xs : Array Value} {d0 : DataW H} {p0 : List MemPlace} (hn : xs.size = 12)
    (h0 : DataW.Trod enc Try.prog W 0 (fun _ => true) true 23 (.agg xs) d0 p0) : ∃ bs : List UInt8, Vec 12 bs xs.toList := by
  obtain ⟨fuel, hf⟩ := h0
  obtain ⟨ys, m, _, _, _, hyl, hel⟩ := DataW.trod_array Try.underlying23 hf
  refine ⟨xs.toList.map numOf, ?_, by simp [hn]⟩
  rw [List.map_map]
  apply List.ext_getElem?
  intro i
  rcases Nat.lt_or_ge i 12 with hi | hi
  · have h1 := hel i hi
    rw [cells8, Nat.mul_one, List.getElem?_eq_getElem (by omega : i < ys.length)] at h1
    obtain ⟨a, ea, _, wa⟩ := DataW.trod_int Try.underlying5 h1
    have hb := bounds_u8 wa
    have hx : xs.toList[i]? = some (.int .u8 a) := by
      have h2 := congrArg List.head? ea
      simpa [Value.cells, List.head?_take, List.head?_drop] using h2
    rw [List.getElem?_map, hx]
    simp only [Option.map_some, Function.comp, numOf, V8]
    rw [toNat_ofNat8 (by omega)]
    congr 2
    omega
  · rw [List.getElem?_eq_none (by simp [hn]; omega), List.getElem?_eq_none (by simp [hn]; omega)]

/-- A slice of bytes as the reading gives it. -/
theorem arg_of {W : World} {a : Option Addr} {len cap : Nat} {zs : List Int}
    (h : (a = none ∧ len = 0 ∧ cap = 0 ∧ zs = []) ∨ ∃ x, a = some x ∧ len ≤ cap ∧ cap ≤ maxLen ∧ zs.length = cap ∧ (∀ i, i < zs.length → W.cell? (x.add i) = some (.int .u8 (zs.getD i 0))) ∧ ∀ n ∈ zs, (Lit.int .u8 n).wf = true) :
    ∃ bs : List UInt8, bs.length = len ∧ Arg W (.slice a len cap) bs := by
  rcases h with ⟨rfl, rfl, rfl, rfl⟩ | ⟨x, rfl, hl, hm, hz, hc, hw⟩
  · exact ⟨[], rfl, .inl ⟨none, rfl, rfl⟩⟩
  · rcases Nat.eq_zero_or_pos cap with h0 | h0
    · obtain rfl : len = 0 := by omega
      subst h0
      exact ⟨[], rfl, .inl ⟨_, rfl, rfl⟩⟩
    · obtain ⟨b, off, rfl, hc'⟩ := ints_at hc (by omega)
      have hb : b < W.heap.size := block_lt_of_cell (hc' 0 (by omega))
      refine ⟨(zs.take len).map fun n => UInt8.ofNat n.toNat, by simp; omega, .inr ⟨b, off, cap, by simp; omega, hb, by simp; omega, ?_⟩⟩
      intro j u hu
      rw [List.getElem?_map, List.getElem?_map] at hu
      obtain ⟨x, hx, rfl⟩ := Option.map_eq_some_iff.1 hu
      obtain ⟨z, hz1, rfl⟩ := Option.map_eq_some_iff.1 hx
      rw [List.getElem?_take] at hz1
      split at hz1
      · have hj : j < zs.length := (List.getElem?_eq_some_iff.1 hz1).1
        rw [hc' j hj]
        have hzz : zs.getD j 0 = z := by rw [List.getD_eq_getElem?_getD, hz1]; rfl
        have hbd := bounds_u8 (hw z (List.mem_of_getElem? hz1))
        rw [hzz, V8, toNat_ofNat8 (by omega)]
        congr 2
        omega
      · cases hz1
theorem open_arg {H : Type} {enc : TypeId × Value → H} {W : World} {a0 : Option Addr} {len0 cap0 : Nat} {d0 : DataW H} {p0 : List MemPlace}
    (h0 : DataW.Trod enc Try.prog W 0 (fun _ => true) true 24 (.slice a0 len0 cap0) d0 p0) : ∃ bs : List UInt8, bs.length = len0 ∧ Arg W (.slice a0 len0 cap0) bs := by
  obtain ⟨fuel, hf⟩ := h0
  rcases open_ints Try.underlying24 Try.underlying5 cellsB hf with ⟨hcs, _⟩ | ⟨x, l, c, zs, hcs, _, hl, hm, hz, _, hcell, hwz⟩
  · simp [Value.cells] at hcs
    obtain ⟨rfl, rfl, rfl⟩ := hcs
    exact arg_of (.inl ⟨rfl, rfl, rfl, rfl⟩)
  · simp [Value.cells] at hcs
    obtain ⟨rfl, rfl, rfl⟩ := hcs
    exact arg_of (.inr ⟨_, rfl, hl, hm, by simpa using hz, hcell, hwz⟩)
end Go.Proofs.Ytjdpfeagicchnaa
