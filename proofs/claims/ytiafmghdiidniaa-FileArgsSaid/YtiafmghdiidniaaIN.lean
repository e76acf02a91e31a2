/-
  WHAT THE READING OF AN ARGUMENT GIVES: an inode.
-/
import Derived.Test.YtiafmghdiidniaaIB
import Derived.Test.YtiafmghdiidniaaFN
import Derived.ChangeSame
set_option maxRecDepth 100000
namespace Go.Proofs.Ytiafmghdiidniaa
open Go.ChangeShapes Go.WideShapes Go.ChangeAt Go.RowKit Go.Deep Cdc Inn

theorem cellsIn1 : Try.prog.cellsOf 3 = 1 := by kernel_rfl
theorem cellsIno : Try.prog.cellsOf 40 = 7 := by kernel_rfl
theorem cellsA4 : Try.prog.cellsOf 38 = 4 := by kernel_rfl
theorem okWide_ino {W : World} {r : Reach} {b0 : Nat} {v : Value} (h : Value.okWide Try.prog W r b0 40 v) : ∃ xs : Array Value, v = .agg xs ∧ xs.size = 7 := by
  simp only [Value.okWide, Try.underlying40] at h
  obtain ⟨cs, h1, h2, _⟩ := h
  exact ⟨cs, h1, by rw [h2, cellsIno]⟩
theorem in64_wf {z : Int} (h : (Lit.int .i64 z).wf = true) : In64 z := by
  have := bounds_i64 h
  exact ⟨by omega, by omega⟩
section
variable {H : Type} {enc : TypeId × Value → H} {W : World}
theorem raw_int {fuel : Nat} {c : Value} {x : DataW H × List MemPlace} (h : DataW.trod enc Try.prog W 0 (fun _ => true) true fuel 3 [c] = some x) : ∃ z, c = .int .i64 z ∧ In64 z := by
  obtain ⟨n, e, _, hw⟩ := DataW.trod_int Try.underlying3 h
  exact ⟨n, by simpa using e, in64_wf hw⟩
theorem raw_a4 {fuel : Nat} {c0 c1 c2 c3 : Value} {x : DataW H × List MemPlace} (h : DataW.trod enc Try.prog W 0 (fun _ => true) true fuel 38 [c0, c1, c2, c3] = some x) :
    ∃ z0 z1 z2 z3, c0 = .int .i64 z0 ∧ c1 = .int .i64 z1 ∧ c2 = .int .i64 z2 ∧ c3 = .int .i64 z3 ∧ In64 z0 ∧ In64 z1 ∧ In64 z2 ∧ In64 z3 := by
  obtain ⟨ys, m, _, _, _, hyl, hel⟩ := DataW.trod_array Try.underlying38 h
  rw [cellsIn1] at hel
  match ys, hyl with
  | [y0, y1, y2, y3], _ =>
    obtain ⟨z0, e0, w0⟩ := raw_int (h := (hel 0 (by omega) : DataW.trod enc Try.prog W 0 (fun _ => true) true m 3 [c0] = some y0))
    obtain ⟨z1, e1, w1⟩ := raw_int (h := (hel 1 (by omega) : DataW.trod enc Try.prog W 0 (fun _ => true) true m 3 [c1] = some y1))
    obtain ⟨z2, e2, w2⟩ := raw_int (h := (hel 2 (by omega) : DataW.trod enc Try.prog W 0 (fun _ => true) true m 3 [c2] = some y2))
    obtain ⟨z3, e3, w3⟩ := raw_int (h := (hel 3 (by omega) : DataW.trod enc Try.prog W 0 (fun _ => true) true m 3 [c3] = some y3))
    exact ⟨z0, z1, z2, z3, e0, e1, e2, e3, w0, w1, w2, w3⟩
theorem raw_ino {fuel : Nat} {cs : List Value} {x : DataW H × List MemPlace} (hn : cs.length = 7) (h : DataW.trod enc Try.prog W 0 (fun _ => true) true fuel 40 cs = some x) : ∃ i : Ino, cs = i.l.map VI ∧ i.fits := by
  obtain ⟨ys, m, _, _, _, hyl, hel⟩ := DataW.trod_struct Try.underlying40 h
  match cs, hn, ys, hyl with
  | [c0, c1, c2, c3, c4, c5, c6], _, [y0, y1, y2, y3], _ =>
    have f0 : DataW.trod enc Try.prog W 0 (fun _ => true) true m 3 [c0] = some y0 := by have := hel 0 _ rfl; simpa [cellsIn1] using this
    have f1 : DataW.trod enc Try.prog W 0 (fun _ => true) true m 3 [c1] = some y1 := by have := hel 1 _ rfl; simpa [cellsIn1] using this
    have f2 : DataW.trod enc Try.prog W 0 (fun _ => true) true m 38 [c2, c3, c4, c5] = some y2 := by have := hel 2 _ rfl; simpa [cellsA4] using this
    have f3 : DataW.trod enc Try.prog W 0 (fun _ => true) true m 3 [c6] = some y3 := by have := hel 3 _ rfl; simpa [cellsIn1] using this
    obtain ⟨z0, rfl, w0⟩ := raw_int f0
    obtain ⟨z1, rfl, w1⟩ := raw_int f1
    obtain ⟨a0, a1, a2, a3, rfl, rfl, rfl, rfl, v0, v1, v2, v3⟩ := raw_a4 f2
    obtain ⟨z6, rfl, w6⟩ := raw_int f3
    refine ⟨⟨z0, z1, a0, a1, a2, a3, z6⟩, rfl, fun z hz => ?_⟩
    simp only [Ino.l, List.mem_cons, List.not_mem_nil, or_false] at hz
    rcases hz with rfl | rfl | rfl | rfl | rfl | rfl | rfl <;> assumption
theorem open_ino {xs : Array Value} (hn : xs.size = 7) {d0 : DataW H} {p0 : List MemPlace} (h0 : DataW.Trod enc Try.prog W 0 (fun _ => true) true 40 (.agg xs) d0 p0) : ∃ i : Ino, xs = inoC i ∧ i.fits := by
  obtain ⟨fuel, hf⟩ := h0
  have hf' : DataW.trod enc Try.prog W 0 (fun _ => true) true fuel 40 xs.toList = some (d0, p0) := by simpa [Value.cells] using hf
  obtain ⟨i, e, hi⟩ := raw_ino (by simpa using hn) hf'
  exact ⟨i, by rw [inoC_l, ← e], hi⟩
end
end Go.Proofs.Ytiafmghdiidniaa
