/-
  THE WALK of newShard.
-/
import Derived.Test.YthcphabfeapjbaaPXD
import Derived.Laws.EntriesVeiled
namespace Go.Proofs.Ythcphabfeapjbaa
open Go.RowKit Ca

/-- A free place's cells. -/
def ZE : List Value := [.bool false, .int .i64 0, .slice none 0 0, .bool false, .int .i64 0]
theorem infoEn : (Try.prog.info? 68).map (fun i => (i.zero, i.size, i.bytes)) = some (some (.agg ZE.toArray), 5, 56) := by kernel_rfl
theorem madeEn (n : Nat) (hn : n ≤ 64) (w : World) : (Instr.makeSlice 55 (.int .i64 (n : Int)) (.int .i64 (n : Int))).run Try.prog w = .ok (.slice (some ⟨w.heap.size, 0, none⟩) n n) (w.alloc (.cells (madeCells ZE.toArray (n * 5)) 68)) := by
  obtain ⟨i, hi, hz0, hz1, hz2⟩ := info_parts infoEn
  have := run_make (P := Try.prog) w 55 68 i (.agg ZE.toArray) Try.underlying55 hi hz0 .i64 .i64 n n (by omega) (by omega) (by rw [hz2]; omega) (by omega)
  simp only [hz1, Int.toNat_natCast] at this
  exact this
theorem madeEnHere (w : World) (n i : Nat) (hi : i < n) : Here (w.alloc (.cells (madeCells ZE.toArray (n * 5)) 68)) w.heap.size (i * 5) ZE := by
  have h0 := (Row.new w 68 (madeCells ZE.toArray (n * 5)).toList).here
  rw [Array.toArray_toList] at h0
  have h1 := h0.part (i * 5) 5
  rw [Nat.zero_add] at h1
  have e : ((madeCells ZE.toArray (n * 5)).toList.drop (i * 5)).take 5 = ZE := by
    apply List.ext_getElem?
    intro j
    rw [List.getElem?_take]
    by_cases hj : j < 5
    · rw [if_pos hj, List.getElem?_drop, Array.getElem?_toList, madeCells, Array.getElem?_map, Array.getElem?_range, if_pos (by omega), Option.map_some]
      show some (ZE.toArray[(i * 5 + j) % 5]!) = _
      rw [show (i * 5 + j) % 5 = j by omega]
      obtain rfl | rfl | rfl | rfl | rfl : j = 0 ∨ j = 1 ∨ j = 2 ∨ j = 3 ∨ j = 4 := by omega
      all_goals rfl
    · rw [if_neg hj]
      exact (List.getElem?_eq_none (by show 5 ≤ j; omega)).symm
  rw [e] at h1
  exact h1

set_option maxRecDepth 100000 in
set_option maxHeartbeats 1000000 in
theorem CnewShard_any (room : Nat) (hr : room ≤ 64) (w : World) : Calls Try.prog 22 #[.int .i64 (room : Int)] w fun e w' => ∃ p r, e = .returned (.agg #[.slice (some ⟨p, 0, none⟩) room room, handV r])
    ∧ Hid (w.heap.size ≤ p ∧ p < w'.heap.size ∧ w.heap.size ≤ r ∧ r < w'.heap.size ∧ p ≠ r ∧ (∀ j, j < room → Here w' p (j * 5) ZE) ∧ Here w' r 0 [.int .i64 0, .int .i64 (room : Int)] ∧ Below w.heap.size w w') := by
  have hmk : ∀ W : World, _ := fun W => madeEn room hr W
  go_enter Try.func22, Try.ntmps22
  go_wp2
  obtain ⟨cs, hcs⟩ : ∃ cs : List Value, cs = [.slice (some ⟨w.heap.size + 1 + 1, 0, none⟩) room room, handV (w.heap.size + 1)] := ⟨_, rfl⟩
  have hlast := ((Row.new w 58 cs).alloc (.cells #[.int .i64 0, .int .i64 (room : Int)] 73)).alloc (.cells (madeCells ZE.toArray (room * 5)) 68)
  rw [hcs] at hlast
  refine bodyPost_ret (v := .agg cs.toArray) (by rw [hcs]; exact results_cell_row rfl _ _ w.heap.size 58 _ (0, 0) _ rfl hlast Try.underlying58 rfl (by kernel_rfl)) rfl ?_
  rw [hcs]
  refine ⟨w.heap.size + 1 + 1, w.heap.size + 1, rfl, by omega, by simp, by omega, by simp <;> omega, by omega, fun j hj => ?_, ?_, ?_⟩
  · have := madeEnHere ((w.alloc (.cells #[.slice (some ⟨w.heap.size + 1 + 1, 0, none⟩) room room, handV (w.heap.size + 1)] 58)).alloc (.cells #[.int .i64 0, .int .i64 (room : Int)] 73)) room j hj
    simpa using this
  · exact ((Row.newAt 73 [.int .i64 0, .int .i64 (room : Int)] (by simp)).alloc _).here
  · exact (((Below.refl _ _).alloc (Nat.le_refl _) _).alloc (by simp) _).alloc (by simp; omega) _
end Go.Proofs.Ythcphabfeapjbaa
