/-
  THE WALK of the program's New.
-/
import Derived.Test.YtkghppobefllkaaDI
import Derived.Deep.OwnRows
namespace Go.Proofs.Ytkghppobefllkaa
open Go.RowKit Dsk

def Zb : List Value := List.replicate 72 (.int .u8 0) ++ .pointer none :: List.replicate 72 (.int .u8 0)
theorem Zb_length : Zb.length = 145 := by simp [Zb]
theorem Zb_cells (p : Nat) : Zb = cellsB Blk.zero p := by
  unfold Zb cellsB Blk.zero z72
  rw [List.map_replicate]
  rfl
theorem infoBlk : (Try.prog.info? 68).map (fun i => (i.zero, i.size, i.bytes)) = some (some (.agg Zb.toArray), 145, 152) := by kernel_rfl
theorem madeBlk (n : Nat) (hn : n ≤ 512) (w : World) : (Instr.makeSlice 50 (.int .i64 (n : Int)) (.int .i64 (n : Int))).run Try.prog w = .ok (.slice (some ⟨w.heap.size, 0, none⟩) n n) (w.alloc (.cells (madeCells Zb.toArray (n * 145)) 68)) := by
  obtain ⟨i, hi, h⟩ := Option.map_eq_some_iff.1 infoBlk
  simp only [Prod.mk.injEq] at h
  have := run_make (P := Try.prog) w 50 68 i _ Try.underlying50 hi h.1 .i64 .i64 n n (by omega) (Int.le_refl _) (by rw [h.2.2]; omega) (by omega)
  rw [h.2.1] at this
  exact this
theorem madeHere (w : World) (n i : Nat) (hi : i < n) (p : Nat) : Here (w.alloc (.cells (madeCells Zb.toArray (n * 145)) 68)) w.heap.size (i * 145) (cellsB Blk.zero p) := by
  have h0 := (Row.new w 68 (madeCells Zb.toArray (n * 145)).toList).here
  rw [Array.toArray_toList] at h0
  have h1 := h0.part (i * 145) 145
  rw [Nat.zero_add] at h1
  have e : ((madeCells Zb.toArray (n * 145)).toList.drop (i * 145)).take 145 = cellsB Blk.zero p := by
    rw [← Zb_cells p]
    apply List.ext_getElem?
    intro j
    rw [List.getElem?_take]
    by_cases hj : j < 145
    · rw [if_pos hj, List.getElem?_drop, Array.getElem?_toList, madeCells, Array.getElem?_map, Array.getElem?_range, if_pos (by omega), Option.map_some]
      have hs : Zb.toArray.size = 145 := by rw [List.size_toArray, Zb_length]
      rw [hs, show (i * 145 + j) % 145 = j by omega, List.getElem?_eq_getElem (by rw [Zb_length]; exact hj)]
      rw [getElem!_pos Zb.toArray j (by rw [hs]; exact hj)]
      rfl
    · rw [if_neg hj, List.getElem?_eq_none (by rw [Zb_length]; omega)]
  rw [e] at h1
  exact h1

set_option maxRecDepth 100000 in
set_option maxHeartbeats 400000 in
theorem DNew_bad (n : Int) (hn : n < 1 ∨ 512 < n) (w : World) :
    Calls Try.prog 6 #[.int .i64 n] w fun e w' => e = .returned (.tuple #[.pointer none, .int .i64 1]) ∧ w' = w := by
  go_enter Try.func6, Try.ntmps6
  by_cases h1 : n < 1
  · clear hn
    go_wp2
    go_ret2
    exact ⟨rfl, rfl⟩
  · have h2 : 512 < n := by omega
    clear hn
    go_wp2
    go_ret2
    exact ⟨rfl, rfl⟩

set_option maxRecDepth 100000 in
set_option maxHeartbeats 400000 in
theorem DNew_any (n : Nat) (h1 : 1 ≤ n) (h2 : n ≤ 512) (w : World) :
    Calls Try.prog 6 #[.int .i64 n] w fun e w' => ∃ D F, e = .returned (.tuple #[.pointer (some ⟨D, 0, none⟩), .int .i64 0]) ∧ DiskAt w' F D (List.replicate n Blk.zero) ∧ (∀ k, F k → w.heap.size ≤ k) ∧ Below w.heap.size w w' := by
  have hmk := madeBlk n h2
  have HF : Hid (∀ w', w' = (w.alloc (.cells (madeCells Zb.toArray (n * 145)) 68)).alloc (.cells #[.slice (some ⟨w.heap.size, 0, none⟩) n n] 52) → DiskAt w' (fun k => w.heap.size ≤ k ∧ k < w.heap.size + 2) (w.heap.size + 1) (List.replicate n Blk.zero) ∧ Below w.heap.size w w') := by
    rintro w' rfl
    have hz : ∀ (i : Nat) (b : Blk), (List.replicate n Blk.zero)[i]? = some b → b = Blk.zero ∧ i < n := fun i b hb => by
      rw [List.getElem?_replicate] at hb
      split at hb
      · injection hb with hb; exact ⟨hb.symm, by assumption⟩
      · cases hb
    constructor
    · refine ⟨w.heap.size, fun _ => 0, ?_, fun i b hb => ?_, fun i b hb hd => ?_, fun i b hb => ?_, fun i j b c hb _ hd => ?_, fun i b hb hd => ?_, by omega, ⟨by omega, by omega⟩, ⟨by omega, by omega⟩, fun k hk => by simp; exact hk.2, by simp; omega⟩
      · have := (Row.newAt (w := w.alloc (.cells (madeCells Zb.toArray (n * 145)) 68)) 52 [.slice (some ⟨w.heap.size, 0, none⟩) n n] (by simp)).here (g := w.heap.size + 1)
        rwa [List.length_replicate]
      · obtain ⟨rfl, hi⟩ := hz i b hb
        exact (madeHere w n i hi 0).alloc _
      · obtain ⟨rfl, hi⟩ := hz i b hb; cases hd
      · obtain ⟨rfl, hi⟩ := hz i b hb; exact Blk.zero_ok
      · obtain ⟨rfl, hi⟩ := hz i b hb; cases hd
      · obtain ⟨rfl, hi⟩ := hz i b hb; cases hd
    · exact ((Below.refl _ _).alloc (Nat.le_refl _) _).alloc (by simp) _
  generalize List.replicate n Blk.zero = L at *
  generalize madeCells Zb.toArray (n * 145) = mc at *
  go_enter Try.func6, Try.ntmps6
  go_wp2
  go_ret2
  obtain ⟨h3, h4⟩ := HF.out _ rfl
  exact ⟨_, _, rfl, h3, fun k hk => hk.1, h4⟩
end Go.Proofs.Ytkghppobefllkaa
