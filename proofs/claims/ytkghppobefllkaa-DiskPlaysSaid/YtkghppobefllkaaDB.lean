/-
  THE DISK IN MEMORY ('DiskW'); the walks of Blocks, at, current.
-/
import Derived.Test.YtkghppobefllkaaDA
namespace Go.Proofs.Ytkghppobefllkaa
open Go.RowKit Dsk

theorem V8_length (l : List UInt8) (n : Nat) (h : l.length = n) : (l.map V8).length = n := by rw [List.length_map, h]

/-- A block's cells. -/
def cellsB (b : Blk) (p : Nat) : List Value := b.dur.map V8 ++ (.pointer (if b.dirty then some ⟨p, 0, none⟩ else none) :: b.past.map V8)
theorem cellsB_length {b : Blk} (h : b.ok) (p : Nat) : (cellsB b p).length = 145 := by simp [cellsB, h.dur, h.past]

/-- The program's disk: its head at D, its blocks at g, what is written of block i at ps i; F: the parts of memory that may be the disk's. -/
structure DiskW (w : World) (F : Nat → Prop) (D g : Nat) (ps : Nat → Nat) (L : List Blk) : Prop where
  head : Here w D 0 [.slice (some ⟨g, 0, none⟩) L.length L.length]
  row : ∀ (i : Nat) (b : Blk), L[i]? = some b → Here w g (i * 145) (cellsB b (ps i))
  wr : ∀ (i : Nat) (b : Blk), L[i]? = some b → b.dirty = true → Here w (ps i) 0 (b.cur.map V8)
  ok : ∀ (i : Nat) (b : Blk), L[i]? = some b → b.ok
  inj : ∀ (i j : Nat) (b c : Blk), L[i]? = some b → L[j]? = some c → b.dirty = true → c.dirty = true → ps i = ps j → i = j
  apart : ∀ (i : Nat) (b : Blk), L[i]? = some b → b.dirty = true → ps i ≠ D ∧ ps i ≠ g ∧ F (ps i)
  dg : D ≠ g
  fD : F D
  fg : F g
  lt : ∀ k, F k → k < w.heap.size
  few : L.length ≤ 512

section
variable {w w' : World} {F : Nat → Prop} {D g : Nat} {ps : Nat → Nat} {L : List Blk}
theorem DiskW.dur (h : DiskW w F D g ps L) {i : Nat} {b : Blk} (hb : L[i]? = some b) : Here w g (i * 145) (b.dur.map V8) := (h.row i b hb).left
theorem DiskW.ptr (h : DiskW w F D g ps L) {i : Nat} {b : Blk} (hb : L[i]? = some b) : Here w g (i * 145 + 72) [.pointer (if b.dirty then some ⟨ps i, 0, none⟩ else none)] := by
  have h1 := (h.row i b hb).right
  rw [V8_length _ 72 (h.ok i b hb).dur] at h1
  exact Here.left (cs := [_]) h1
theorem DiskW.past (h : DiskW w F D g ps L) {i : Nat} {b : Blk} (hb : L[i]? = some b) : Here w g (i * 145 + 73) (b.past.map V8) := by
  have h1 := (h.row i b hb).right
  rw [V8_length _ 72 (h.ok i b hb).dur] at h1
  exact Here.right (cs := [_]) h1
/-- Where the content lies that is read. -/
def curAt (g : Nat) (ps : Nat → Nat) (i : Nat) (b : Blk) : Addr := if b.dirty then ⟨ps i, 0, none⟩ else ⟨g, i * 145, none⟩
theorem DiskW.cur (h : DiskW w F D g ps L) {i : Nat} {b : Blk} (hb : L[i]? = some b) : Here w (curAt g ps i b).block (curAt g ps i b).off (b.cur.map V8) := by
  unfold curAt
  by_cases hd : b.dirty = true
  · rw [if_pos hd]; exact h.wr i b hb hd
  · rw [if_neg hd]
    have : b.cur = b.dur := by
      unfold Blk.cur
      cases hw : b.wr with
      | none => rfl
      | some c => exact absurd (by unfold Blk.dirty; rw [hw]; rfl) hd
    rw [this]
    exact h.dur hb
theorem curAt_spot (g : Nat) (ps : Nat → Nat) (i : Nat) (b : Blk) : (curAt g ps i b).spot = none := by unfold curAt; split <;> rfl
end

set_option maxRecDepth 100000 in
set_option maxHeartbeats 400000 in
theorem DBlocks_any {w : World} {F : Nat → Prop} {D g : Nat} {ps : Nat → Nat} {L : List Blk} (h : DiskW w F D g ps L) :
    Calls Try.prog 25 #[.pointer (some ⟨D, 0, none⟩)] w fun e w' => e = .returned (.int .i64 L.length) ∧ w' = w := by
  have hc := h.head.head (j := 0) rfl
  generalize L.length = n at *
  clear h
  go_enter Try.func25, Try.ntmps25
  go_wp2
  go_ret
  exact ⟨rfl, rfl⟩

set_option maxRecDepth 100000 in
set_option maxHeartbeats 400000 in
theorem Dat_in {w : World} {F : Nat → Prop} {D g : Nat} {ps : Nat → Nat} {L : List Blk} (h : DiskW w F D g ps L) (i : Nat) (hi : i < L.length) :
    Calls Try.prog 28 #[.pointer (some ⟨D, 0, none⟩), .int .i64 i] w fun e w' => e = .returned (.pointer (some ⟨g, i * 145, none⟩)) ∧ w' = w := by
  have hc := h.head.head (j := 0) rfl
  have HB := Lib.hid (DBlocks_any h)
  have hf := h.few
  generalize L.length = n at *
  clear h
  go_enter Try.func28, Try.ntmps28
  go_wp2_with fail
  refine HB.out.mono ?_
  rintro e w1 ⟨rfl, rfl⟩
  clear HB
  go_wp2
  go_ret
  exact ⟨rfl, rfl⟩

set_option maxRecDepth 100000 in
set_option maxHeartbeats 400000 in
theorem Dat_out {w : World} {F : Nat → Prop} {D g : Nat} {ps : Nat → Nat} {L : List Blk} (h : DiskW w F D g ps L) (i : Int) (hi : i < 0 ∨ (L.length : Int) ≤ i) :
    Calls Try.prog 28 #[.pointer (some ⟨D, 0, none⟩), .int .i64 i] w fun e w' => e = .returned (.pointer none) ∧ w' = w := by
  have HB := Lib.hid (DBlocks_any h)
  have hf := h.few
  generalize L.length = n at *
  clear h
  go_enter Try.func28, Try.ntmps28
  rcases Int.lt_or_le i 0 with h0 | h0
  · go_wp2_with fail
    go_ret
    exact ⟨rfl, rfl⟩
  · have h1 : (n : Int) ≤ i := by omega
    clear hi
    go_wp2_with fail
    refine HB.out.mono ?_
    rintro e w1 ⟨rfl, rfl⟩
    clear HB
    go_wp2
    go_ret
    exact ⟨rfl, rfl⟩

set_option maxRecDepth 100000 in
set_option maxHeartbeats 400000 in
theorem Dcur_any (g o : Nat) (d : Bool) (p : Nat) (w : World) (hc : w.cell? ⟨g, o + 72, none⟩ = some (.pointer (if d then some ⟨p, 0, none⟩ else none))) :
    Calls Try.prog 34 #[.pointer (some ⟨g, o, none⟩)] w fun e w' => e = .returned (.pointer (some (if d then ⟨p, 0, none⟩ else ⟨g, o, none⟩))) ∧ w' = w := by
  go_enter Try.func34, Try.ntmps34
  cases d
  · rw [if_neg (by simp)] at hc
    go_wp2
    go_ret
    exact ⟨rfl, rfl⟩
  · rw [if_pos rfl] at hc
    go_wp2
    go_ret
    exact ⟨rfl, rfl⟩
end Go.Proofs.Ytkghppobefllkaa
