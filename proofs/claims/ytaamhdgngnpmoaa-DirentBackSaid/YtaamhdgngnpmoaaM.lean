/-
  MEMORY (no program): a block that is known whole ('Row'), a slice that is read ('Sees'), and how both, and what has not turned, are carried over the steps of a call.
-/
import Derived.WalkKit
import Derived.Deep.Draws
import Derived.Deep.AppendSrc
import Derived.Laws.CopyOwn
import Derived.Deep.QuietTactic
namespace Go.Proofs.Ytaamhdgngnpmoaa
open Go.RowKit

/-- Block g is the row cs of type t, and may be written. -/
def Row (w : World) (g : Nat) (t : TypeId) (cs : List Value) : Prop := w.heap[g]? = some (.cells cs.toArray t (0, 0))

section
variable {w w' : World} {g : Nat} {t : TypeId} {cs : List Value}
theorem Row.lt (h : Row w g t cs) : g < w.heap.size := by
  rcases Nat.lt_or_ge g w.heap.size with k | k
  · exact k
  · simp [Row, Array.getElem?_eq_none k] at h
theorem Row.cell (h : Row w g t cs) (j : Nat) : w.cell? ⟨g, j, none⟩ = cs[j]? := by
  rw [cell_of_row w g j _ t (0, 0) h]; simp
theorem Row.free (h : Row w g t cs) (j : Nat) : w.frozen? ⟨g, j, none⟩ = false := frozen_of_row w g j _ t h
theorem Row.same (h : Row w g t cs) (k : w'.heap[g]? = w.heap[g]?) : Row w' g t cs := k.trans h
theorem Row.drew (h : Row w g t cs) : Row w.drew g t cs := h
theorem Row.drewN (h : Row w g t cs) (n : Nat) : Row (w.drewN n) g t cs := h
theorem Row.alloc (h : Row w g t cs) (o : Obj) : Row (w.alloc o) g t cs := h.same (Below.heap_alloc w o g h.lt)
theorem Row.new (w : World) (t : TypeId) (cs : List Value) : Row (w.alloc (.cells cs.toArray t)) w.heap.size t cs := heap_alloc_new w _
theorem Row.newAt {w : World} {g : Nat} (t : TypeId) (cs : List Value) (h : w.heap.size = g) : Row (w.alloc (.cells cs.toArray t)) g t cs := h ▸ Row.new w t cs
theorem Row.set (h : Row w g t cs) (j : Nat) (u : Value) : Row (w.setCell ⟨g, j, none⟩ u) g t (cs.set j u) := by
  have := heap_setCell_same w g j _ t u h
  unfold Row
  rw [this]
  simp
theorem Row.apart (h : Row w g t cs) {p : Addr} (hp : g ≠ p.block) (u : Value) : Row (w.setCell p u) g t cs := h.same (heap_setCell_other w p g u hp)
theorem Row.below {B : Nat} (h : Row w g t cs) (hb : Below B w w') (hg : g < B) : Row w' g t cs := h.same (hb.block g hg)
theorem Row.grown {row : Option Nat} (h : Row w g t cs) (hb : w.grownBy w' row) (hg : some g ≠ row) : Row w' g t cs := h.same (hb.block g h.lt hg)
theorem Row.whole (h : Row w g t cs) (ds : List Value) : Row (w.setRow g ds.toArray) g t ds := setRow_heap w g _ _ t _ h
theorem Row.wholeOff (h : Row w g t cs) {k : Nat} (hk : g ≠ k) (ds : Array Value) : Row (w.setRow k ds) g t cs := h.same (setRow_other w k g ds hk)
end

/-- Only block g, and what is new, may have turned. -/
theorem by_refl (w : World) (g : Option Nat) : w.grownBy w g := World.grownBy.refl w g
section
variable {a w w' : World} {g : Option Nat}
theorem by_drewN (h : a.grownBy w g) (n : Nat) : a.grownBy (w.drewN n) g := ⟨h.os, h.tape, h.output, h.size, h.block⟩
theorem by_drew (h : a.grownBy w g) : a.grownBy w.drew g := ⟨h.os, h.tape, h.output, h.size, h.block⟩
theorem by_trans (h : a.grownBy w g) (k : w.grownBy w' g) : a.grownBy w' g :=
  ⟨k.os.trans h.os, k.tape.trans h.tape, k.output.trans h.output, Nat.le_trans h.size k.size, fun i hi hn => (k.block i (Nat.lt_of_lt_of_le hi h.size) hn).trans (h.block i hi hn)⟩
theorem by_alloc (h : a.grownBy w g) (o : Obj) : a.grownBy (w.alloc o) g := by_trans h (World.grownBy_alloc w o g)
theorem by_below (h : a.grownBy w g) (k : Below w.heap.size w w') : a.grownBy w' g := by_trans h ⟨k.os, k.tape, k.output, k.size, fun i hi _ => k.block i hi⟩
theorem by_setCell (h : a.grownBy w g) {p : Addr} (hp : g = some p.block ∨ a.heap.size ≤ p.block) (u : Value) : a.grownBy (w.setCell p u) g := by
  refine ⟨h.os, h.tape, h.output, by simpa [World.setCell] using h.size, fun i hi hn => ?_⟩
  rw [heap_setCell_other w p i u (fun e => by
    rcases hp with hp | hp
    · exact hn (by rw [hp, e])
    · omega)]
  exact h.block i hi hn
theorem by_setRow (h : a.grownBy w g) {k : Nat} (hp : g = some k ∨ a.heap.size ≤ k) (ds : Array Value) : a.grownBy (w.setRow k ds) g := by
  refine ⟨h.os, h.tape, h.output, by simpa using h.size, fun i hi hn => ?_⟩
  rw [setRow_other w k i ds (fun e => by
    rcases hp with hp | hp
    · exact hn (by rw [hp, e])
    · omega)]
  exact h.block i hi hn
theorem by_to_below (h : a.grownBy w none) : Below a.heap.size a w := ⟨h.os, h.tape, h.output, h.size, fun i hi => h.block i hi (by simp)⟩
theorem below_to_by (h : Below a.heap.size a w) (g : Option Nat) : a.grownBy w g := ⟨h.os, h.tape, h.output, h.size, fun i hi _ => h.block i hi⟩
theorem below_drewN {B : Nat} (h : Below B a w) (n : Nat) : Below B a (w.drewN n) := ⟨h.os, h.tape, h.output, h.size, h.block⟩
theorem below_setRow' {B : Nat} (h : Below B a w) {k : Nat} (hk : B ≤ k) (ds : Array Value) : Below B a (w.setRow k ds) := below_setRow h hk ds
end

/-- The cells xs lie at block b from off on. -/
def Sees (w : World) (b off : Nat) (xs : List Value) : Prop := ∀ j u, xs[j]? = some u → w.cell? ⟨b, off + j, none⟩ = some u
section
variable {w w' : World} {b off : Nat} {xs : List Value}
theorem Sees.at_ (h : Sees w b off xs) {j : Nat} {u : Value} (hj : xs[j]? = some u) : w.cell? ⟨b, off + j, none⟩ = some u := h j u hj
theorem Sees.same (h : Sees w b off xs) (k : w'.heap[b]? = w.heap[b]?) : Sees w' b off xs := fun j u hu => (World.cell?_of_block (w := w) k).trans (h j u hu)
theorem Sees.below {B : Nat} (h : Sees w b off xs) (hb : Below B w w') (hB : b < B) : Sees w' b off xs := h.same (hb.block b hB)
theorem Sees.grown {row : Option Nat} (h : Sees w b off xs) (hb : w.grownBy w' row) (hl : b < w.heap.size) (hg : some b ≠ row) : Sees w' b off xs := h.same (hb.block b hl hg)
theorem Sees.drewN (h : Sees w b off xs) (n : Nat) : Sees (w.drewN n) b off xs := h
theorem Sees.alloc (h : Sees w b off xs) (hl : b < w.heap.size) (o : Obj) : Sees (w.alloc o) b off xs := h.same (Below.heap_alloc w o b hl)
theorem Sees.setCell (h : Sees w b off xs) {p : Addr} (hp : b ≠ p.block) (u : Value) : Sees (w.setCell p u) b off xs := h.same (heap_setCell_other w p b u hp)
theorem Sees.piece (h : Sees w b off xs) (i n : Nat) : Sees w b (off + i) ((xs.drop i).take n) := fun j u hu => by
  rw [Nat.add_assoc]
  refine h _ u ?_
  rw [List.getElem?_take] at hu
  split at hu
  · rwa [List.getElem?_drop] at hu
  · cases hu
theorem Sees.tail (h : Sees w b off xs) (i : Nat) : Sees w b (off + i) (xs.drop i) := fun j u hu => by
  rw [Nat.add_assoc]
  exact h _ u (by rwa [List.getElem?_drop] at hu)
theorem Row.sees {g : Nat} {t : TypeId} {cs : List Value} (h : Row w g t cs) : Sees w g 0 cs := fun j u hu => by
  rw [Nat.zero_add, h.cell]; exact hu
theorem Sees.lt (h : Sees w b off xs) (hp : 0 < xs.length) : b < w.heap.size := by
  have hc := h 0 _ (List.getElem?_eq_getElem hp)
  rcases Nat.lt_or_ge b w.heap.size with k | k
  · exact k
  · simp [World.cell?, Array.getElem?_eq_none k] at hc
theorem Sees.nil : Sees w b off [] := fun j u hu => by simp at hu
end

/-- The world under a new name, with what is known of it. -/
theorem leave_wp {P : Program} {c : Code} {Q : Exit → Act → World → Prop} {a : Act} {w : World} (F : World → Prop) (h : F w) (k : ∀ w2, F w2 → c.wp P Q a w2) : c.wp P Q a w := k w h

end Go.Proofs.Ytaamhdgngnpmoaa
