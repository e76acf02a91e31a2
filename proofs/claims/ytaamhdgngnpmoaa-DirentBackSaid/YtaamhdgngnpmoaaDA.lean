/-
  THE DISK, PLAIN (no function of the program): blocks as lists; what lies in memory and may be written ('Here'); which cells a call may have turned ('Chg').
-/
import Derived.Test.YtaamhdgngnpmoaaO
import Derived.Deep.MidRow
namespace Go.Proofs.Ytaamhdgngnpmoaa
open Go.RowKit

/-- Cells that lie somewhere, and may be written. -/
def Here (w : World) (b o : Nat) (cs : List Value) : Prop := w.rangeAt b o cs ∧ w.there b o cs.length
section
variable {w w' : World} {b o : Nat} {cs : List Value}
theorem Here.cell (h : Here w b o cs) {j : Nat} {v : Value} (hj : cs[j]? = some v) : w.cell? ⟨b, o + j, none⟩ = some v := h.1 j v hj
theorem Here.free (h : Here w b o cs) {j : Nat} (hj : j < cs.length) : w.frozen? ⟨b, o + j, none⟩ = false := (h.2 j hj).2
theorem Here.head (h : Here w b 0 cs) {j : Nat} {v : Value} (hj : cs[j]? = some v) : w.cell? ⟨b, j, none⟩ = some v := by have := h.1 j v hj; rwa [Nat.zero_add] at this
theorem Here.headFree (h : Here w b 0 cs) {j : Nat} (hj : j < cs.length) : w.frozen? ⟨b, j, none⟩ = false := by have := (h.2 j hj).2; rwa [Nat.zero_add] at this
theorem Here.lt (h : Here w b o cs) (hp : 0 < cs.length) : b < w.heap.size := by
  have hc := h.1 0 _ (List.getElem?_eq_getElem hp)
  exact World.block_lt_of_cell? w _ hc
theorem Here.part (h : Here w b o cs) (i n : Nat) : Here w b (o + i) ((cs.drop i).take n) := by
  refine ⟨fun j v hv => ?_, fun j hj => ?_⟩
  · rw [Nat.add_assoc]
    refine h.1 _ v ?_
    rw [List.getElem?_take] at hv
    split at hv
    · rwa [List.getElem?_drop] at hv
    · cases hv
  · rw [Nat.add_assoc]
    rw [List.length_take, List.length_drop] at hj
    exact h.2 _ (by omega)
theorem Row.here {g : Nat} {t : TypeId} (h : Row w g t cs) : Here w g 0 cs :=
  ⟨fun j v hv => by rw [Nat.zero_add, h.cell]; exact hv, fun j hj => by rw [Nat.zero_add, h.cell, List.getElem?_eq_getElem hj]; exact ⟨rfl, h.free j⟩⟩
theorem Here.append {ds : List Value} (h : Here w b o cs) (k : Here w b (o + cs.length) ds) : Here w b o (cs ++ ds) := by
  refine ⟨fun j v hv => ?_, fun j hj => ?_⟩
  · rcases Nat.lt_or_ge j cs.length with hl | hl
    · rw [List.getElem?_append_left hl] at hv; exact h.1 j v hv
    · rw [List.getElem?_append_right hl] at hv
      have := k.1 _ v hv
      rwa [show o + cs.length + (j - cs.length) = o + j by omega] at this
  · rw [List.length_append] at hj
    rcases Nat.lt_or_ge j cs.length with hl | hl
    · exact h.2 j hl
    · have := k.2 (j - cs.length) (by omega)
      rwa [show o + cs.length + (j - cs.length) = o + j by omega] at this
theorem Here.left {ds : List Value} (h : Here w b o (cs ++ ds)) : Here w b o cs := by
  have := h.part 0 cs.length
  simpa using this
theorem Here.right {ds : List Value} (h : Here w b o (cs ++ ds)) : Here w b (o + cs.length) ds := by
  have := h.part cs.length ds.length
  simpa using this
end

/-- Which cells a call may have turned. -/
structure Chg (S : Nat → Nat → Prop) (w w' : World) : Prop where
  os : w'.os = w.os
  tape : w'.tape = w.tape
  output : w'.output = w.output
  size : w.heap.size ≤ w'.heap.size
  block : ∀ k, k < w.heap.size → (∀ o, ¬ S k o) → w'.heap[k]? = w.heap[k]?
  cell : ∀ k o, k < w.heap.size → ¬ S k o → w'.cell? ⟨k, o, none⟩ = w.cell? ⟨k, o, none⟩
  some : ∀ k o, (w.cell? ⟨k, o, none⟩).isSome = true → (w'.cell? ⟨k, o, none⟩).isSome = true
  free : ∀ k o, k < w.heap.size → w'.frozen? ⟨k, o, none⟩ = w.frozen? ⟨k, o, none⟩
section
variable {S T : Nat → Nat → Prop} {a w w' : World}
theorem Chg.refl (S : Nat → Nat → Prop) (w : World) : Chg S w w := ⟨rfl, rfl, rfl, Nat.le_refl _, fun _ _ _ => rfl, fun _ _ _ _ => rfl, fun _ _ h => h, fun _ _ _ => rfl⟩
theorem Chg.trans (h : Chg S a w) (k : Chg T w w') (hT : ∀ b o, b < a.heap.size → T b o → S b o) : Chg S a w' where
  os := k.os.trans h.os
  tape := k.tape.trans h.tape
  output := k.output.trans h.output
  size := Nat.le_trans h.size k.size
  block := fun b hb hn => (k.block b (Nat.lt_of_lt_of_le hb h.size) (fun o ho => hn o (hT b o hb ho))).trans (h.block b hb hn)
  cell := fun b o hb hn => (k.cell b o (Nat.lt_of_lt_of_le hb h.size) (fun ho => hn (hT b o hb ho))).trans (h.cell b o hb hn)
  some := fun b o hs => k.some b o (h.some b o hs)
  free := fun b o hb => (k.free b o (Nat.lt_of_lt_of_le hb h.size)).trans (h.free b o hb)
theorem Chg.then (h : Chg S a w) (k : Chg S w w') : Chg S a w' := h.trans k fun _ _ _ x => x
theorem Chg.mono (h : Chg S w w') (hT : ∀ b o, b < w.heap.size → S b o → T b o) : Chg T w w' := (Chg.refl T w).trans h hT
theorem Chg.below (h : Below w.heap.size w w') (S : Nat → Nat → Prop) : Chg S w w' where
  os := h.os
  tape := h.tape
  output := h.output
  size := h.size
  block := fun b hb _ => h.block b hb
  cell := fun b o hb _ => World.cell?_of_block (w := w) (h.block b hb)
  some := fun b o hs => by
    obtain ⟨u, hu⟩ := Option.isSome_iff_exists.1 hs
    rw [World.cell?_of_block (w := w) (h.block b (World.block_lt_of_cell? w _ hu))]; exact hs
  free := fun b o hb => by
    have := h.block b hb
    simp only [World.frozen?, this]
theorem Chg.drewN (h : Chg S a w) (n : Nat) : Chg S a (w.drewN n) := ⟨h.os, h.tape, h.output, h.size, h.block, h.cell, h.some, h.free⟩
theorem Chg.drew (h : Chg S a w) : Chg S a w.drew := ⟨h.os, h.tape, h.output, h.size, h.block, h.cell, h.some, h.free⟩
theorem Chg.alloc (h : Chg S a w) (ob : Obj) : Chg S a (w.alloc ob) := h.then (Chg.below ((Below.refl _ _).alloc (Nat.le_refl _) _) S)
theorem Chg.setCell (h : Chg S a w) {p : Addr} (hp : p.spot = none) (hS : p.block < a.heap.size → S p.block p.off) (hc : (w.cell? p).isSome = true) (u : Value) : Chg S a (w.setCell p u) := by
  obtain ⟨pb, po, ps⟩ := p
  obtain rfl : ps = none := hp
  refine h.trans (T := fun b o => b = pb ∧ o = po) ⟨rfl, rfl, rfl, by simp [World.setCell], fun k hk hn => ?_, fun k o hk hn => ?_, fun k o hs => ?_, fun k o hk => ?_⟩ ?_
  · exact heap_setCell_other w _ k u (fun e => hn po ⟨e, rfl⟩)
  · exact World.cell?_setCell_other _ _ _ _ (fun e => hn (by injection e with e1 e2; exact ⟨e1.symm, e2.symm⟩))
  · obtain ⟨u0, hu0⟩ := Option.isSome_iff_exists.1 hc
    by_cases e : (⟨pb, po, none⟩ : Addr) = ⟨k, o, none⟩
    · rw [← e, World.cell?_setCell_same _ _ _ hu0]; rfl
    · rw [World.cell?_setCell_other _ _ _ _ e]; exact hs
  · exact World.frozen?_setCell ..
  · rintro b o hb ⟨rfl, rfl⟩; exact hS hb
theorem Chg.setCells (h : Chg S a w) {b o : Nat} {vs : List Value} (hS : ∀ j, j < vs.length → b < a.heap.size → S b (o + j)) (ht : w.there b o vs.length) : Chg S a (w.setCells b o vs) := by
  induction vs generalizing w o with
  | nil => exact h
  | cons v r ih =>
    rw [World.setCells]
    refine ih (h.setCell rfl (fun hb => by have := hS 0 (by simp) hb; rwa [Nat.add_zero] at this) (by have := (ht 0 (by simp)).1; rwa [Nat.add_zero] at this) v) (fun j hj hb => ?_) ?_
    · have := hS (j + 1) (by simp; omega) hb
      rwa [show o + 1 + j = o + (j + 1) by omega]
    · intro j hj
      have h2 := World.there_setCells ht b o [v] (j + 1) (by simp; omega)
      rw [show o + 1 + j = o + (j + 1) by omega]
      exact h2
theorem Here.chg {b o : Nat} {cs : List Value} (h : Here w b o cs) (k : Chg S w w') (hn : ∀ j, j < cs.length → ¬ S b (o + j)) : Here w' b o cs := by
  refine ⟨fun j v hv => ?_, fun j hj => ?_⟩
  · have hj := (List.getElem?_eq_some_iff.1 hv).1
    rw [k.cell b _ (h.lt (by omega)) (hn j hj)]
    exact h.1 j v hv
  · exact ⟨k.some b _ (h.2 j hj).1, by rw [k.free b _ (h.lt (by omega))]; exact (h.2 j hj).2⟩
theorem Here.stay {b o : Nat} {cs : List Value} (h : Here w b o cs) (k : Below w.heap.size w w') : Here w' b o cs := h.chg (Chg.below k fun _ _ => False) fun _ _ x => x
theorem Here.alloc {b o : Nat} {cs : List Value} (h : Here w b o cs) (ob : Obj) : Here (w.alloc ob) b o cs := h.stay ((Below.refl _ _).alloc (Nat.le_refl _) _)
theorem Here.set {b o : Nat} {cs : List Value} (h : Here w b o cs) (vs : List Value) (hl : vs.length = cs.length) : Here (w.setCells b o vs) b o vs :=
  ⟨World.rangeAt_setCells_same w b o vs (by rw [hl]; exact h.2), by rw [hl]; exact World.there_setCells h.2 b o vs⟩
theorem Here.setOff {b o b' o' : Nat} {cs : List Value} (h : Here w b o cs) (vs : List Value) (hap : b ≠ b' ∨ o + cs.length ≤ o' ∨ o' + vs.length ≤ o) : Here (w.setCells b' o' vs) b o cs :=
  ⟨World.rangeAt_setCells_apart h.1 b' o' vs hap, World.there_setCells h.2 b' o' vs⟩
theorem Here.put {b o : Nat} {cs : List Value} (h : Here w b o cs) (j : Nat) (hj : j < cs.length) (v : Value) : Here (w.setCell ⟨b, o + j, none⟩ v) b o (cs.set j v) := by
  refine ⟨fun i u hu => ?_, fun i hi => ?_⟩
  · have hi : i < cs.length := by have := (List.getElem?_eq_some_iff.1 hu).1; simpa using this
    by_cases e : i = j
    · subst e
      rw [List.getElem?_set_self hj] at hu
      injection hu with hu
      subst hu
      exact World.cell?_setCell_same _ _ _ (h.1 i _ (List.getElem?_eq_getElem hj))
    · rw [List.getElem?_set_ne (fun e' => e e'.symm)] at hu
      rw [World.cell?_setCell_other _ _ _ _ (fun e' => by injection e' with _ e2; omega)]
      exact h.1 i u hu
  · rw [List.length_set] at hi
    have := World.there_setCells h.2 b (o + j) [v] i hi
    exact this
theorem Here.putOff {b o : Nat} {cs : List Value} (h : Here w b o cs) {p : Addr} (hp : b ≠ p.block) (v : Value) : Here (w.setCell p v) b o cs := by
  refine ⟨fun i u hu => ?_, fun i hi => ?_⟩
  · rw [World.cell?_setCell_other _ _ _ _ (fun e' => hp (by rw [e'] ))]
    exact h.1 i u hu
  · refine ⟨?_, ?_⟩
    · rw [World.cell?_setCell_other _ _ _ _ (fun e' => hp (by rw [e']))]; exact (h.2 i hi).1
    · rw [World.frozen?_setCell]; exact (h.2 i hi).2
end

namespace Dsk
/-- A block: what is durable, what is written, what was ahead. -/
structure Blk where
  dur : List UInt8
  wr : Option (List UInt8)
  past : List UInt8
def z72 : List UInt8 := List.replicate 72 0
def Blk.zero : Blk := ⟨z72, none, z72⟩
def Blk.dirty (b : Blk) : Bool := b.wr.isSome
/-- What is read. -/
def Blk.cur (b : Blk) : List UInt8 := b.wr.getD b.dur
def Blk.setCur (b : Blk) (c : List UInt8) : Blk := match b.wr with
  | some _ => ⟨b.dur, some c, b.past⟩
  | none => ⟨c, none, b.past⟩
def Blk.write (b : Blk) (c : List UInt8) : Blk := ⟨b.dur, some c, b.cur⟩
def Blk.settle (b : Blk) (k : Bool) : Blk := ⟨if k then b.cur else b.dur, none, b.past⟩
def Blk.back (b : Blk) : Blk := match b.wr with
  | some _ => ⟨b.dur, some b.past, b.cur⟩
  | none => ⟨b.past, none, b.cur⟩
structure Blk.ok (b : Blk) : Prop where
  dur : b.dur.length = 72
  past : b.past.length = 72
  wr : ∀ c, b.wr = some c → c.length = 72
theorem Blk.ok.cur {b : Blk} (h : b.ok) : b.cur.length = 72 := by
  unfold Blk.cur
  cases hw : b.wr with
  | none => exact h.dur
  | some c => exact h.wr c hw
theorem z72_length : z72.length = 72 := by simp [z72]
theorem Blk.zero_ok : Blk.zero.ok := ⟨z72_length, z72_length, fun c hc => by cases hc⟩
theorem Blk.setCur_ok {b : Blk} (h : b.ok) {c : List UInt8} (hc : c.length = 72) : (b.setCur c).ok := by
  unfold Blk.setCur
  cases hw : b.wr with
  | none => exact ⟨hc, h.past, fun c hc => by cases hc⟩
  | some d => exact ⟨h.dur, h.past, fun c' e => by injection e with e; rw [← e]; exact hc⟩
theorem Blk.write_ok {b : Blk} (h : b.ok) {c : List UInt8} (hc : c.length = 72) : (b.write c).ok := ⟨h.dur, h.cur, fun c' e => by injection e with e; rw [← e]; exact hc⟩
theorem Blk.settle_ok {b : Blk} (h : b.ok) (k : Bool) : (b.settle k).ok := ⟨by unfold Blk.settle; cases k <;> simp [h.dur, h.cur], h.past, fun c e => by cases e⟩
theorem Blk.back_ok {b : Blk} (h : b.ok) : b.back.ok := by
  unfold Blk.back
  cases hw : b.wr with
  | none => exact ⟨h.past, h.cur, fun c hc => by cases hc⟩
  | some d => exact ⟨h.dur, h.cur, fun c' e => by injection e with e; rw [← e]; exact h.past⟩
theorem Blk.settle_clean {b : Blk} (h : b.dirty = false) (k : Bool) : b.settle k = b := by
  obtain ⟨d, w, p⟩ := b
  cases w with
  | some c => cases h
  | none => cases k <;> rfl
theorem Blk.dirty_settle (b : Blk) (k : Bool) : (b.settle k).dirty = false := rfl

/-- How many blocks have a written content. -/
def cnt (L : List Blk) : Nat := L.countP Blk.dirty
theorem cnt_snoc {L : List Blk} {i : Nat} {b : Blk} (h : L[i]? = some b) : cnt (L.take (i + 1)) = cnt (L.take i) + if b.dirty then 1 else 0 := by
  obtain ⟨hi, e⟩ := List.getElem?_eq_some_iff.1 h
  rw [List.take_succ_eq_append_getElem hi, cnt, List.countP_append, e]
  simp [cnt, List.countP_cons]
theorem cnt_take_le (L : List Blk) (i : Nat) : cnt (L.take i) ≤ L.length := by
  unfold cnt
  exact Nat.le_trans List.countP_le_length (by rw [List.length_take]; omega)
/-- A crash that has come to block i. -/
def crashTo (keep : Nat → Bool) (L : List Blk) (i : Nat) : List Blk := L.mapIdx fun j b => if j < i then b.settle (keep (cnt (L.take j))) else b
def crash (keep : Nat → Bool) (L : List Blk) : List Blk := crashTo keep L L.length
section
variable (keep : Nat → Bool) (L : List Blk)
theorem crashTo_length (i : Nat) : (crashTo keep L i).length = L.length := by simp [crashTo]
theorem crashTo_get (i j : Nat) : (crashTo keep L i)[j]? = L[j]?.map fun b => if j < i then b.settle (keep (cnt (L.take j))) else b := by simp [crashTo]
theorem crashTo_zero : crashTo keep L 0 = L := by
  apply List.ext_getElem?
  intro j
  rw [crashTo_get]
  cases L[j]? <;> simp
theorem crashTo_at (i : Nat) : (crashTo keep L i)[i]? = L[i]? := by
  rw [crashTo_get]
  cases L[i]? <;> simp
theorem crashTo_succ {i : Nat} {b : Blk} (h : L[i]? = some b) : crashTo keep L (i + 1) = (crashTo keep L i).set i (b.settle (keep (cnt (L.take i)))) := by
  obtain ⟨hi, e⟩ := List.getElem?_eq_some_iff.1 h
  apply List.ext_getElem?
  intro j
  rw [crashTo_get, List.getElem?_set, crashTo_length]
  by_cases hj : i = j
  · subst hj
    rw [if_pos rfl, if_pos hi, h]
    simp
  · rw [if_neg hj, crashTo_get]
    cases L[j]? with
    | none => rfl
    | some c =>
      simp only [Option.map_some]
      congr 1
      by_cases h1 : j < i
      · rw [if_pos (by omega), if_pos h1]
      · rw [if_neg (by omega), if_neg h1]
theorem crashTo_skip {i : Nat} {b : Blk} (h : L[i]? = some b) (hd : b.dirty = false) : crashTo keep L (i + 1) = crashTo keep L i := by
  rw [crashTo_succ keep L h, Blk.settle_clean hd]
  have := crashTo_at keep L i
  rw [h] at this
  obtain ⟨hi, e⟩ := List.getElem?_eq_some_iff.1 this
  rw [← e, List.set_getElem_self]
theorem cnt_crash : cnt (crash keep L) = 0 := by
  unfold cnt
  rw [List.countP_eq_zero]
  intro b hb
  obtain ⟨j, hj, e⟩ := List.getElem_of_mem hb
  have h1 : (crash keep L)[j]? = some b := by rw [List.getElem?_eq_getElem hj, e]
  rw [crash, crashTo_get] at h1
  have hl : j < L.length := by rw [crash, crashTo_length] at hj; exact hj
  rw [List.getElem?_eq_getElem hl, Option.map_some, if_pos hl] at h1
  injection h1 with h1
  rw [← h1, Blk.dirty_settle]
  simp
end
end Dsk
end Go.Proofs.Ytaamhdgngnpmoaa
