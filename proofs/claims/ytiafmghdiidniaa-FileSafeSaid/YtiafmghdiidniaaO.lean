/-
  3 texts in one (M, N, O): each says at its own head what it holds.
-/
import Derived.WalkKit
import Derived.Deep.Draws
import Derived.Deep.AppendSrc
import Derived.Laws.CopyOwn
import Derived.Deep.QuietTactic
import Derived.Maps.AppendAt
import Derived.Laws.AppendOwnNone
import Derived.Deep.AppendLies
import Derived.OwnWalk
import Derived.Deep.RegionLaw
import Derived.Test.YtiafmghdiidniaaRows
import Derived.WalkSpells
import Derived.WalkLawsBesides
import Derived.BigQuiet
import Derived.Lib.Hide
import Derived.Laws.BitsAllLaws
import Derived.Laws.BytesArg
import Derived.Laws.MakeOwn

section
/-
  MEMORY (no program): a block that is known whole ('Row'), a slice that is read ('Sees'), and how both, and what has not turned, are carried over the steps of a call.
-/
namespace Go.Proofs.Ytiafmghdiidniaa
open Go.RowKit

/-- Block g is the row cs of type t, and may be written. -/
def Row (w : World) (g : Nat) (t : TypeId) (cs : List Value) : Prop := w.heap[g]? = some (.cells cs.toArray t (0, 0))

section
variable {w w' : World} {g : Nat} {t : TypeId} {cs : List Value}
theorem Row.lt (h : Row w g t cs) : g < w.heap.size := by
  rcases Nat.lt_or_ge g w.heap.size with k | k
  · exact k
  · simp [Row, Array.getElem?_eq_none k] at h
theorem Row.cell (h : Row w g t cs) (j : Nat) : w.cell? ⟨g, j, none⟩ = cs[j]? := by
  rw [cell_of_row w g j _ t (0, 0) h]; simp
theorem Row.free (h : Row w g t cs) (j : Nat) : w.frozen? ⟨g, j, none⟩ = false := frozen_of_row w g j _ t h
theorem Row.same (h : Row w g t cs) (k : w'.heap[g]? = w.heap[g]?) : Row w' g t cs := k.trans h
theorem Row.drew (h : Row w g t cs) : Row w.drew g t cs := h
theorem Row.drewN (h : Row w g t cs) (n : Nat) : Row (w.drewN n) g t cs := h
theorem Row.alloc (h : Row w g t cs) (o : Obj) : Row (w.alloc o) g t cs := h.same (Below.heap_alloc w o g h.lt)
theorem Row.new (w : World) (t : TypeId) (cs : List Value) : Row (w.alloc (.cells cs.toArray t)) w.heap.size t cs := heap_alloc_new w _
theorem Row.newAt {w : World} {g : Nat} (t : TypeId) (cs : List Value) (h : w.heap.size = g) : Row (w.alloc (.cells cs.toArray t)) g t cs := h ▸ Row.new w t cs
theorem Row.set (h : Row w g t cs) (j : Nat) (u : Value) : Row (w.setCell ⟨g, j, none⟩ u) g t (cs.set j u) := by
  have := heap_setCell_same w g j _ t u h
  unfold Row
  rw [this]
  simp
theorem Row.apart (h : Row w g t cs) {p : Addr} (hp : g ≠ p.block) (u : Value) : Row (w.setCell p u) g t cs := h.same (heap_setCell_other w p g u hp)
theorem Row.below {B : Nat} (h : Row w g t cs) (hb : Below B w w') (hg : g < B) : Row w' g t cs := h.same (hb.block g hg)
theorem Row.grown {row : Option Nat} (h : Row w g t cs) (hb : w.grownBy w' row) (hg : some g ≠ row) : Row w' g t cs := h.same (hb.block g h.lt hg)
theorem Row.whole (h : Row w g t cs) (ds : List Value) : Row (w.setRow g ds.toArray) g t ds := setRow_heap w g _ _ t _ h
theorem Row.wholeOff (h : Row w g t cs) {k : Nat} (hk : g ≠ k) (ds : Array Value) : Row (w.setRow k ds) g t cs := h.same (setRow_other w k g ds hk)
end

/-- Only block g, and what is new, may have turned. -/
theorem by_refl (w : World) (g : Option Nat) : w.grownBy w g := World.grownBy.refl w g
section
variable {a w w' : World} {g : Option Nat}
theorem by_drewN (h : a.grownBy w g) (n : Nat) : a.grownBy (w.drewN n) g := ⟨h.os, h.tape, h.output, h.size, h.block⟩
theorem by_drew (h : a.grownBy w g) : a.grownBy w.drew g := ⟨h.os, h.tape, h.output, h.size, h.block⟩
theorem by_trans (h : a.grownBy w g) (k : w.grownBy w' g) : a.grownBy w' g :=
  ⟨k.os.trans h.os, k.tape.trans h.tape, k.output.trans h.output, Nat.le_trans h.size k.size, fun i hi hn => (k.block i (Nat.lt_of_lt_of_le hi h.size) hn).trans (h.block i hi hn)⟩
theorem by_alloc (h : a.grownBy w g) (o : Obj) : a.grownBy (w.alloc o) g := by_trans h (World.grownBy_alloc w o g)
theorem by_below (h : a.grownBy w g) (k : Below w.heap.size w w') : a.grownBy w' g := by_trans h ⟨k.os, k.tape, k.output, k.size, fun i hi _ => k.block i hi⟩
theorem by_setCell (h : a.grownBy w g) {p : Addr} (hp : g = some p.block ∨ a.heap.size ≤ p.block) (u : Value) : a.grownBy (w.setCell p u) g := by
  refine ⟨h.os, h.tape, h.output, by simpa [World.setCell] using h.size, fun i hi hn => ?_⟩
  rw [heap_setCell_other w p i u (fun e => by
    rcases hp with hp | hp
    · exact hn (by rw [hp, e])
    · omega)]
  exact h.block i hi hn
theorem by_setRow (h : a.grownBy w g) {k : Nat} (hp : g = some k ∨ a.heap.size ≤ k) (ds : Array Value) : a.grownBy (w.setRow k ds) g := by
  refine ⟨h.os, h.tape, h.output, by simpa using h.size, fun i hi hn => ?_⟩
  rw [setRow_other w k i ds (fun e => by
    rcases hp with hp | hp
    · exact hn (by rw [hp, e])
    · omega)]
  exact h.block i hi hn
theorem by_to_below (h : a.grownBy w none) : Below a.heap.size a w := ⟨h.os, h.tape, h.output, h.size, fun i hi => h.block i hi (by simp)⟩
theorem below_to_by (h : Below a.heap.size a w) (g : Option Nat) : a.grownBy w g := ⟨h.os, h.tape, h.output, h.size, fun i hi _ => h.block i hi⟩
theorem below_drewN {B : Nat} (h : Below B a w) (n : Nat) : Below B a (w.drewN n) := ⟨h.os, h.tape, h.output, h.size, h.block⟩
theorem below_setRow' {B : Nat} (h : Below B a w) {k : Nat} (hk : B ≤ k) (ds : Array Value) : Below B a (w.setRow k ds) := below_setRow h hk ds
end

/-- The cells xs lie at block b from off on. -/
def Sees (w : World) (b off : Nat) (xs : List Value) : Prop := ∀ j u, xs[j]? = some u → w.cell? ⟨b, off + j, none⟩ = some u
section
variable {w w' : World} {b off : Nat} {xs : List Value}
theorem Sees.at_ (h : Sees w b off xs) {j : Nat} {u : Value} (hj : xs[j]? = some u) : w.cell? ⟨b, off + j, none⟩ = some u := h j u hj
theorem Sees.same (h : Sees w b off xs) (k : w'.heap[b]? = w.heap[b]?) : Sees w' b off xs := fun j u hu => (World.cell?_of_block (w := w) k).trans (h j u hu)
theorem Sees.below {B : Nat} (h : Sees w b off xs) (hb : Below B w w') (hB : b < B) : Sees w' b off xs := h.same (hb.block b hB)
theorem Sees.grown {row : Option Nat} (h : Sees w b off xs) (hb : w.grownBy w' row) (hl : b < w.heap.size) (hg : some b ≠ row) : Sees w' b off xs := h.same (hb.block b hl hg)
theorem Sees.drewN (h : Sees w b off xs) (n : Nat) : Sees (w.drewN n) b off xs := h
theorem Sees.alloc (h : Sees w b off xs) (hl : b < w.heap.size) (o : Obj) : Sees (w.alloc o) b off xs := h.same (Below.heap_alloc w o b hl)
theorem Sees.setCell (h : Sees w b off xs) {p : Addr} (hp : b ≠ p.block) (u : Value) : Sees (w.setCell p u) b off xs := h.same (heap_setCell_other w p b u hp)
theorem Sees.piece (h : Sees w b off xs) (i n : Nat) : Sees w b (off + i) ((xs.drop i).take n) := fun j u hu => by
  rw [Nat.add_assoc]
  refine h _ u ?_
  rw [List.getElem?_take] at hu
  split at hu
  · rwa [List.getElem?_drop] at hu
  · cases hu
theorem Sees.tail (h : Sees w b off xs) (i : Nat) : Sees w b (off + i) (xs.drop i) := fun j u hu => by
  rw [Nat.add_assoc]
  exact h _ u (by rwa [List.getElem?_drop] at hu)
theorem Row.sees {g : Nat} {t : TypeId} {cs : List Value} (h : Row w g t cs) : Sees w g 0 cs := fun j u hu => by
  rw [Nat.zero_add, h.cell]; exact hu
theorem Sees.lt (h : Sees w b off xs) (hp : 0 < xs.length) : b < w.heap.size := by
  have hc := h 0 _ (List.getElem?_eq_getElem hp)
  rcases Nat.lt_or_ge b w.heap.size with k | k
  · exact k
  · simp [World.cell?, Array.getElem?_eq_none k] at hc
theorem Sees.nil : Sees w b off [] := fun j u hu => by simp at hu
end

/-- The world under a new name, with what is known of it. -/
theorem leave_wp {P : Program} {c : Code} {Q : Exit → Act → World → Prop} {a : Act} {w : World} (F : World → Prop) (h : F w) (k : ∀ w2, F w2 → c.wp P Q a w2) : c.wp P Q a w := k w h

end Go.Proofs.Ytiafmghdiidniaa
end

section
/-
  MEMORY, MORE (no program): rows of the call's own ('Own'), appended to from whatever source ('From').
-/
namespace Go.Proofs.Ytiafmghdiidniaa
open Go.RowKit

/-- The slice v is the call's own from block B on, and reads as ys. -/
def Own (w : World) (B : Nat) (e : TypeId) (v : Value) (ys : List Value) : Prop := w.ownsRow B e 1 v ys.length ys
/-- The slice v reads as ys. -/
def From (w : World) (v : Value) (ys : List Value) : Prop :=
  (∃ A, v = .slice A 0 0 ∧ ys = []) ∨ ∃ b o c, v = .slice (some ⟨b, o, none⟩) ys.length c ∧ b < w.heap.size ∧ Sees w b o ys

theorem add_off (b o j : Nat) : (⟨b, o, none⟩ : Addr).add j = ⟨b, o + j, none⟩ := by unfold Addr.add; split <;> simp_all

section
variable {w w' : World} {B : Nat} {e : TypeId} {v : Value} {ys : List Value}
theorem Own.nil (w : World) (B : Nat) (e : TypeId) : Own w B e (.slice none 0 0) [] := World.ownsRow_nil w B e 1
theorem Own.lt (h : Own w B e v ys) {k : Nat} (hk : v.ownBlock = some k) : B ≤ k ∧ k < w.heap.size := World.ownsRow.lt h k hk
theorem Own.alloc (h : Own w B e v ys) (o : Obj) : Own (w.alloc o) B e v ys := World.ownsRow.alloc h o
theorem Own.drew (h : Own w B e v ys) : Own w.drew B e v ys := h
theorem Own.drewN (h : Own w B e v ys) (n : Nat) : Own (w.drewN n) B e v ys := h
theorem Own.kept {row : Option Nat} (h : Own w B e v ys) (hg : w.grownBy w' row) (hne : v.ownBlock = none ∨ v.ownBlock ≠ row) : Own w' B e v ys := World.ownsRow.kept h hg hne
theorem Own.below {B' : Nat} (h : Own w B e v ys) (hb : Below B' w w') (hB : w.heap.size ≤ B') : Own w' B e v ys :=
  h.kept (row := none) ⟨hb.os, hb.tape, hb.output, hb.size, fun k hk _ => hb.block k (by omega)⟩ (by cases v.ownBlock <;> simp)
theorem Own.lit (w : World) (B : Nat) (e : TypeId) (ys : List Value) (hB : B ≤ w.heap.size) (hl : ys.length ≤ 1000000) :
    Own (w.alloc (.cells ys.toArray e)) B e (.slice (some ⟨w.heap.size, 0, none⟩) ys.length ys.length) ys := by
  have := World.ownsRow_lit (e := e) (base := B) (size := 1) w ys.toArray ys.length hB (by simp only [maxLen]; omega) (by simp)
  exact this
/-- Its value written out. -/
theorem Own.form (h : Own w B e v ys) (hn : 0 < ys.length) : ∃ g cap, v = .slice (some ⟨g, 0, none⟩) ys.length cap ∧ B ≤ g ∧ g < w.heap.size ∧ Sees w g 0 ys := by
  obtain ⟨g, cap, rfl, hb, hl⟩ := World.ownsRow.form h hn
  refine ⟨g, cap, rfl, hb, hl, fun j u hu => ?_⟩
  have := World.ownsRow.cells h (g := g) rfl j u hu
  rwa [add_off] at this
theorem Own.form_cap (h : Own w B e v ys) (hn : 0 < ys.length) : ∃ g cap, v = .slice (some ⟨g, 0, none⟩) ys.length cap ∧ B ≤ g ∧ g < w.heap.size ∧ ys.length ≤ cap ∧ Sees w g 0 ys := by
  obtain ⟨g, cap, hv, hb, hl, hs⟩ := h.form hn
  refine ⟨g, cap, hv, hb, hl, ?_, hs⟩
  rcases h.2 with ⟨_, h0⟩ | ⟨g', cap', cur, hv', _, _, hc, _⟩
  · omega
  · rw [hv] at hv'
    injection hv' with _ _ h3
    omega
theorem Own.from_ (h : Own w B e v ys) : From w v ys := by
  rcases Nat.eq_zero_or_pos ys.length with h0 | h0
  · have hy := List.eq_nil_of_length_eq_zero h0
    subst hy
    rcases h.2 with ⟨rfl, _⟩ | ⟨g, cap, cur, rfl, _, hg, _⟩
    · exact .inl ⟨none, rfl, rfl⟩
    · exact .inr ⟨g, 0, cap, rfl, (Array.getElem?_eq_some_iff.1 hg).1, Sees.nil⟩
  · obtain ⟨g, cap, rfl, _, hl, hs⟩ := h.form h0
    exact .inr ⟨g, 0, cap, rfl, hl, hs⟩
theorem Own.base {B' : Nat} (h : Own w B e v ys) (hB : B' ≤ B) : Own w B' e v ys := by
  obtain ⟨h1, h2⟩ := h
  refine ⟨h1, ?_⟩
  rcases h2 with h2 | ⟨g, cap, cur, hv, hg, r⟩
  · exact .inl h2
  · exact .inr ⟨g, cap, cur, hv, by omega, r⟩
end

/-- Behind an append onto a row of the call's own nothing below has turned. -/
theorem below_app {w0 w w' : World} {B B' : Nat} {e : TypeId} {v : Value} {ys : List Value} (hb : Below B' w0 w) (h : Own w B e v ys) (hg : w.grownBy w' v.ownBlock) (hB : B' ≤ B) (hs : B' ≤ w.heap.size) : Below B' w0 w' :=
  hb.grown hg hs fun _ hk => Nat.le_trans hB (h.lt hk).1

theorem run_app {P : Program} {w : World} (t ty : TypeId) (B : Nat) (e : TypeId) {z : Value} {bytes : Nat} (ht : P.underlying t = some (.slice e)) (hi : (P.info? e).map (fun i => (i.zero, i.size, i.bytes)) = some (some z, 1, bytes)) (hz : z.cells.size = 1) (hby : bytes ≤ 8)
    (v : Value) (ys : List Value) (hown : Own w B e v ys) (u : Value) (zs : List Value) (hu : From w u zs) (h1 : ∀ y ∈ zs, y.oneCell' = true) (hl : ys.length + zs.length ≤ 100000000) (hB : B ≤ w.heap.size) :
    ∃ v' w', (Builtin.append_ #[t, t] ty #[v, u]).run P w = .ok v' w' ∧ Own w' B e v' (ys ++ zs) ∧ w.grownBy w' v.ownBlock ∧ (v'.ownBlock = v.ownBlock ∨ v'.ownBlock = some w.heap.size) := by
  obtain ⟨i, hi, hz0, hz1, hz2⟩ := info_parts hi
  have hby' : (ys.length + zs.length) * bytes ≤ 140737488355328 := by
    have : (ys.length + zs.length) * bytes ≤ 100000000 * 8 := Nat.mul_le_mul hl hby
    omega
  rcases hu with ⟨A, rfl, rfl⟩ | ⟨b, off, c, rfl, _, hsee⟩
  · cases A with
    | none => exact ⟨v, w, run_append_owned_none w B t ty e i 1 ht hi v ys.length ys hown, by rw [List.append_nil]; exact hown, World.grownBy.refl w _, .inl rfl⟩
    | some ad =>
      obtain ⟨v', w', hr, h2, h3, _, h5⟩ := run_append_own_at w B t ty e i z 1 bytes ht hi hz0 hz1 hz2 hz (by omega) v ys.length ys hown ad 0 0 [] (by simp) (fun j u hu => by simp at hu) (by simp) (by simp only [maxLen]; omega) (by simpa using hby') hB
      exact ⟨v', w', hr, by rw [Nat.add_zero] at h2; rw [List.append_nil] at h2 ⊢; exact h2, h3, h5⟩
  · obtain ⟨v', w', hr, h2, h3, _, h5⟩ := run_append_own_at w B t ty e i z 1 bytes ht hi hz0 hz1 hz2 hz (by omega) v ys.length ys hown ⟨b, off, none⟩ zs.length c zs (by simp) (fun j u hu => by rw [add_off]; exact hsee j u hu) h1 (by simp only [maxLen]; omega) hby' hB
    exact ⟨v', w', hr, by rw [← List.length_append] at h2; exact h2, h3, h5⟩

/-- The same as one step of a region that draws its order. -/
theorem step_app {P : Program} {w : World} {ops : Array Oper} {o : Oper} {a : Act} {K : Act → World → Prop} {Q : Exit → Act → World → Prop} {E : Prop} (hgd : o.guard = none) (s x : Operand) (t : TypeId)
    (ho : o.op = .call { callee := .builtin .append, args := #[s, x], argTypes := #[t, t] })
    (B : Nat) (e : TypeId) {z : Value} {bytes : Nat} (ht : P.underlying t = some (.slice e)) (hi : (P.info? e).map (fun i => (i.zero, i.size, i.bytes)) = some (some z, 1, bytes)) (hz : z.cells.size = 1) (hby : bytes ≤ 8)
    (v : Value) (ys : List Value) (hs : a.eval s = v) (hown : Own w B e v ys) (u : Value) (zs : List Value) (hx : a.eval x = u) (hu : From w u zs) (h1 : ∀ y ∈ zs, y.oneCell' = true)
    (hl : ys.length + zs.length ≤ 100000000) (hB : B ≤ w.heap.size)
    (h : ∀ v' w', Own w' B e v' (ys ++ zs) → w.grownBy w' v.ownBlock → (v'.ownBlock = v.ownBlock ∨ v'.ownBlock = some w.heap.size) → K (a.put o.dst v') w') :
    if Region.wanted o (yielded ops a.tmps) = true then Oper.wp P o a w K Q else E := by
  rw [if_pos (by simp [Region.wanted, hgd])]
  obtain ⟨v', w', hr, h2, h3, h4⟩ := run_app (P := P) t o.type B e ht hi hz hby v ys hown u zs hu h1 hl hB
  unfold Oper.wp execOp
  simp only [ho, resolve, invoke, builtin, Sem.run_bind, Sem.run_pure, Result.andThen_ok, List.map_toArray, List.map_cons, List.map_nil, hs, hx, hr]
  exact h v' w' h2 h3 h4

/-- append onto a row of the call's own, whatever the source. -/
theorem wpList_app {P : Program} {w : World} {ops : Array Oper} {rest : List Oper} {o : Oper} {a : Act} {Q : Exit → Act → World → Prop} (hgd : o.guard = none) (s x : Operand) (t : TypeId)
    (ho : o.op = .call { callee := .builtin .append, args := #[s, x], argTypes := #[t, t] })
    (B : Nat) (e : TypeId) {z : Value} {bytes : Nat} (ht : P.underlying t = some (.slice e)) (hi : (P.info? e).map (fun i => (i.zero, i.size, i.bytes)) = some (some z, 1, bytes)) (hz : z.cells.size = 1) (hby : bytes ≤ 8)
    (v : Value) (ys : List Value) (hs : a.eval s = v) (hown : Own w B e v ys) (u : Value) (zs : List Value) (hx : a.eval x = u) (hu : From w u zs) (h1 : ∀ y ∈ zs, y.oneCell' = true)
    (hl : ys.length + zs.length ≤ 100000000) (hB : B ≤ w.heap.size)
    (h : ∀ v' w', Own w' B e v' (ys ++ zs) → w.grownBy w' v.ownBlock → (v'.ownBlock = v.ownBlock ∨ v'.ownBlock = some w.heap.size) → wpList P ops Q rest (a.put o.dst v') w') : wpList P ops Q (o :: rest) a w := by
  refine wpList_plain hgd fun K hK => ?_
  obtain ⟨v', w', hr, h2, h3, h4⟩ := run_app (P := P) t o.type B e ht hi hz hby v ys hown u zs hu h1 hl hB
  unfold Oper.wp execOp
  simp only [ho, resolve, invoke, builtin, Sem.run_bind, Sem.run_pure, Result.andThen_ok, List.map_toArray, List.map_cons, List.map_nil, hs, hx, hr]
  exact hK _ _ (h v' w' h2 h3 h4)

theorem From.alloc {w : World} {v : Value} {ys : List Value} (h : From w v ys) (o : Obj) : From (w.alloc o) v ys := by
  rcases h with h | ⟨b, off, c, e, hl, hs⟩
  · exact .inl h
  · exact .inr ⟨b, off, c, e, by simp; omega, hs.alloc hl o⟩
theorem From.below {w w' : World} {v : Value} {ys : List Value} (h : From w v ys) (hb : Below w.heap.size w w') : From w' v ys := by
  rcases h with h | ⟨b, off, c, e, hl, hs⟩
  · exact .inl h
  · exact .inr ⟨b, off, c, e, Nat.lt_of_lt_of_le hl hb.size, hs.below hb hl⟩

end Go.Proofs.Ytiafmghdiidniaa
end

section
/-
  OCTETS: bytes as cells, as rows, as arrays, as slices, as strings (no function of the program).
-/
namespace Go.Proofs.Ytiafmghdiidniaa
open Go.RowKit

theorem lt8 (x : UInt8) : x.toNat < 256 := x.toNat_lt
theorem toNat_ofNat8 {n : Nat} (h : n < 256) : (UInt8.ofNat n).toNat = n := by
  rw [UInt8.toNat_ofNat']; exact Nat.mod_eq_of_lt h
theorem byte_eq (n : Nat) : ((n : Int)) % 256 = ((UInt8.ofNat n).toNat : Int) := by
  rw [UInt8.toNat_ofNat']; omega
theorem byte_eq' (x k : Nat) : ((x : Int)) / (k : Int) % 256 = ((UInt8.ofNat (x / k)).toNat : Int) := by
  rw [UInt8.toNat_ofNat', Int.natCast_emod, Int.natCast_ediv]; rfl
theorem xor8 (x y : UInt8) : bits .xor .u8 (x.toNat : Int) y.toNat = ((x ^^^ y).toNat : Int) := by
  rw [u8_xor_nat _ _ (lt8 x) (lt8 y), UInt8.toNat_xor]
theorem ret8 {a b : Int} (h : a = b) : Ending.returned (.int .u8 a) = .returned (.int .u8 b) := by rw [h]
theorem int8 {a b : Int} (h : a = b) : Value.int .u8 a = .int .u8 b := by rw [h]

/-- A row of bytes filled up with zeros to n places. -/
def pad8 (n : Nat) (l : List UInt8) : List UInt8 := l ++ List.replicate (n - l.length) 0
theorem pad8_length (n : Nat) (l : List UInt8) (h : l.length ≤ n) : (pad8 n l).length = n := by simp [pad8]; omega
theorem pad8_set (n : Nat) (l : List UInt8) (x : UInt8) (h : l.length < n) : (pad8 n l).set l.length x = pad8 n (l ++ [x]) := by
  unfold pad8
  rw [List.set_append_right _ _ (Nat.le_refl _), Nat.sub_self, show n - l.length = (n - (l ++ [x]).length) + 1 by simp; omega, List.replicate_succ, List.set_cons_zero]
  simp
theorem pad8_set4 (n : Nat) (l : List UInt8) (a b c d : UInt8) (h : l.length + 4 ≤ n) :
    ((((pad8 n l).set l.length a).set (l.length + 1) b).set (l.length + 2) c).set (l.length + 3) d = pad8 n (l ++ [a, b, c, d]) := by
  rw [pad8_set n l a (by omega)]
  have h1 := pad8_set n (l ++ [a]) b (by simp; omega)
  simp only [List.length_append, List.length_cons, List.length_nil, List.append_assoc, List.cons_append, List.nil_append] at h1
  rw [h1]
  have h2 := pad8_set n (l ++ [a, b]) c (by simp; omega)
  simp only [List.length_append, List.length_cons, List.length_nil, List.append_assoc, List.cons_append, List.nil_append] at h2
  rw [h2]
  have h3 := pad8_set n (l ++ [a, b, c]) d (by simp; omega)
  simp only [List.length_append, List.length_cons, List.length_nil, List.append_assoc, List.cons_append, List.nil_append] at h3
  exact h3
theorem pad8_get (n : Nat) (l : List UInt8) (j : Nat) (hj : j < n) : (pad8 n l)[j]? = some (l.getD j 0) := by
  unfold pad8
  rcases Nat.lt_or_ge j l.length with h | h
  · rw [List.getElem?_append_left h]; simp [h]
  · rw [List.getElem?_append_right h, List.getElem?_replicate, if_pos (by omega)]; simp [h]
theorem pad8_full (l : List UInt8) : pad8 l.length l = l := by simp [pad8]

/-- Bytes as cells. -/
def V8 (x : UInt8) : Value := .int .u8 x.toNat
theorem at8 {w : World} {b off : Nat} {bs : List UInt8} (h : Sees w b off (bs.map V8)) (i : Nat) (hi : i < bs.length) : w.cell? ⟨b, off + i, none⟩ = some (.int .u8 (bs.getD i 0).toNat) :=
  h.at_ (by rw [List.getElem?_map, List.getElem?_eq_getElem hi]; simp [V8, hi])
theorem row8 {w : World} {g : Nat} {t : TypeId} {bs : List UInt8} (h : Row w g t (bs.map V8)) (i : Nat) (hi : i < bs.length) : w.cell? ⟨g, i, none⟩ = some (.int .u8 (bs.getD i 0).toNat) := by
  rw [h.cell, List.getElem?_map, List.getElem?_eq_getElem hi]; simp [V8, hi]
theorem cell8 {w : World} {g : Nat} {t : TypeId} {n : Nat} {l : List UInt8} (h : Row w g t ((pad8 n l).map V8)) (i : Nat) (hi : i < n) : w.cell? ⟨g, i, none⟩ = some (.int .u8 (l.getD i 0).toNat) := by
  rw [h.cell, List.getElem?_map, pad8_get _ _ _ hi]; rfl
theorem one8 (l : List UInt8) : ((l.map V8).toArray).all (·.oneCell') = true := by
  rw [Array.all_eq_true_iff_forall_mem]
  intro u hu
  obtain ⟨x, _, rfl⟩ := List.mem_map.1 (by simpa using hu)
  rfl
theorem oneC8 (l : List UInt8) : ∀ y ∈ l.map V8, y.oneCell' = true := fun y hy => by obtain ⟨x, _, rfl⟩ := List.mem_map.1 hy; rfl
theorem from_new (w : World) (e : TypeId) (ys : List Value) : From (w.alloc (.cells ys.toArray e)) (.slice (some ⟨w.heap.size, 0, none⟩) ys.length ys.length) ys :=
  .inr ⟨w.heap.size, 0, ys.length, rfl, by simp, (Row.new w e ys).sees⟩
theorem info8 : (Try.prog.info? 5).map (fun i => (i.zero, i.size, i.bytes)) = some (some (.int .u8 0), 1, 1) := by kernel_rfl
theorem elem8 : (Try.prog.info? 5).map (·.size) = some 1 := by kernel_rfl

/-- A slice of bytes, nil let in. -/
def Arg (w : World) (v : Value) (bs : List UInt8) : Prop :=
  (∃ A, v = .slice A 0 0 ∧ bs = []) ∨ ∃ b o cap, v = .slice (some ⟨b, o, none⟩) bs.length cap ∧ b < w.heap.size ∧ bs.length ≤ cap ∧ Sees w b o (bs.map V8)
theorem Arg.below {w w' : World} {v : Value} {bs : List UInt8} (h : Arg w v bs) (hb : Below w.heap.size w w') : Arg w' v bs := by
  rcases h with h | ⟨b, o, cap, e, hl, hc, hs⟩
  · exact .inl h
  · exact .inr ⟨b, o, cap, e, Nat.lt_of_lt_of_le hl hb.size, hc, hs.below hb hl⟩
theorem Arg.form {w : World} {v : Value} {bs : List UInt8} (h : Arg w v bs) : ∃ A cap, v = .slice A bs.length cap := by
  rcases h with ⟨A, e, rfl⟩ | ⟨b, o, c, e, _⟩
  · exact ⟨A, 0, e⟩
  · exact ⟨_, c, e⟩
theorem Own.arg {w : World} {B : Nat} {v : Value} {bs : List UInt8} (h : Own w B 5 v (bs.map V8)) : Arg w v bs := by
  rcases h.2 with ⟨rfl, h0⟩ | ⟨g, cap, cur, rfl, _, hg, hc, _⟩
  · exact .inl ⟨none, rfl, List.eq_nil_of_length_eq_zero (by simpa using h0)⟩
  · rw [List.length_map] at hc
    refine .inr ⟨g, 0, cap, by rw [List.length_map], (Array.getElem?_eq_some_iff.1 hg).1, hc, fun j u hu => ?_⟩
    have := World.ownsRow.cells h (g := g) rfl j u hu
    rwa [add_off] at this
theorem arg_from {w : World} {v : Value} {bs : List UInt8} (h : Arg w v bs) : From w v (bs.map V8) := by
  rcases h with ⟨A, e, rfl⟩ | ⟨b, o, c, e, hb, _, hs⟩
  · exact .inl ⟨A, e, rfl⟩
  · exact .inr ⟨b, o, c, by rw [List.length_map]; exact e, hb, hs⟩
theorem Arg.src {w : World} {A : Option Addr} {n cap : Nat} {bs : List UInt8} (h : Arg w (.slice A n cap) bs) (hp : 0 < bs.length) : ∃ ad, A = some ad ∧ ∀ (j : Nat) v, (bs.map V8)[j]? = some v → w.cell? (ad.add j) = some v := by
  rcases h with ⟨A', e, rfl⟩ | ⟨b, o, c, e, _, _, hs⟩
  · simp at hp
  · injection e with e1 _ _
    refine ⟨_, e1, fun j v hv => ?_⟩
    rw [add_off]
    exact hs j v hv
theorem Row.arg {w : World} {g : Nat} {t : TypeId} {bs : List UInt8} (h : Row w g t (bs.map V8)) (n : Nat) (hn : bs.length = n) : Arg w (.slice (some ⟨g, 0, none⟩) n n) bs :=
  .inr ⟨g, 0, n, by rw [hn], h.lt, by omega, h.sees⟩

/-- The cells of an array of n bytes. -/
def Vec (n : Nat) (bs : List UInt8) (rs : List Value) : Prop := rs = bs.map V8 ∧ bs.length = n
section
variable {n : Nat} {bs : List UInt8} {rs : List Value}
theorem Vec.len (h : Vec n bs rs) : rs.length = n := by rw [h.1, List.length_map, h.2]
theorem Vec.size (h : Vec n bs rs) : rs.toArray.size = n := by rw [List.size_toArray, h.len]
theorem Vec.one (h : Vec n bs rs) : rs.toArray.all (·.oneCell') = true := by rw [h.1]; exact one8 bs
theorem Vec.mk (n : Nat) (bs : List UInt8) (h : bs.length = n) : Vec n bs (bs.map V8) := ⟨rfl, h⟩
theorem Vec.row {w : World} {g : Nat} {t : TypeId} (h : Vec n bs rs) (hr : Row w g t rs) : Row w g t (bs.map V8) := h.1 ▸ hr
theorem Vec.at_ (h : Vec n bs rs) (j : Nat) (hj : j < n) : rs[j]? = some (.int .u8 (bs.getD j 0).toNat) := by
  rw [h.1, List.getElem?_map, List.getElem?_eq_getElem (by rw [h.2]; exact hj), List.getD_eq_getElem?_getD, List.getElem?_eq_getElem (by rw [h.2]; exact hj)]
  rfl
end

/-- a[j] of an array of bytes by value. -/
theorem run_index8 (t : TypeId) (n : Nat) (ht : Try.prog.underlying t = some (.array n 5)) (ks : List Value) (j : Nat) (hj : j < n) (x : Int) (h : ks[j]? = some (.int .u8 x)) (w : World) :
    (Instr.index t (.agg ks.toArray) (.int .i64 (j : Int))).run Try.prog w = .ok (.int .u8 x) w := by
  have hb : 0 ≤ (j : Int) ∧ (j : Int) < n := by omega
  have hs : (sizeOf 5).run Try.prog w = .ok 1 w := by kernel_rfl
  simp only [Instr.index, asIntOf, run_underlying ht, Sem.run_bind, Sem.run_pure, Result.andThen_ok, part]
  simp [h, hs, hj]

/-- A row that is turned place by place: the first k places are new. -/
def upd (new old : List UInt8) (k : Nat) : List UInt8 := new.take k ++ old.drop k
section
variable {new old : List UInt8} {k : Nat}
theorem upd_zero : upd new old 0 = old := by simp [upd]
theorem upd_all (h : new.length = k) (h2 : old.length = k) : upd new old k = new := by
  rw [upd, List.take_of_length_le (by omega), List.drop_eq_nil_of_le (by omega), List.append_nil]
theorem upd_length (h : old.length = new.length) : (upd new old k).length = new.length := by simp [upd]; omega
theorem upd_set (h : old.length = new.length) (hk : k < new.length) : (upd new old k).set k (new.getD k 0) = upd new old (k + 1) := by
  unfold upd
  rw [List.set_append_right _ _ (by simp; omega), List.take_succ_eq_append_getElem hk, List.append_assoc]
  congr 1
  have h1 : k - (new.take k).length = 0 := by simp; omega
  rw [h1, List.drop_eq_getElem_cons (by omega : k < old.length), List.set_cons_zero, List.getD_eq_getElem?_getD, List.getElem?_eq_getElem hk]
  rfl
theorem upd_old (h : old.length = new.length) (j : Nat) (hj : k ≤ j) : (upd new old k).getD j 0 = old.getD j 0 := by
  unfold upd
  rcases Nat.lt_or_ge k new.length with hk | hk
  · rw [List.getD_eq_getElem?_getD, List.getElem?_append_right (by simp; omega), List.getElem?_drop, List.length_take, Nat.min_eq_left (by omega), show k + (j - k) = j by omega, List.getD_eq_getElem?_getD]
  · rw [List.drop_eq_nil_of_le (by omega), List.append_nil, List.take_of_length_le hk, List.getD_eq_getElem?_getD, List.getD_eq_getElem?_getD, List.getElem?_eq_none (by omega), List.getElem?_eq_none (by omega)]
end
theorem upd_cell {w : World} {g : Nat} {t : TypeId} {new old : List UInt8} {k : Nat} (h : Row w g t ((upd new old k).map V8)) (hl : old.length = new.length) (j : Nat) (hj : k ≤ j) (hn : j < new.length) : w.cell? ⟨g, j, none⟩ = some (.int .u8 (old.getD j 0).toNat) := by
  rw [row8 h j (by rw [upd_length hl]; exact hn), upd_old hl j hj]
theorem upd_put {w : World} {g : Nat} {t : TypeId} {new old : List UInt8} {k : Nat} (h : Row w g t ((upd new old k).map V8)) (hl : old.length = new.length) (hk : k < new.length) {z : Int} (hz : z = ((new.getD k 0).toNat : Int)) :
    Row (w.setCell ⟨g, k, none⟩ (.int .u8 z)) g t ((upd new old (k + 1)).map V8) := by
  rw [← upd_set hl hk, List.map_set, hz]
  exact h.set k _

/-- Bytes as a string. -/
def strB (bs : List UInt8) : ByteArray := ⟨bs.toArray⟩
theorem strB_inj {a b : List UInt8} : strB a = strB b ↔ a = b := by
  constructor
  · intro h
    have := congrArg (fun x : ByteArray => x.data.toList) h
    simpa [strB] using this
  · intro h; rw [h]
set_option maxRecDepth 100000 in
theorem conv_arg {w : World} {v : Value} {bs : List UInt8} (h : Arg w v bs) : (convert 41 9 v).run Try.prog w = .ok (.string (strB bs)) w := by
  rcases h with ⟨A, rfl, rfl⟩ | ⟨b, o, cap, rfl, _, _, hs⟩
  · cases A with
    | none => exact run_convert_bytes_nil w 41 5 Try.underlying41 Try.underlying5 0 0 9 Try.underlying9
    | some ad =>
      rw [run_convert_bytes_string w 41 9 5 (some ad) 0 0 Try.underlying41 Try.underlying5 Try.underlying9]
      exact run_bytesToString w ad 0 0 [] (by simp [loadCells, loadCellsFrom])
  · have hx := run_convert_bytes_arg (P := Try.prog) w 41 5 Try.underlying41 Try.underlying5 b o bs.length cap (bs.map fun x => (x.toNat : Int)) (by simp) (fun i hi => by
      have := at8 hs i hi
      rw [this]
      simp [hi]) 9 Try.underlying9
    rw [hx]
    congr 2
    unfold strB
    have : (strOfNums (bs.map fun x => (x.toNat : Int))).data.toList = bs := by
      rw [strOfNums_data, List.map_map]
      conv => rhs; rw [← List.map_id bs]
      apply List.map_congr_left
      intro x _
      simp
    cases hq : strOfNums (bs.map fun x => (x.toNat : Int)) with
    | mk d => rw [hq] at this; simp at this; rw [← this]
end Go.Proofs.Ytiafmghdiidniaa
end
