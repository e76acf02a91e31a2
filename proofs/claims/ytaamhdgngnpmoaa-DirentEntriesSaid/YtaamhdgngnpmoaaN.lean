/-
  MEMORY, MORE (no program): rows of the call's own ('Own'), appended to from whatever source ('From').
-/
import Derived.Test.YtaamhdgngnpmoaaM
import Derived.Maps.AppendAt
import Derived.Laws.AppendOwnNone
import Derived.Deep.AppendLies
import Derived.OwnWalk
import Derived.Deep.RegionLaw
namespace Go.Proofs.Ytaamhdgngnpmoaa
open Go.RowKit

/-- The slice v is the call's own from block B on, and reads as ys. -/
def Own (w : World) (B : Nat) (e : TypeId) (v : Value) (ys : List Value) : Prop := w.ownsRow B e 1 v ys.length ys
/-- The slice v reads as ys. -/
def From (w : World) (v : Value) (ys : List Value) : Prop :=
  (∃ A, v = .slice A 0 0 ∧ ys = []) ∨ ∃ b o c, v = .slice (some ⟨b, o, none⟩) ys.length c ∧ b < w.heap.size ∧ Sees w b o ys

theorem add_off (b o j : Nat) : (⟨b, o, none⟩ : Addr).add j = ⟨b, o + j, none⟩ := by unfold Addr.add; split <;> simp_all

section
variable {w w' : World} {B : Nat} {e : TypeId} {v : Value} {ys : List Value}
theorem Own.nil (w : World) (B : Nat) (e : TypeId) : Own w B e (.slice none 0 0) [] := World.ownsRow_nil w B e 1
theorem Own.lt (h : Own w B e v ys) {k : Nat} (hk : v.ownBlock = some k) : B ≤ k ∧ k < w.heap.size := World.ownsRow.lt h k hk
theorem Own.alloc (h : Own w B e v ys) (o : Obj) : Own (w.alloc o) B e v ys := World.ownsRow.alloc h o
theorem Own.drew (h : Own w B e v ys) : Own w.drew B e v ys := h
theorem Own.drewN (h : Own w B e v ys) (n : Nat) : Own (w.drewN n) B e v ys := h
theorem Own.kept {row : Option Nat} (h : Own w B e v ys) (hg : w.grownBy w' row) (hne : v.ownBlock = none ∨ v.ownBlock ≠ row) : Own w' B e v ys := World.ownsRow.kept h hg hne
theorem Own.below {B' : Nat} (h : Own w B e v ys) (hb : Below B' w w') (hB : w.heap.size ≤ B') : Own w' B e v ys :=
  h.kept (row := none) ⟨hb.os, hb.tape, hb.output, hb.size, fun k hk _ => hb.block k (by omega)⟩ (by cases v.ownBlock <;> simp)
theorem Own.lit (w : World) (B : Nat) (e : TypeId) (ys : List Value) (hB : B ≤ w.heap.size) (hl : ys.length ≤ 1000000) :
    Own (w.alloc (.cells ys.toArray e)) B e (.slice (some ⟨w.heap.size, 0, none⟩) ys.length ys.length) ys := by
  have := World.ownsRow_lit (e := e) (base := B) (size := 1) w ys.toArray ys.length hB (by simp only [maxLen]; omega) (by simp)
  exact this
/-- Its value written out. -/
theorem Own.form (h : Own w B e v ys) (hn : 0 < ys.length) : ∃ g cap, v = .slice (some ⟨g, 0, none⟩) ys.length cap ∧ B ≤ g ∧ g < w.heap.size ∧ Sees w g 0 ys := by
  obtain ⟨g, cap, rfl, hb, hl⟩ := World.ownsRow.form h hn
  refine ⟨g, cap, rfl, hb, hl, fun j u hu => ?_⟩
  have := World.ownsRow.cells h (g := g) rfl j u hu
  rwa [add_off] at this
theorem Own.form_cap (h : Own w B e v ys) (hn : 0 < ys.length) : ∃ g cap, v = .slice (some ⟨g, 0, none⟩) ys.length cap ∧ B ≤ g ∧ g < w.heap.size ∧ ys.length ≤ cap ∧ Sees w g 0 ys := by
  obtain ⟨g, cap, hv, hb, hl, hs⟩ := h.form hn
  refine ⟨g, cap, hv, hb, hl, ?_, hs⟩
  rcases h.2 with ⟨_, h0⟩ | ⟨g', cap', cur, hv', _, _, hc, _⟩
  · omega
  · rw [hv] at hv'
    injection hv' with _ _ h3
    omega
theorem Own.from_ (h : Own w B e v ys) : From w v ys := by
  rcases Nat.eq_zero_or_pos ys.length with h0 | h0
  · have hy := List.eq_nil_of_length_eq_zero h0
    subst hy
    rcases h.2 with ⟨rfl, _⟩ | ⟨g, cap, cur, rfl, _, hg, _⟩
    · exact .inl ⟨none, rfl, rfl⟩
    · exact .inr ⟨g, 0, cap, rfl, (Array.getElem?_eq_some_iff.1 hg).1, Sees.nil⟩
  · obtain ⟨g, cap, rfl, _, hl, hs⟩ := h.form h0
    exact .inr ⟨g, 0, cap, rfl, hl, hs⟩
theorem Own.base {B' : Nat} (h : Own w B e v ys) (hB : B' ≤ B) : Own w B' e v ys := by
  obtain ⟨h1, h2⟩ := h
  refine ⟨h1, ?_⟩
  rcases h2 with h2 | ⟨g, cap, cur, hv, hg, r⟩
  · exact .inl h2
  · exact .inr ⟨g, cap, cur, hv, by omega, r⟩
end

/-- Behind an append onto a row of the call's own nothing below has turned. -/
theorem below_app {w0 w w' : World} {B B' : Nat} {e : TypeId} {v : Value} {ys : List Value} (hb : Below B' w0 w) (h : Own w B e v ys) (hg : w.grownBy w' v.ownBlock) (hB : B' ≤ B) (hs : B' ≤ w.heap.size) : Below B' w0 w' :=
  hb.grown hg hs fun _ hk => Nat.le_trans hB (h.lt hk).1

theorem run_app {P : Program} {w : World} (t ty : TypeId) (B : Nat) (e : TypeId) {z : Value} {bytes : Nat} (ht : P.underlying t = some (.slice e)) (hi : (P.info? e).map (fun i => (i.zero, i.size, i.bytes)) = some (some z, 1, bytes)) (hz : z.cells.size = 1) (hby : bytes ≤ 8)
    (v : Value) (ys : List Value) (hown : Own w B e v ys) (u : Value) (zs : List Value) (hu : From w u zs) (h1 : ∀ y ∈ zs, y.oneCell' = true) (hl : ys.length + zs.length ≤ 100000000) (hB : B ≤ w.heap.size) :
    ∃ v' w', (Builtin.append_ #[t, t] ty #[v, u]).run P w = .ok v' w' ∧ Own w' B e v' (ys ++ zs) ∧ w.grownBy w' v.ownBlock ∧ (v'.ownBlock = v.ownBlock ∨ v'.ownBlock = some w.heap.size) := by
  obtain ⟨i, hi, hz0, hz1, hz2⟩ := info_parts hi
  have hby' : (ys.length + zs.length) * bytes ≤ 140737488355328 := by
    have : (ys.length + zs.length) * bytes ≤ 100000000 * 8 := Nat.mul_le_mul hl hby
    omega
  rcases hu with ⟨A, rfl, rfl⟩ | ⟨b, off, c, rfl, _, hsee⟩
  · cases A with
    | none => exact ⟨v, w, run_append_owned_none w B t ty e i 1 ht hi v ys.length ys hown, by rw [List.append_nil]; exact hown, World.grownBy.refl w _, .inl rfl⟩
    | some ad =>
      obtain ⟨v', w', hr, h2, h3, _, h5⟩ := run_append_own_at w B t ty e i z 1 bytes ht hi hz0 hz1 hz2 hz (by omega) v ys.length ys hown ad 0 0 [] (by simp) (fun j u hu => by simp at hu) (by simp) (by simp only [maxLen]; omega) (by simpa using hby') hB
      exact ⟨v', w', hr, by rw [Nat.add_zero] at h2; rw [List.append_nil] at h2 ⊢; exact h2, h3, h5⟩
  · obtain ⟨v', w', hr, h2, h3, _, h5⟩ := run_append_own_at w B t ty e i z 1 bytes ht hi hz0 hz1 hz2 hz (by omega) v ys.length ys hown ⟨b, off, none⟩ zs.length c zs (by simp) (fun j u hu => by rw [add_off]; exact hsee j u hu) h1 (by simp only [maxLen]; omega) hby' hB
    exact ⟨v', w', hr, by rw [← List.length_append] at h2; exact h2, h3, h5⟩

/-- The same as one step of a region that draws its order. -/
theorem step_app {P : Program} {w : World} {ops : Array Oper} {o : Oper} {a : Act} {K : Act → World → Prop} {Q : Exit → Act → World → Prop} {E : Prop} (hgd : o.guard = none) (s x : Operand) (t : TypeId)
    (ho : o.op = .call { callee := .builtin .append, args := #[s, x], argTypes := #[t, t] })
    (B : Nat) (e : TypeId) {z : Value} {bytes : Nat} (ht : P.underlying t = some (.slice e)) (hi : (P.info? e).map (fun i => (i.zero, i.size, i.bytes)) = some (some z, 1, bytes)) (hz : z.cells.size = 1) (hby : bytes ≤ 8)
    (v : Value) (ys : List Value) (hs : a.eval s = v) (hown : Own w B e v ys) (u : Value) (zs : List Value) (hx : a.eval x = u) (hu : From w u zs) (h1 : ∀ y ∈ zs, y.oneCell' = true)
    (hl : ys.length + zs.length ≤ 100000000) (hB : B ≤ w.heap.size)
    (h : ∀ v' w', Own w' B e v' (ys ++ zs) → w.grownBy w' v.ownBlock → (v'.ownBlock = v.ownBlock ∨ v'.ownBlock = some w.heap.size) → K (a.put o.dst v') w') :
    if Region.wanted o (yielded ops a.tmps) = true then Oper.wp P o a w K Q else E := by
  rw [if_pos (by simp [Region.wanted, hgd])]
  obtain ⟨v', w', hr, h2, h3, h4⟩ := run_app (P := P) t o.type B e ht hi hz hby v ys hown u zs hu h1 hl hB
  unfold Oper.wp execOp
  simp only [ho, resolve, invoke, builtin, Sem.run_bind, Sem.run_pure, Result.andThen_ok, List.map_toArray, List.map_cons, List.map_nil, hs, hx, hr]
  exact h v' w' h2 h3 h4

/-- append onto a row of the call's own, whatever the source. -/
theorem wpList_app {P : Program} {w : World} {ops : Array Oper} {rest : List Oper} {o : Oper} {a : Act} {Q : Exit → Act → World → Prop} (hgd : o.guard = none) (s x : Operand) (t : TypeId)
    (ho : o.op = .call { callee := .builtin .append, args := #[s, x], argTypes := #[t, t] })
    (B : Nat) (e : TypeId) {z : Value} {bytes : Nat} (ht : P.underlying t = some (.slice e)) (hi : (P.info? e).map (fun i => (i.zero, i.size, i.bytes)) = some (some z, 1, bytes)) (hz : z.cells.size = 1) (hby : bytes ≤ 8)
    (v : Value) (ys : List Value) (hs : a.eval s = v) (hown : Own w B e v ys) (u : Value) (zs : List Value) (hx : a.eval x = u) (hu : From w u zs) (h1 : ∀ y ∈ zs, y.oneCell' = true)
    (hl : ys.length + zs.length ≤ 100000000) (hB : B ≤ w.heap.size)
    (h : ∀ v' w', Own w' B e v' (ys ++ zs) → w.grownBy w' v.ownBlock → (v'.ownBlock = v.ownBlock ∨ v'.ownBlock = some w.heap.size) → wpList P ops Q rest (a.put o.dst v') w') : wpList P ops Q (o :: rest) a w := by
  refine wpList_plain hgd fun K hK => ?_
  obtain ⟨v', w', hr, h2, h3, h4⟩ := run_app (P := P) t o.type B e ht hi hz hby v ys hown u zs hu h1 hl hB
  unfold Oper.wp execOp
  simp only [ho, resolve, invoke, builtin, Sem.run_bind, Sem.run_pure, Result.andThen_ok, List.map_toArray, List.map_cons, List.map_nil, hs, hx, hr]
  exact hK _ _ (h v' w' h2 h3 h4)

theorem From.alloc {w : World} {v : Value} {ys : List Value} (h : From w v ys) (o : Obj) : From (w.alloc o) v ys := by
  rcases h with h | ⟨b, off, c, e, hl, hs⟩
  · exact .inl h
  · exact .inr ⟨b, off, c, e, by simp; omega, hs.alloc hl o⟩
theorem From.below {w w' : World} {v : Value} {ys : List Value} (h : From w v ys) (hb : Below w.heap.size w w') : From w' v ys := by
  rcases h with h | ⟨b, off, c, e, hl, hs⟩
  · exact .inl h
  · exact .inr ⟨b, off, c, e, Nat.lt_of_lt_of_le hl hb.size, hs.below hb hl⟩

end Go.Proofs.Ytaamhdgngnpmoaa
