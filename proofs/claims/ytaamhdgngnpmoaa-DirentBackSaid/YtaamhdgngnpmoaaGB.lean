/-
  MEMORY: rows of entries (a name, a number), of whatever type; appended to one by one.
-/
import Derived.Test.YtaamhdgngnpmoaaGA
import Derived.Test.YtaamhdgngnpmoaaDA
namespace Go.Proofs.Ytaamhdgngnpmoaa
open Go.RowKit Dir

/-- A string. -/
def SB (bs : List UInt8) : Value := .string (strB bs)
def cE (e : En) : List Value := [SB e.n, .int .i64 e.k]
/-- The cells of entries. -/
def cEs (l : List En) : List Value := l.flatMap cE
theorem cEs_length (l : List En) : (cEs l).length = l.length * 2 := by
  induction l with
  | nil => rfl
  | cons e l ih =>
    have : (List.flatMap cE l).length = l.length * 2 := ih
    rw [cEs, List.flatMap_cons, List.length_append, this, List.length_cons]
    show 2 + _ = _
    omega
theorem cEs_snoc (l : List En) (e : En) : cEs (l ++ [e]) = cEs l ++ cE e := by simp [cEs]
theorem cEs_at (l : List En) : ∀ (i : Nat) (e : En), l[i]? = some e → (cEs l)[i * 2]? = some (SB e.n) ∧ (cEs l)[i * 2 + 1]? = some (.int .i64 e.k) := by
  induction l with
  | nil => intro i e h; simp at h
  | cons x l ih =>
    intro i e h
    cases i with
    | zero => simp only [List.getElem?_cons_zero, Option.some.injEq] at h; subst h; exact ⟨rfl, rfl⟩
    | succ i =>
      have := ih i e (by simpa using h)
      rw [cEs, List.flatMap_cons, show (i + 1) * 2 = (i * 2) + 2 by omega, show (i * 2) + 2 + 1 = (i * 2 + 1) + 2 by omega]
      exact this
/-- A slice of entries that is read. -/
def EntsAt (w : World) (v : Value) (l : List En) : Prop :=
  ∃ A cap, v = .slice A l.length cap ∧ (0 < l.length → ∃ b o, A = some ⟨b, o, none⟩ ∧ b < w.heap.size ∧ Sees w b o (cEs l))
theorem EntsAt.below {w w' : World} {v : Value} {l : List En} (h : EntsAt w v l) (hb : Below w.heap.size w w') : EntsAt w' v l := by
  obtain ⟨A, cap, rfl, h⟩ := h
  refine ⟨A, cap, rfl, fun hp => ?_⟩
  obtain ⟨b, o, rfl, hl, hs⟩ := h hp
  exact ⟨b, o, rfl, Nat.lt_of_lt_of_le hl hb.size, hs.below hb hl⟩
/-- A slice of entries that lie from block B on. -/
def EntsHi (w : World) (B : Nat) (v : Value) (l : List En) : Prop :=
  ∃ A cap, v = .slice A l.length cap ∧ (0 < l.length → ∃ b o, A = some ⟨b, o, none⟩ ∧ B ≤ b ∧ b < w.heap.size ∧ Sees w b o (cEs l))
theorem EntsHi.at_ {w : World} {B : Nat} {v : Value} {l : List En} (h : EntsHi w B v l) : EntsAt w v l := by
  obtain ⟨A, cap, e, h⟩ := h
  refine ⟨A, cap, e, fun hp => ?_⟩
  obtain ⟨b, o, e, _, hl, hs⟩ := h hp
  exact ⟨b, o, e, hl, hs⟩
theorem EntsHi.below {w w' : World} {B : Nat} {v : Value} {l : List En} (h : EntsHi w B v l) (hb : Below w.heap.size w w') : EntsHi w' B v l := by
  obtain ⟨A, cap, rfl, h⟩ := h
  refine ⟨A, cap, rfl, fun hp => ?_⟩
  obtain ⟨b, o, rfl, hB, hl, hs⟩ := h hp
  exact ⟨b, o, rfl, hB, Nat.lt_of_lt_of_le hl hb.size, hs.below hb hl⟩
/-- Entries of the call's own, from block B on. -/
abbrev OwnE (w : World) (B : Nat) (t : TypeId) (v : Value) (l : List En) : Prop := w.ownsRow B t 2 v l.length (cEs l)
section
variable {w w' : World} {B : Nat} {t : TypeId} {v : Value} {l : List En}
theorem OwnE.nil (w : World) (B : Nat) (t : TypeId) : OwnE w B t (.slice none 0 0) [] := World.ownsRow_nil w B t 2
theorem OwnE.lt (h : OwnE w B t v l) {k : Nat} (hk : v.ownBlock = some k) : B ≤ k ∧ k < w.heap.size := World.ownsRow.lt h k hk
theorem OwnE.alloc (h : OwnE w B t v l) (o : Obj) : OwnE (w.alloc o) B t v l := World.ownsRow.alloc h o
theorem OwnE.drew (h : OwnE w B t v l) : OwnE w.drew B t v l := h
theorem OwnE.kept {row : Option Nat} (h : OwnE w B t v l) (hg : w.grownBy w' row) (hne : v.ownBlock = none ∨ v.ownBlock ≠ row) : OwnE w' B t v l := World.ownsRow.kept h hg hne
theorem OwnE.below {B' : Nat} (h : OwnE w B t v l) (hb : Below B' w w') (hB : w.heap.size ≤ B') : OwnE w' B t v l :=
  h.kept (row := none) ⟨hb.os, hb.tape, hb.output, hb.size, fun k hk _ => hb.block k (by omega)⟩ (by cases v.ownBlock <;> simp)
theorem OwnE.hi (h : OwnE w B t v l) : EntsHi w B v l := by
  rcases h.2 with ⟨rfl, h0⟩ | ⟨g, cap, cur, rfl, hB, hg, _, _, _, ht⟩
  · refine ⟨none, 0, by rw [h0], fun hp => by omega⟩
  · refine ⟨_, cap, rfl, fun _ => ⟨g, 0, rfl, hB, (Array.getElem?_eq_some_iff.1 hg).1, ?_⟩⟩
    have hrw : Row w g t cur.toList := by rw [Row, Array.toArray_toList]; exact hg
    have := hrw.here.part 0 (l.length * 2)
    rw [Nat.zero_add, List.drop_zero, ht] at this
    exact fun j u hu => this.cell hu
theorem below_appE {w0 : World} {B' : Nat} (hb : Below B' w0 w) (h : OwnE w B t v l) (hg : w.grownBy w' v.ownBlock) (hB : B' ≤ B) (hs : B' ≤ w.heap.size) : Below B' w0 w' :=
  hb.trans ⟨hg.os, hg.tape, hg.output, hg.size, fun k hk => hg.block k (by omega) (fun e => by have := (h.lt e.symm).1; omega)⟩
/-- append of one entry. -/
theorem wpList_appE {P : Program} {ops : Array Oper} {rest : List Oper} {o : Oper} {a : Act} {Q : Exit → Act → World → Prop} (hgd : o.guard = none) (s x : Operand) (ts : TypeId)
    (ho : o.op = .call { callee := .builtin .append, args := #[s, x], argTypes := #[ts, ts] }) (ht : P.underlying ts = some (.slice t)) (hinf : (P.info? t).map (fun i => (i.zero, i.size, i.bytes)) = some (some (.agg #[.string ⟨#[]⟩, .int .i64 0]), 2, 24))
    (hs : a.eval s = v) (hown : OwnE w B t v l) (g : Nat) (e : En) (hx : a.eval x = .slice (some ⟨g, 0, none⟩) 1 1) (hu : Row w g t (cE e)) (hl : l.length + 1 ≤ 100000) (hB : B ≤ w.heap.size)
    (h : ∀ v' w', OwnE w' B t v' (l ++ [e]) → w.grownBy w' v.ownBlock → (v'.ownBlock = v.ownBlock ∨ v'.ownBlock = some w.heap.size) → wpList P ops Q rest (a.put o.dst v') w') : wpList P ops Q (o :: rest) a w := by
  refine wpList_plain hgd fun K hK => ?_
  obtain ⟨i, hi, hz0, hz1, hz2⟩ := info_parts hinf
  obtain ⟨v', w', hr, h2, h3, _, h5⟩ := run_append_own_at w B ts o.type t i _ 2 24 ht hi hz0 hz1 hz2 rfl (by omega) v l.length (cEs l) hown ⟨g, 0, none⟩ 1 1 (cE e) rfl (fun j u hj => by rw [add_off]; exact hu.here.cell hj)
    (fun y hy => by simp only [cE, SB, List.mem_cons, List.not_mem_nil, or_false] at hy; rcases hy with rfl | rfl <;> rfl) (by simp only [maxLen]; omega) (by omega) hB
  unfold Oper.wp execOp
  simp only [ho, resolve, invoke, builtin, Sem.run_bind, Sem.run_pure, Result.andThen_ok, List.map_toArray, List.map_cons, List.map_nil, hs, hx, hr]
  refine hK _ _ (h v' w' ?_ h3 h5)
  show w'.ownsRow B t 2 v' (l ++ [e]).length (cEs (l ++ [e]))
  rw [cEs_snoc, List.length_append]
  exact h2
/-- The same as one step of a region that draws its order. -/
theorem step_appE {P : Program} {ops : Array Oper} {o : Oper} {a : Act} {K : Act → World → Prop} {Q : Exit → Act → World → Prop} {E : Prop} (hgd : o.guard = none) (s x : Operand) (ts : TypeId)
    (ho : o.op = .call { callee := .builtin .append, args := #[s, x], argTypes := #[ts, ts] }) (ht : P.underlying ts = some (.slice t)) (hinf : (P.info? t).map (fun i => (i.zero, i.size, i.bytes)) = some (some (.agg #[.string ⟨#[]⟩, .int .i64 0]), 2, 24))
    (hs : a.eval s = v) (hown : OwnE w B t v l) (g : Nat) (e : En) (hx : a.eval x = .slice (some ⟨g, 0, none⟩) 1 1) (hu : Row w g t (cE e)) (hl : l.length + 1 ≤ 100000) (hB : B ≤ w.heap.size)
    (h : ∀ v' w', OwnE w' B t v' (l ++ [e]) → w.grownBy w' v.ownBlock → (v'.ownBlock = v.ownBlock ∨ v'.ownBlock = some w.heap.size) → K (a.put o.dst v') w') :
    if Region.wanted o (yielded ops a.tmps) = true then Oper.wp P o a w K Q else E := by
  rw [if_pos (by simp [Region.wanted, hgd])]
  obtain ⟨i, hi, hz0, hz1, hz2⟩ := info_parts hinf
  obtain ⟨v', w', hr, h2, h3, _, h5⟩ := run_append_own_at w B ts o.type t i _ 2 24 ht hi hz0 hz1 hz2 rfl (by omega) v l.length (cEs l) hown ⟨g, 0, none⟩ 1 1 (cE e) rfl (fun j u hj => by rw [add_off]; exact hu.here.cell hj)
    (fun y hy => by simp only [cE, SB, List.mem_cons, List.not_mem_nil, or_false] at hy; rcases hy with rfl | rfl <;> rfl) (by simp only [maxLen]; omega) (by omega) hB
  unfold Oper.wp execOp
  simp only [ho, resolve, invoke, builtin, Sem.run_bind, Sem.run_pure, Result.andThen_ok, List.map_toArray, List.map_cons, List.map_nil, hs, hx, hr]
  refine h v' w' ?_ h3 h5
  show w'.ownsRow B t 2 v' (l ++ [e]).length (cEs (l ++ [e]))
  rw [cEs_snoc, List.length_append]
  exact h2
end
end Go.Proofs.Ytaamhdgngnpmoaa
