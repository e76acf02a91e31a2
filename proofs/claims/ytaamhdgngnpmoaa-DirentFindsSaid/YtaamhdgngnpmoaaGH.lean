/-
  ROWS OF STRINGS, appended to; THE WALK of the reference's Names.
-/
import Derived.Test.YtaamhdgngnpmoaaGD
namespace Go.Proofs.Ytaamhdgngnpmoaa
open Go.RowKit Dir

theorem infoStr : (Try.prog.info? 9).map (fun i => (i.zero, i.size, i.bytes)) = some (some (.string ⟨#[]⟩), 1, 16) := by kernel_rfl
theorem oneCS (l : List (List UInt8)) : ∀ y ∈ l.map SB, y.oneCell' = true := fun y hy => by obtain ⟨x, _, rfl⟩ := List.mem_map.1 hy; rfl
theorem run_appS {w : World} (ty : TypeId) (B : Nat) (v : Value) (ys : List Value) (hown : Own w B 9 v ys) (u : Value) (zs : List Value) (hu : From w u zs) (h1 : ∀ y ∈ zs, y.oneCell' = true) (hl : ys.length + zs.length ≤ 1000000) (hB : B ≤ w.heap.size) :
    ∃ v' w', (Builtin.append_ #[44, 44] ty #[v, u]).run Try.prog w = .ok v' w' ∧ Own w' B 9 v' (ys ++ zs) ∧ w.grownBy w' v.ownBlock := by
  obtain ⟨i, hi, hz0, hz1, hz2⟩ := info_parts infoStr
  rcases hu with ⟨A, rfl, rfl⟩ | ⟨b, off, c, rfl, _, hsee⟩
  · cases A with
    | none => exact ⟨v, w, run_append_owned_none w B 44 ty 9 i 1 Try.underlying44 hi v ys.length ys hown, by rw [List.append_nil]; exact hown, World.grownBy.refl w _⟩
    | some ad =>
      obtain ⟨v', w', hr, h2, h3, _, _⟩ := run_append_own_at w B 44 ty 9 i _ 1 16 Try.underlying44 hi hz0 hz1 hz2 rfl (by omega) v ys.length ys hown ad 0 0 [] (by simp) (fun j u hu => by simp at hu) (by simp) (by simp only [maxLen]; omega) (by omega) hB
      exact ⟨v', w', hr, by rw [Nat.add_zero] at h2; rw [List.append_nil] at h2 ⊢; exact h2, h3⟩
  · obtain ⟨v', w', hr, h2, h3, _, _⟩ := run_append_own_at w B 44 ty 9 i _ 1 16 Try.underlying44 hi hz0 hz1 hz2 rfl (by omega) v ys.length ys hown ⟨b, off, none⟩ zs.length c zs (by simp) (fun j u hu => by rw [add_off]; exact hsee j u hu) h1 (by simp only [maxLen]; omega) (by omega) hB
    exact ⟨v', w', hr, by rw [← List.length_append] at h2; exact h2, h3⟩
theorem wpList_appS {w : World} {ops : Array Oper} {rest : List Oper} {o : Oper} {a : Act} {Q : Exit → Act → World → Prop} (hgd : o.guard = none) (s x : Operand)
    (ho : o.op = .call { callee := .builtin .append, args := #[s, x], argTypes := #[44, 44] })
    (B : Nat) (v : Value) (ys : List Value) (hs : a.eval s = v) (hown : Own w B 9 v ys) (u : Value) (zs : List Value) (hx : a.eval x = u) (hu : From w u zs) (h1 : ∀ y ∈ zs, y.oneCell' = true) (hl : ys.length + zs.length ≤ 1000000) (hB : B ≤ w.heap.size)
    (h : ∀ v' w', Own w' B 9 v' (ys ++ zs) → w.grownBy w' v.ownBlock → wpList Try.prog ops Q rest (a.put o.dst v') w') : wpList Try.prog ops Q (o :: rest) a w := by
  refine wpList_plain hgd fun K hK => ?_
  obtain ⟨v', w', hr, h2, h3⟩ := run_appS o.type B v ys hown u zs hu h1 hl hB
  unfold Oper.wp execOp
  simp only [ho, resolve, invoke, builtin, Sem.run_bind, Sem.run_pure, Result.andThen_ok, List.map_toArray, List.map_cons, List.map_nil, hs, hx, hr]
  exact hK _ _ (h v' w' h2 h3)

theorem From.head {w : World} {A : Option Addr} {n cap t : Nat} {l : List Value} (h : From w (.slice A n cap) l) (ht : t ≤ n) : From w (.slice A t cap) (l.take t) := by
  rcases h with ⟨A', e, rfl⟩ | ⟨b, o, c, e, hb, hs⟩
  · injection e with e1 e2 e3
    subst e2; subst e3
    obtain rfl : t = 0 := by omega
    exact .inl ⟨A, rfl, rfl⟩
  · injection e with e1 e2 e3
    subst e1; subst e3
    refine .inr ⟨b, o, cap, by rw [List.length_take, ← e2, Nat.min_eq_left ht], hb, fun j u hu => ?_⟩
    rw [List.getElem?_take] at hu
    split at hu
    · exact hs j u hu
    · cases hu
theorem From.belowS {w w' : World} {u : Value} {zs : List Value} (h : From w u zs) (hb : Below w.heap.size w w') : From w' u zs := by
  rcases h with h | ⟨b, o, c, e, hl, hs⟩
  · exact .inl h
  · exact .inr ⟨b, o, c, e, Nat.lt_of_lt_of_le hl hb.size, hs.below hb hl⟩
theorem From.rest {w : World} {g n cap t : Nat} {l : List Value} (h : From w (.slice (some ⟨g, 0, none⟩) n cap) l) (hn : n = l.length) (hg : g < w.heap.size) (ht : t ≤ n) (A : Addr) (hA : A = ⟨g, t, none⟩ ∨ (t = n ∧ A = ⟨g, 0, none⟩)) : From w (.slice (some A) (n - t) (cap - t)) (l.drop t) := by
  have hl : (l.drop t).length = n - t := by rw [List.length_drop, hn]
  rcases hA with rfl | ⟨rfl, rfl⟩
  · refine .inr ⟨g, t, cap - t, by rw [hl], hg, fun j u hu => ?_⟩
    rcases h with ⟨A', e, rfl⟩ | ⟨b, o, c, e, _, hs⟩
    · simp at hu
    · injection e with e1 e2 e3
      injection e1 with e1
      injection e1 with e1 e4 _
      subst e1; subst e4
      rw [List.getElem?_drop] at hu
      have := hs _ u hu
      rwa [Nat.zero_add] at this
  · refine .inr ⟨g, 0, cap - t, by rw [hl], hg, fun j u hu => ?_⟩
    rw [List.drop_eq_nil_of_le (by omega)] at hu
    simp at hu
theorem take_while_at {P : List (List UInt8)} {p : List UInt8 → Bool} (q : Nat) (hq : q ≤ P.length) (h1 : ∀ i, i < q → p (P.getD i []) = true) (h2 : q < P.length → p (P.getD q []) = false) : P.takeWhile p = P.take q ∧ P.dropWhile p = P.drop q := by
  induction P generalizing q with
  | nil => simp at hq; subst hq; simp
  | cons x r ih =>
    cases q with
    | zero =>
      have := h2 (by simp)
      simp only [List.getD_cons_zero] at this
      simp [this]
    | succ q =>
      have h0 := h1 0 (by omega)
      simp only [List.getD_cons_zero] at h0
      have := ih q (by simpa using hq) (fun i hi => by have := h1 (i + 1) (by omega); simpa using this) (fun hq' => by have := h2 (by simpa using hq'); simpa using this)
      simp [h0, this.1, this.2]
end Go.Proofs.Ytaamhdgngnpmoaa
