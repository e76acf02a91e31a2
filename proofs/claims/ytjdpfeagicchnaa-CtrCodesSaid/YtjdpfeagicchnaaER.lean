/-
  THE WALK of the reference's Words: the words of all round keys, as slices.
-/
import Derived.Test.YtjdpfeagicchnaaEQ
import Derived.StillTailTactics
namespace Go.Proofs.Ytjdpfeagicchnaa
open Go.RowKit Aes

theorem mul2 (x : UInt8) : mulB x 2 = dbl x := by
  have := all8 (fun x => mulB x 2 == dbl x) (by decide +kernel) x
  simpa using this
theorem mul3 (x : UInt8) : mulB x 3 = tpl x := by
  have := all8 (fun x => mulB x 3 == tpl x) (by decide +kernel) x
  simpa using this
theorem Mul_two (x : UInt8) (w : World) : Calls Try.prog 19 #[.int .u8 x.toNat, .int .u8 2] w fun e w' => e = .returned (.int .u8 (dbl x).toNat) ∧ w = w' := by
  have := Mul_any x 2 w; rw [mul2] at this; exact this
theorem Mul_three (x : UInt8) (w : World) : Calls Try.prog 19 #[.int .u8 x.toNat, .int .u8 3] w fun e w' => e = .returned (.int .u8 (tpl x).toNat) ∧ w = w' := by
  have := Mul_any x 3 w; rw [mul3] at this; exact this

theorem infoS : (Try.prog.info? 24).map (fun i => (i.zero, i.size, i.bytes)) = some (some (.slice none 0 0), 1, 24) := by kernel_rfl
/-- append of one slice onto a row of slices of the call's own. -/
theorem run_appS {P : Program} {w : World} (t ty : TypeId) (B : Nat) (e : TypeId) {z : Value} {bytes : Nat} (ht : P.underlying t = some (.slice e)) (hi : (P.info? e).map (fun i => (i.zero, i.size, i.bytes)) = some (some z, 1, bytes)) (hz : z.cells.size = 1) (hby : bytes ≤ 100)
    (v : Value) (ys : List Value) (hown : Own w B e v ys) (b off c : Nat) (zs : List Value) (hsee : Sees w b off zs) (h1 : ∀ y ∈ zs, y.oneCell' = true) (hl : ys.length + zs.length ≤ 1000000) (hB : B ≤ w.heap.size) :
    ∃ v' w', (Builtin.append_ #[t, t] ty #[v, .slice (some ⟨b, off, none⟩) zs.length c]).run P w = .ok v' w' ∧ Own w' B e v' (ys ++ zs) ∧ w.grownBy w' v.ownBlock ∧ (v'.ownBlock = v.ownBlock ∨ v'.ownBlock = some w.heap.size) := by
  obtain ⟨i, hi, hz0, hz1, hz2⟩ := info_parts hi
  have hby' : (ys.length + zs.length) * bytes ≤ 140737488355328 := by
    have : (ys.length + zs.length) * bytes ≤ 1000000 * 100 := Nat.mul_le_mul hl hby
    omega
  obtain ⟨v', w', hr, h2, h3, _, h5⟩ := run_append_own_at w B t ty e i z 1 bytes ht hi hz0 hz1 hz2 hz (by omega) v ys.length ys hown ⟨b, off, none⟩ zs.length c zs (by simp) (fun j u hu => by rw [add_off]; exact hsee j u hu) h1 (by simp only [maxLen]; omega) hby' hB
  exact ⟨v', w', hr, by rw [← List.length_append] at h2; exact h2, h3, h5⟩
/-- Values that read as words, where only what is the call's own from B on may turn: they lie below, or were made by the call. -/
def wkK (key : List UInt8) (n : Nat) : List (List UInt8) := wk key n
def markR (k : Nat) : UInt8 := Aes.mark k
/-- The row of words behind n rounds: the slice itself is the call's own, from B on; each word lies elsewhere. -/
def Rowed (B : Nat) (W : World) (v : Value) (ps : List (List UInt8)) : Prop :=
  ∃ vs, Own W B 24 v vs ∧ vs.length = ps.length ∧ ∀ (j : Nat) u p, vs[j]? = some u → ps[j]? = some p → ∃ b o c, u = .slice (some ⟨b, o, none⟩) p.length c ∧ p.length ≤ c ∧ b < W.heap.size ∧ v.ownBlock ≠ some b ∧ Sees W b o (p.map V8)
theorem Rowed.nil (B : Nat) (W : World) : Rowed B W (.slice none 0 0) [] := ⟨[], Own.nil _ _ _, rfl, fun j u p hu => by simp at hu⟩
theorem Rowed.below {B : Nat} {W W' : World} {v : Value} {ps : List (List UInt8)} (h : Rowed B W v ps) (hb : Below W.heap.size W W') : Rowed B W' v ps := by
  obtain ⟨vs, ho, hl, hw⟩ := h
  refine ⟨vs, ho.below hb (Nat.le_refl _), hl, fun j u p hu hp => ?_⟩
  obtain ⟨b, o, c, e, hc, hlt, hne, hs⟩ := hw j u p hu hp
  exact ⟨b, o, c, e, hc, Nat.lt_of_lt_of_le hlt hb.size, hne, hs.below hb hlt⟩
/-- One more word, appended. -/
theorem Rowed.snoc {B : Nat} {W W' : World} {v v' : Value} {ps : List (List UInt8)} {p : List UInt8} {b o c : Nat} (hv : ∃ vs, Own W B 24 v vs ∧ vs.length = ps.length ∧ (∀ (j : Nat) u q, vs[j]? = some u → ps[j]? = some q → ∃ b o c, u = .slice (some ⟨b, o, none⟩) q.length c ∧ q.length ≤ c ∧ b < W.heap.size ∧ v.ownBlock ≠ some b ∧ Sees W b o (q.map V8)) ∧ Own W' B 24 v' (vs ++ [.slice (some ⟨b, o, none⟩) p.length c]))
    (hg : W.grownBy W' v.ownBlock) (hn : v'.ownBlock = v.ownBlock ∨ v'.ownBlock = some W.heap.size) (hb : b < W.heap.size) (hne : v.ownBlock ≠ some b) (hc : p.length ≤ c) (hs : Sees W b o (p.map V8)) : Rowed B W' v' (ps ++ [p]) := by
  obtain ⟨vs, ho, hl, hw, ho'⟩ := hv
  have off : ∀ b', b' < W.heap.size → v.ownBlock ≠ some b' → v'.ownBlock ≠ some b' := fun b' h1 h2 => by
    rcases hn with e | e <;> rw [e]
    · exact h2
    · intro h; injection h with h; omega
  refine ⟨_, ho', by simp [hl], fun j u q hu hq => ?_⟩
  rcases Nat.lt_or_ge j vs.length with hj | hj
  · rw [List.getElem?_append_left hj] at hu
    rw [List.getElem?_append_left (by omega)] at hq
    obtain ⟨b1, o1, c1, e1, hc1, hlt1, hne1, hs1⟩ := hw j u q hu hq
    exact ⟨b1, o1, c1, e1, hc1, Nat.lt_of_lt_of_le hlt1 hg.size, off b1 hlt1 hne1, hs1.grown hg hlt1 (fun h => hne1 h.symm)⟩
  · rw [List.getElem?_append_right hj] at hu
    rw [List.getElem?_append_right (by omega)] at hq
    have hj0 : j - vs.length = 0 := by have := (List.getElem?_eq_some_iff.1 hu).1; simp at this; omega
    rw [hj0] at hu
    rw [show j - ps.length = 0 by omega] at hq
    simp at hu hq
    subst hu hq
    exact ⟨b, o, c, rfl, hc, Nat.lt_of_lt_of_le hb hg.size, off b hb hne, hs.grown hg hb (fun h => hne h.symm)⟩
theorem wpList_rowed {w : World} {ops : Array Oper} {rest : List Oper} {op : Oper} {a : Act} {Q : Exit → Act → World → Prop} (hgd : op.guard = none) (s x : Operand)
    (ho : op.op = .call { callee := .builtin .append, args := #[s, x], argTypes := #[40, 40] })
    (B : Nat) (v : Value) (ps : List (List UInt8)) (hs : a.eval s = v) (hR : Rowed B w v ps) (g c1 b o c : Nat) (p : List UInt8) (hx : a.eval x = .slice (some ⟨g, 0, none⟩) 1 c1) (hsee : Sees w g 0 [.slice (some ⟨b, o, none⟩) p.length c])
    (hb : b < w.heap.size) (hne : v.ownBlock ≠ some b) (hc : p.length ≤ c) (hp : Sees w b o (p.map V8)) (hl : ps.length ≤ 1000) (hB : B ≤ w.heap.size)
    (h : ∀ v' w', Hid (Rowed B w' v' (ps ++ [p])) → Below B w w' → wpList Try.prog ops Q rest (a.put op.dst v') w') : wpList Try.prog ops Q (op :: rest) a w := by
  refine wpList_plain hgd fun K hK => ?_
  obtain ⟨vs, hown, hvl, hw⟩ := hR
  obtain ⟨v', w', hr, h2, h3, h5⟩ := run_appS (P := Try.prog) 40 op.type B 24 Try.underlying40 infoS rfl (by decide) v vs hown g 0 c1 [.slice (some ⟨b, o, none⟩) p.length c] hsee (by intro y hy; simp at hy; subst hy; rfl) (by simp; omega) hB
  have hR' : Rowed B w' v' (ps ++ [p]) := Rowed.snoc ⟨vs, hown, hvl, hw, h2⟩ h3 h5 hb hne hc hp
  unfold Oper.wp execOp
  simp only [ho, resolve, invoke, builtin, Sem.run_bind, Sem.run_pure, Result.andThen_ok, List.map_toArray, List.map_cons, List.map_nil, hs, hx]
  have hr' := hr
  simp only [List.length_cons, List.length_nil, Nat.zero_add] at hr'
  rw [hr']
  exact hK _ _ (h v' w' hR' (below_app (Below.refl _ _) hown h3 (Nat.le_refl _) hB))

/-- Where the word j lies. -/
theorem Rowed.word {B : Nat} {W : World} {v : Value} {ps : List (List UInt8)} (h : Rowed B W v ps) (h4 : ∀ x ∈ ps, x.length = 4) (hp : 0 < ps.length) :
    ∃ g cap, v = .slice (some ⟨g, 0, none⟩) ps.length cap ∧ v.ownBlock = some g ∧ B ≤ g ∧ g < W.heap.size ∧ ∀ j, j < ps.length → ∃ b o c, W.cell? ⟨g, j, none⟩ = some (.slice (some ⟨b, o, none⟩) 4 c) ∧ b < W.heap.size ∧ b ≠ g ∧ Sees W b o ((ps.getD j []).map V8) ∧ (ps.getD j []).length = 4 := by
  obtain ⟨vs, ho, hl, hw⟩ := h
  obtain ⟨g, cap, e, hB, hg, hs⟩ := ho.form (by omega)
  have hob : v.ownBlock = some g := by rw [e]; rfl
  refine ⟨g, cap, by rw [e, hl], hob, hB, hg, fun j hj => ?_⟩
  have hv := List.getElem?_eq_getElem (show j < vs.length by omega)
  have hq := List.getElem?_eq_getElem hj
  have hq4 := h4 _ (List.getElem_mem hj)
  obtain ⟨b, o, c, e1, _, hlt, hne, hs1⟩ := hw j _ _ hv hq
  have e2 : ps.getD j [] = ps[j] := by rw [List.getD_eq_getElem?_getD, hq]; rfl
  refine ⟨b, o, c, ?_, hlt, fun h => hne (by rw [hob, h]), by rw [e2]; exact hs1, by rw [e2]; exact hq4⟩
  have := hs j _ hv
  rw [Nat.zero_add, e1, hq4] at this
  exact this
end Go.Proofs.Ytjdpfeagicchnaa
