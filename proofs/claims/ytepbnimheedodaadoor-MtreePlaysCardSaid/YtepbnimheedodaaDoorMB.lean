/-
  ROWS OF STRINGS, and rows of rows (of bytes, of strings): append, what they read as; a string as bytes.
-/
import Derived.Test.YtepbnimheedodaaDoorMA
import Derived.StillTailTactics
namespace Go.Proofs.YtepbnimheedodaaDoor
open Go.RowKit

/-- Bytes as a string's cell. -/
abbrev VS (bs : List UInt8) : Value := .string (strB bs)
theorem oneStr (l : List (List UInt8)) : ∀ y ∈ l.map VS, y.oneCell' = true := fun y hy => by obtain ⟨x, _, rfl⟩ := List.mem_map.1 hy; rfl
theorem infoStr : (Tryd.prog.info? 9).map (fun i => (i.zero, i.size, i.bytes)) = some (some (.string ⟨#[]⟩), 1, 16) := by kernel_rfl
theorem infoS : (Tryd.prog.info? 22).map (fun i => (i.zero, i.size, i.bytes)) = some (some (.slice none 0 0), 1, 24) := by kernel_rfl
theorem infoSS : (Tryd.prog.info? 38).map (fun i => (i.zero, i.size, i.bytes)) = some (some (.slice none 0 0), 1, 24) := by kernel_rfl

/-- append onto a row of the call's own: the elements may be wider than 8 bytes. -/
theorem run_appT {P : Program} {w : World} (t ty : TypeId) (B : Nat) (e : TypeId) {z : Value} {bytes : Nat} (ht : P.underlying t = some (.slice e)) (hi : (P.info? e).map (fun i => (i.zero, i.size, i.bytes)) = some (some z, 1, bytes)) (hz : z.cells.size = 1) (hby : bytes ≤ 100)
    (v : Value) (ys : List Value) (hown : Own w B e v ys) (u : Value) (zs : List Value) (hu : From w u zs) (h1 : ∀ y ∈ zs, y.oneCell' = true) (hl : ys.length + zs.length ≤ 1000000) (hB : B ≤ w.heap.size) :
    ∃ v' w', (Builtin.append_ #[t, t] ty #[v, u]).run P w = .ok v' w' ∧ Own w' B e v' (ys ++ zs) ∧ w.grownBy w' v.ownBlock ∧ (v'.ownBlock = v.ownBlock ∨ v'.ownBlock = some w.heap.size) := by
  obtain ⟨i, hi, hz0, hz1, hz2⟩ := info_parts hi
  have hby' : (ys.length + zs.length) * bytes ≤ 140737488355328 := by
    have : (ys.length + zs.length) * bytes ≤ 1000000 * 100 := Nat.mul_le_mul hl hby
    omega
  rcases hu with ⟨A, rfl, rfl⟩ | ⟨b, off, c, rfl, _, hsee⟩
  · cases A with
    | none => exact ⟨v, w, run_append_owned_none w B t ty e i 1 ht hi v ys.length ys hown, by rw [List.append_nil]; exact hown, World.grownBy.refl w _, .inl rfl⟩
    | some ad =>
      obtain ⟨v', w', hr, h2, h3, _, h5⟩ := run_append_own_at w B t ty e i z 1 bytes ht hi hz0 hz1 hz2 hz (by omega) v ys.length ys hown ad 0 0 [] (by simp) (fun j u hu => by simp at hu) (by simp) (by simp only [maxLen]; simp at hl; omega) (by simpa using hby') hB
      exact ⟨v', w', hr, by rw [Nat.add_zero] at h2; rw [List.append_nil] at h2 ⊢; exact h2, h3, h5⟩
  · obtain ⟨v', w', hr, h2, h3, _, h5⟩ := run_append_own_at w B t ty e i z 1 bytes ht hi hz0 hz1 hz2 hz (by omega) v ys.length ys hown ⟨b, off, none⟩ zs.length c zs (by simp) (fun j u hu => by rw [add_off]; exact hsee j u hu) h1 (by simp only [maxLen]; omega) hby' hB
    exact ⟨v', w', hr, by rw [← List.length_append] at h2; exact h2, h3, h5⟩
theorem wpList_appT {P : Program} {w : World} {ops : Array Oper} {rest : List Oper} {o : Oper} {a : Act} {Q : Exit → Act → World → Prop} (hgd : o.guard = none) (s x : Operand) (t : TypeId)
    (ho : o.op = .call { callee := .builtin .append, args := #[s, x], argTypes := #[t, t] })
    (B : Nat) (e : TypeId) {z : Value} {bytes : Nat} (ht : P.underlying t = some (.slice e)) (hi : (P.info? e).map (fun i => (i.zero, i.size, i.bytes)) = some (some z, 1, bytes)) (hz : z.cells.size = 1) (hby : bytes ≤ 100)
    (v : Value) (ys : List Value) (hs : a.eval s = v) (hown : Own w B e v ys) (u : Value) (zs : List Value) (hx : a.eval x = u) (hu : From w u zs) (h1 : ∀ y ∈ zs, y.oneCell' = true)
    (hl : ys.length + zs.length ≤ 1000000) (hB : B ≤ w.heap.size)
    (h : ∀ v' w', Own w' B e v' (ys ++ zs) → w.grownBy w' v.ownBlock → (v'.ownBlock = v.ownBlock ∨ v'.ownBlock = some w.heap.size) → wpList P ops Q rest (a.put o.dst v') w') : wpList P ops Q (o :: rest) a w := by
  refine wpList_plain hgd fun K hK => ?_
  obtain ⟨v', w', hr, h2, h3, h4⟩ := run_appT (P := P) t o.type B e ht hi hz hby v ys hown u zs hu h1 hl hB
  unfold Oper.wp execOp
  simp only [ho, resolve, invoke, builtin, Sem.run_bind, Sem.run_pure, Result.andThen_ok, List.map_toArray, List.map_cons, List.map_nil, hs, hx, hr]
  exact hK _ _ (h v' w' h2 h3 h4)

/-- A row of rows: the outer one is the call's own, from B on; each inner one lies elsewhere. -/
def Rowed {α : Type} (f : α → Value) (e : TypeId) (B : Nat) (W : World) (v : Value) (ps : List (List α)) : Prop :=
  ∃ vs, Own W B e v vs ∧ vs.length = ps.length ∧ ∀ (j : Nat) u p, vs[j]? = some u → ps[j]? = some p → ∃ b o c, u = .slice (some ⟨b, o, none⟩) p.length c ∧ p.length ≤ c ∧ b < W.heap.size ∧ v.ownBlock ≠ some b ∧ Sees W b o (p.map f)
section
variable {α : Type} {f : α → Value} {e : TypeId} {B : Nat} {W W' : World} {v v' : Value} {ps : List (List α)} {p : List α} {b o c : Nat}
theorem Rowed.nil : Rowed f e B W (.slice none 0 0) [] := ⟨[], Own.nil _ _ _, rfl, fun j u p hu => by simp at hu⟩
theorem Rowed.below (h : Rowed f e B W v ps) (hb : Below W.heap.size W W') : Rowed f e B W' v ps := by
  obtain ⟨vs, ho, hl, hw⟩ := h
  refine ⟨vs, ho.below hb (Nat.le_refl _), hl, fun j u p hu hp => ?_⟩
  obtain ⟨b, o, c, e, hc, hlt, hne, hs⟩ := hw j u p hu hp
  exact ⟨b, o, c, e, hc, Nat.lt_of_lt_of_le hlt hb.size, hne, hs.below hb hlt⟩
/-- One row more, appended. -/
theorem Rowed.snoc (hv : ∃ vs, Own W B e v vs ∧ vs.length = ps.length ∧ (∀ (j : Nat) u q, vs[j]? = some u → ps[j]? = some q → ∃ b o c, u = .slice (some ⟨b, o, none⟩) q.length c ∧ q.length ≤ c ∧ b < W.heap.size ∧ v.ownBlock ≠ some b ∧ Sees W b o (q.map f)) ∧ Own W' B e v' (vs ++ [.slice (some ⟨b, o, none⟩) p.length c]))
    (hg : W.grownBy W' v.ownBlock) (hn : v'.ownBlock = v.ownBlock ∨ v'.ownBlock = some W.heap.size) (hb : b < W.heap.size) (hne : v.ownBlock ≠ some b) (hc : p.length ≤ c) (hs : Sees W b o (p.map f)) : Rowed f e B W' v' (ps ++ [p]) := by
  obtain ⟨vs, ho, hl, hw, ho'⟩ := hv
  have off : ∀ b', b' < W.heap.size → v.ownBlock ≠ some b' → v'.ownBlock ≠ some b' := fun b' h1 h2 => by
    rcases hn with e | e <;> rw [e]
    · exact h2
    · intro h; injection h with h; omega
  refine ⟨_, ho', by simp [hl], fun j u q hu hq => ?_⟩
  rcases Nat.lt_or_ge j vs.length with hj | hj
  · rw [List.getElem?_append_left hj] at hu
    rw [List.getElem?_append_left (by omega)] at hq
    obtain ⟨b1, o1, c1, e1, hc1, hlt1, hne1, hs1⟩ := hw j u q hu hq
    exact ⟨b1, o1, c1, e1, hc1, Nat.lt_of_lt_of_le hlt1 hg.size, off b1 hlt1 hne1, hs1.grown hg hlt1 (fun h => hne1 h.symm)⟩
  · rw [List.getElem?_append_right hj] at hu
    rw [List.getElem?_append_right (by omega)] at hq
    have hj0 : j - vs.length = 0 := by have := (List.getElem?_eq_some_iff.1 hu).1; simp at this; omega
    rw [hj0] at hu
    rw [show j - ps.length = 0 by omega] at hq
    simp at hu hq
    subst hu hq
    exact ⟨b, o, c, rfl, hc, Nat.lt_of_lt_of_le hb hg.size, off b hb hne, hs.grown hg hb (fun h => hne h.symm)⟩
theorem wpList_rowed {w : World} {ops : Array Oper} {rest : List Oper} {op : Oper} {a : Act} {Q : Exit → Act → World → Prop} (hgd : op.guard = none) (s x : Operand) (t : TypeId)
    (ho : op.op = .call { callee := .builtin .append, args := #[s, x], argTypes := #[t, t] }) (ht : Tryd.prog.underlying t = some (.slice e)) (hi : (Tryd.prog.info? e).map (fun i => (i.zero, i.size, i.bytes)) = some (some (.slice none 0 0), 1, 24))
    (v : Value) (hs : a.eval s = v) (hR : Rowed f e B w v ps) (g c1 : Nat) (hx : a.eval x = .slice (some ⟨g, 0, none⟩) 1 c1) (hgl : g < w.heap.size) (hsee : Sees w g 0 [.slice (some ⟨b, o, none⟩) p.length c])
    (hb : b < w.heap.size) (hne : v.ownBlock ≠ some b) (hc : p.length ≤ c) (hp : Sees w b o (p.map f)) (hl : ps.length ≤ 1000) (hB : B ≤ w.heap.size)
    (h : ∀ v' w', Hid (Rowed f e B w' v' (ps ++ [p])) → w.grownBy w' v.ownBlock → (v'.ownBlock = v.ownBlock ∨ v'.ownBlock = some w.heap.size) → wpList Tryd.prog ops Q rest (a.put op.dst v') w') : wpList Tryd.prog ops Q (op :: rest) a w := by
  obtain ⟨vs, hown, hvl, hw⟩ := hR
  refine wpList_appT hgd s x t ho B e ht hi rfl (by decide) v vs hs hown (.slice (some ⟨g, 0, none⟩) 1 c1) [.slice (some ⟨b, o, none⟩) p.length c] hx (.inr ⟨g, 0, c1, rfl, hgl, hsee⟩) (by intro y hy; simp at hy; subst hy; rfl) (by simp; omega) hB ?_
  intro v' w' h2 h3 h5
  exact h v' w' (Rowed.snoc ⟨vs, hown, hvl, hw, h2⟩ h3 h5 hb hne hc hp) h3 h5
/-- Where the row j lies. -/
theorem Rowed.at_ (h : Rowed f e B W v ps) (hp : 0 < ps.length) :
    ∃ g cap, v = .slice (some ⟨g, 0, none⟩) ps.length cap ∧ B ≤ g ∧ g < W.heap.size ∧ ∀ j p, ps[j]? = some p → ∃ b o c, W.cell? ⟨g, j, none⟩ = some (.slice (some ⟨b, o, none⟩) p.length c) ∧ p.length ≤ c ∧ b < W.heap.size ∧ b ≠ g ∧ Sees W b o (p.map f) := by
  obtain ⟨vs, ho, hl, hw⟩ := h
  obtain ⟨g, cap, e, hB, hg, hs⟩ := ho.form (by omega)
  have hob : v.ownBlock = some g := by rw [e]; rfl
  refine ⟨g, cap, by rw [e, hl], hB, hg, fun j p hq => ?_⟩
  have hj := (List.getElem?_eq_some_iff.1 hq).1
  have hv := List.getElem?_eq_getElem (show j < vs.length by omega)
  obtain ⟨b, o, c, e1, hc, hlt, hne, hs1⟩ := hw j _ _ hv hq
  refine ⟨b, o, c, ?_, hc, hlt, fun h => hne (by rw [hob, h]), hs1⟩
  have := hs j _ hv
  rwa [Nat.zero_add, e1] at this
end
theorem own_shape {W : World} {B : Nat} {e : TypeId} {v : Value} {l : List Value} (h : Own W B e v l) : ∃ A c, v = .slice A l.length c := by
  rcases h.2 with ⟨rfl, h0⟩ | ⟨g, cap, cur, rfl, _⟩
  · exact ⟨none, 0, by rw [h0]⟩
  · exact ⟨_, cap, rfl⟩

/-- A string as bytes. -/
theorem conv_new (l : List UInt8) (w : World) : ∃ cap W, (convert 9 22 (.string (strB l))).run Tryd.prog w = .ok (.slice (some ⟨w.heap.size, 0, none⟩) l.length cap) W ∧ Sees W w.heap.size 0 (l.map V8) ∧ w.heap.size < W.heap.size ∧ Below w.heap.size w W ∧ l.length ≤ cap := by
  have h := run_bytes_of_string (P := Tryd.prog) w 9 22 5 (strB l) Tryd.underlying9 Tryd.underlying22 Tryd.underlying5
  have hs : (strB l).size = l.length := by unfold strB; simp [ByteArray.size]
  rw [hs] at h
  refine ⟨_, _, h, ?_, by simp, (Below.refl _ _).drew.alloc (Nat.le_refl _) _, grownCap_ge w l.length 0 5⟩
  have hb : (w.drew.alloc (.cells (bytesRow (strB l) (grownCap w l.length 0 5)) 5 ((bytesRow (strB l) (grownCap w l.length 0 5)).size, (bytesRow (strB l) (grownCap w l.length 0 5)).size + 1))).heap[w.heap.size]? = some (.cells (bytesRow (strB l) (grownCap w l.length 0 5)) 5 ((bytesRow (strB l) (grownCap w l.length 0 5)).size, (bytesRow (strB l) (grownCap w l.length 0 5)).size + 1)) := heap_alloc_new w.drew _
  intro j v hv
  have hj := (List.getElem?_eq_some_iff.1 hv).1
  rw [List.length_map] at hj
  rw [Nat.zero_add, cell_of_row _ _ _ _ _ _ hb]
  unfold bytesRow
  rw [Array.getElem?_append_left (by simp [strB]; exact hj)]
  rw [Array.getElem?_map]
  rw [List.getElem?_map] at hv
  simp only [strB, List.getElem?_toArray]
  cases hl : l[j]? with
  | none => rw [hl] at hv; cases hv
  | some b => rw [hl] at hv; exact hv
end Go.Proofs.YtepbnimheedodaaDoor
