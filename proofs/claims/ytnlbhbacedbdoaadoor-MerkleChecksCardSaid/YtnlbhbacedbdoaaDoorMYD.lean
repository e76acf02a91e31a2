/-
  TOOLS for rows of fours of the call's own; THE WALK of the program's Way, where it refuses.
-/
import Derived.Test.YtnlbhbacedbdoaaDoorMYC
import Derived.Great.BuildSlice
namespace Go.Proofs.YtnlbhbacedbdoaaDoor
open Go.RowKit Go.Shelf Mk

theorem wayTo_all (key : Tg) (l : List Tg) (h p : Nat) : wayTo key (full l h) p h = way key l h p := rfl
theorem fourAt_div (row : List Tg) (q : Nat) : fourAt row q = (row.drop (4 * (q / 4))).take 4 := by
  rw [fourAt, show q - q % 4 = 4 * (q / 4) by omega]
theorem flat_get : ∀ (ws : List (List Tg)), (∀ f ∈ ws, f.length = 4) → ∀ (j : Nat) (f : List Tg), ws[j]? = some f → ∀ (i : Nat) (t : Tg), f[i]? = some t → ws.flatten[4 * j + i]? = some t
  | [], _, j, f, hj, _, _, _ => by simp at hj
  | g :: r, h4, 0, f, hj, i, t, ht => by
    simp only [List.getElem?_cons_zero, Option.some.injEq] at hj
    subst hj
    rw [List.flatten_cons, Nat.mul_zero, Nat.zero_add, List.getElem?_append_left (List.getElem?_eq_some_iff.1 ht).1]; exact ht
  | g :: r, h4, j + 1, f, hj, i, t, ht => by
    simp only [List.getElem?_cons_succ] at hj
    have hg := h4 g (by simp)
    rw [List.flatten_cons, List.getElem?_append_right (by omega), show 4 * (j + 1) + i - g.length = 4 * j + i by omega]
    exact flat_get r (fun f hf => h4 f (by simp [hf])) j f hj i t ht
theorem flat_32 (ws : List (List Tg)) (h : ∀ f ∈ ws, f.length = 4 ∧ ∀ t ∈ f, t.length = 32) : ∀ t ∈ ws.flatten, t.length = 32 := fun t ht => by
  obtain ⟨f, hf, ht⟩ := List.mem_flatten.1 ht
  exact (h f hf).2 t ht
theorem fours_own {W : World} {B : Nat} {v : Value} {ws : List (List Tg)} (h4 : ∀ f ∈ ws, f.length = 4 ∧ ∀ t ∈ f, t.length = 32) (h : W.ownsRow B 48 128 v ws.length (cells ws.flatten)) : Fours W v ws := by
  rcases h.2 with ⟨rfl, h0⟩ | ⟨g, cap, cur, rfl, _, hg, hc, _⟩
  · exact ⟨h4, none, 0, by rw [h0], fun hp => by omega⟩
  · refine ⟨h4, _, cap, rfl, fun _ => ⟨g, 0, rfl, (Array.getElem?_eq_some_iff.1 hg).1, fun j f hf i t ht m u hu => ?_⟩⟩
    have hfl := flat_get ws (fun f hf => (h4 f hf).1) j f hf i t ht
    have hlt := (List.getElem?_eq_some_iff.1 hfl).1
    have hp := cells_piece ws.flatten (flat_32 ws h4) (4 * j + i) 1 (by omega)
    have ht1 : (ws.flatten.drop (4 * j + i)).take 1 = [t] := by
      rw [List.drop_eq_getElem_cons hlt, List.take_succ_cons, List.take_zero]
      rw [List.getElem?_eq_getElem hlt] at hfl
      injection hfl with hfl
      rw [hfl]
    rw [ht1, show cells [t] = t.map V8 by simp [cells]] at hp
    have hm := (List.getElem?_eq_some_iff.1 hu).1
    have hcell : (cells ws.flatten)[32 * (4 * j + i) + m]? = some u := by
      rw [← hp, List.getElem?_take, if_pos hm, List.getElem?_drop] at hu
      exact hu
    have := World.ownsRow.cells h (g := g) rfl _ u hcell
    rw [add_off, Nat.zero_add] at this
    rw [show 0 + 128 * j + 32 * i + m = 32 * (4 * j + i) + m by omega]
    exact this

/-- One four, laid for an append. -/
theorem build4 {P : Program} {o : Oper} {a : Act} {w : World} {K : Act → World → Prop} {Q : Exit → Act → World → Prop} (t e : TypeId) (x : Operand) (ho : o.op = .buildSlice t 1 #[(0, x)]) (ks : List Value) (hk : ks.length = 128) {z : Array Value} (hx : a.eval x = .agg ks.toArray)
    (hu : P.underlying t = some (.slice e)) (hi : (P.info? e).map (fun i => (i.zero, i.size, i.bytes)) = some (some (.agg z), 128, 128)) (h : K (a.put o.dst (.slice (some ⟨w.heap.size, 0, none⟩) 1 1)) (w.alloc (.cells ks.toArray e))) : o.wp P a w K Q := by
  obtain ⟨i, hi, hz0, hz1, hz2⟩ := info_parts hi
  refine wp_buildSlice t e 1 #[(0, x)] ho ks.toArray i (.agg z) hu hi hz0 (by rw [hz1]; decide) (by rw [hz1]; decide) ?_ h
  have hv : (Value.agg ks.toArray).cells = ks.toArray := rfl
  have := Great.fill_whole (s := 128) (by decide) [.agg ks.toArray] ((Array.range (1 * i.size)).map ((Value.agg z).cells[· % (Value.agg z).cells.size]!)) (fun v hv => by simp at hv; subst hv; exact hk) (by rw [hz1]; simp)
  rw [hz1] at this ⊢
  have e1 : (#[(0, x)].map fun (x : Nat × Operand) => match x with | (i, x) => (i, a.eval x)).toList = ([Value.agg ks.toArray].zipIdx 0).map fun x => (x.2, x.1) := by simp [hx]
  rw [e1, this]
  simp [hv]
theorem app4 {P : Program} {o : Oper} {a : Act} {w : World} {K : Act → World → Prop} {Q : Exit → Act → World → Prop} (s x : Operand) (t : TypeId) (ho : o.op = .call { callee := .builtin .append, args := #[s, x], argTypes := #[t, t] })
    (B : Nat) (e : TypeId) {z : Array Value} (hz : z.size = 128) (hu : P.underlying t = some (.slice e)) (hi : (P.info? e).map (fun i => (i.zero, i.size, i.bytes)) = some (some (.agg z), 128, 128))
    (v : Value) (k : Nat) (xs : List Value) (hs : a.eval s = v) (hown : w.ownsRow B e 128 v k xs) (g : Nat) (ks : List Value) (hk : ks.length = 128) (h1 : ∀ y ∈ ks, y.oneCell' = true) (hx : a.eval x = .slice (some ⟨g, 0, none⟩) 1 1) (hr : Row w g e ks) (hl : k ≤ 1000) (hB : B ≤ w.heap.size)
    (h : ∀ v' w', w'.ownsRow B e 128 v' (k + 1) (xs ++ ks) → w.grownBy w' v.ownBlock → (v'.ownBlock = v.ownBlock ∨ v'.ownBlock = some w.heap.size) → K (a.put o.dst v') w') : o.wp P a w K Q := by
  obtain ⟨i, hi, hz0, hz1, hz2⟩ := info_parts hi
  obtain ⟨v', w', hrun, h2, h3, _, h5⟩ := run_append_own_at w B t o.type e i (.agg z) 128 128 hu hi hz0 hz1 hz2 hz (by decide) v k xs hown ⟨g, 0, none⟩ 1 1 ks (by omega) (fun j u hu => by rw [add_off, Nat.zero_add, hr.cell]; exact hu) h1 (by simp only [maxLen]; omega) (by omega) hB
  unfold Oper.wp execOp
  simp only [ho, resolve, invoke, builtin, Sem.run_bind, Sem.run_pure, Result.andThen_ok, List.map_toArray, List.map_cons, List.map_nil, hs, hx, hrun]
  exact h v' w' h2 h3 h5

set_option maxRecDepth 100000 in
set_option maxHeartbeats 400000 in
theorem wayBad_holds : WayBadC := by
  intro key l v x d w hk hl hd hT hA hX
  obtain ⟨_, B, cap2, rfl, _⟩ := hX
  obtain ⟨ln, hln⟩ : ∃ n, n = l.length := ⟨_, rfl⟩
  rw [← hln] at hl hd ⊢
  clear hT hA hk hln
  rcases Int.lt_or_le d 0 with h0 | h0
  · go_enter Tryd.func13, Tryd.ntmps13
    go_wp2
    refine bodyPost_ret (results_tmp2 rfl _ _ _) rfl ?_
    exact ⟨rfl, (Below.refl _ _).alloc (Nat.le_refl _) _⟩
  · have h1 : (ln : Int) ≤ d := by omega
    clear hd
    go_enter Tryd.func13, Tryd.ntmps13
    go_wp2
    refine bodyPost_ret (results_tmp2 rfl _ _ _) rfl ?_
    exact ⟨rfl, (Below.refl _ _).alloc (Nat.le_refl _) _⟩
end Go.Proofs.YtnlbhbacedbdoaaDoor
