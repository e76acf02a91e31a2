/-
  THE WALK of New (its region that draws its order by wip/mknew10.py).
-/
import Derived.Test.YthcphabfeapjbaaPY
namespace Go.Proofs.Ythcphabfeapjbaa
open Go.RowKit Ca

abbrev Own2 (w : World) (B : Nat) (v : Value) (n : Nat) (ys : List Value) : Prop := w.ownsRow B 58 2 v n ys
theorem infoSh : (Try.prog.info? 58).map (fun i => (i.zero, i.size, i.bytes)) = some (some (.agg #[.slice none 0 0, .nilFunc]), 2, 32) := by kernel_rfl
/-- append of one element of two cells, in a region that draws its order. -/
theorem step_app2 {w : World} {ops : Array Oper} {o : Oper} {a : Act} {K : Act → World → Prop} {Q : Exit → Act → World → Prop} {E : Prop} (hgd : o.guard = none) (s x : Operand)
    (ho : o.op = .call { callee := .builtin .append, args := #[s, x], argTypes := #[52, 52] })
    (B : Nat) (v : Value) (n : Nat) (ys : List Value) (hs : a.eval s = v) (hown : Own2 w B v n ys) (g : Nat) (zs : List Value) (hx : a.eval x = .slice (some ⟨g, 0, none⟩) 1 1) (hu : Row w g 58 zs)
    (hz : zs.length = 2) (h1 : ∀ y ∈ zs, y.oneCell' = true) (hl : n + 1 ≤ 100000) (hB : B ≤ w.heap.size)
    (h : ∀ v' w', Own2 w' B v' (n + 1) (ys ++ zs) → w.grownBy w' v.ownBlock → (v'.ownBlock = v.ownBlock ∨ v'.ownBlock = some w.heap.size) → K (a.put o.dst v') w') :
    if Region.wanted o (yielded ops a.tmps) = true then Oper.wp Try.prog o a w K Q else E := by
  rw [if_pos (by simp [Region.wanted, hgd])]
  obtain ⟨i, hi, hz0, hz1, hz2⟩ := info_parts infoSh
  obtain ⟨v', w', hr, h2, h3, _, h5⟩ := run_append_own_at (P := Try.prog) w B 52 o.type 58 i _ 2 32 Try.underlying52 hi hz0 hz1 hz2 rfl (by omega) v n ys hown ⟨g, 0, none⟩ 1 1 zs (by rw [hz]) (fun j u hj => by rw [add_off]; exact hu.here.cell hj) h1 (by simp only [maxLen]; omega) (by omega) hB
  unfold Oper.wp execOp
  simp only [ho, resolve, invoke, builtin, Sem.run_bind, Sem.run_pure, Result.andThen_ok, List.map_toArray, List.map_cons, List.map_nil, hs, hx, hr]
  exact h v' w' h2 h3 h5
theorem own2_lt {w : World} {B : Nat} {v : Value} {m : Nat} {ys : List Value} (h : Own2 w B v m ys) {k : Nat} (hk : v.ownBlock = some k) : B ≤ k ∧ k < w.heap.size := World.ownsRow.lt h k hk
theorem own2_shape {w : World} {B : Nat} {v : Value} {m : Nat} {ys : List Value} (h : Own2 w B v m ys) : ∃ A n c, v = .slice A n c := by
  rcases h.2 with ⟨rfl, _⟩ | ⟨g, cap, cur, rfl, _⟩ <;> exact ⟨_, _, _, rfl⟩
theorem own2_below {w w' : World} {B : Nat} {v : Value} {m : Nat} {ys : List Value} (h : Own2 w B v m ys) (hb : Below w.heap.size w w') : Own2 w' B v m ys :=
  World.ownsRow.kept h (row := none) ⟨hb.os, hb.tape, hb.output, hb.size, fun k hk _ => hb.block k hk⟩ (by cases v.ownBlock <;> simp)
theorem Here.same {w w' : World} {b o : Nat} {cs : List Value} (h : Here w b o cs) (hb : w'.heap[b]? = w.heap[b]?) : Here w' b o cs := by
  refine ⟨fun j v hv => ?_, fun j hj => ?_⟩
  · rw [World.cell?_of_block (w := w) hb]; exact h.1 j v hv
  · refine ⟨?_, ?_⟩
    · rw [World.cell?_of_block (w := w) hb]; exact (h.2 j hj).1
    · have := (h.2 j hj).2
      simp only [World.frozen?, hb] at this ⊢
      exact this

/-- Cells of the shards' row. -/
def shCells (room : Nat) (ps rs : Nat → Nat) (m : Nat) : List Value := (List.range m).flatMap fun t => [.slice (some ⟨ps t, 0, none⟩) room room, handV (rs t)]
theorem shCells_length (room : Nat) (ps rs : Nat → Nat) (m : Nat) : (shCells room ps rs m).length = m * 2 := by
  unfold shCells
  induction m with
  | zero => rfl
  | succ m ih => rw [List.range_succ, List.flatMap_append, List.length_append, ih]; simp; omega
theorem flat_cong (f g : Nat → List Value) : ∀ l : List Nat, (∀ t ∈ l, f t = g t) → l.flatMap f = l.flatMap g
  | [], _ => rfl
  | x :: l, h => by rw [List.flatMap_cons, List.flatMap_cons, h x List.mem_cons_self, flat_cong f g l fun t ht => h t (List.mem_cons_of_mem _ ht)]
theorem shCells_succ (room : Nat) (ps rs : Nat → Nat) (m p r : Nat) : shCells room (fun t => if t = m then p else ps t) (fun t => if t = m then r else rs t) (m + 1) = shCells room ps rs m ++ [.slice (some ⟨p, 0, none⟩) room room, handV r] := by
  unfold shCells
  rw [List.range_succ, List.flatMap_append, flat_cong (fun t => [.slice (some ⟨(if t = m then p else ps t), 0, none⟩) room room, handV (if t = m then r else rs t)]) (fun t => [.slice (some ⟨ps t, 0, none⟩) room room, handV (rs t)]) (List.range m) (fun t ht => by
    have := List.mem_range.1 ht
    show [Value.slice (some ⟨(if t = m then p else ps t), 0, none⟩) room room, handV (if t = m then r else rs t)] = _
    rw [if_neg (by omega), if_neg (by omega)])]
  simp
theorem shCells_at (room : Nat) (ps rs : Nat → Nat) (m : Nat) : ∀ t, t < m → ((shCells room ps rs m).drop (t * 2)).take 2 = [.slice (some ⟨ps t, 0, none⟩) room room, handV (rs t)] := by
  intro t ht
  induction m with
  | zero => omega
  | succ m ih =>
    have e : shCells room ps rs (m + 1) = shCells room ps rs m ++ [.slice (some ⟨ps m, 0, none⟩) room room, handV (rs m)] := by
      unfold shCells
      rw [List.range_succ, List.flatMap_append]; simp
    have hl := shCells_length room ps rs m
    rw [e]
    by_cases h : t < m
    · rw [List.drop_append_of_le_length (by omega), List.take_append_of_le_length (by rw [List.length_drop]; omega)]
      exact ih h
    · obtain rfl : t = m := by omega
      rw [← hl, List.drop_left]
      rfl

/-- So many shards are made. -/
structure LieN (w : World) (ro : Nat → Nat) (D B room m : Nat) (v : Value) (ps rs : Nat → Nat) : Prop where
  row : Row w D 54 [v, .int .i64 0, .int .i64 0]
  own : Own2 w B v m (shCells room ps rs m)
  plc : ∀ t, t < m → ∀ j, j < room → Here w (ps t) (j * 5) ZE
  rng : ∀ t, t < m → Here w (rs t) 0 [.int .i64 0, .int .i64 (room : Int)]
  rp : ∀ t, t < m → ro (ps t) = 4 + 2 * t
  rr : ∀ t, t < m → ro (rs t) = 5 + 2 * t
  rb : ∀ k, ro k ≠ 0 → B ≤ k ∧ k < w.heap.size ∧ some k ≠ v.ownBlock
  DB : D < B
  hB : B ≤ w.heap.size
theorem LieN.below {w w' : World} {ro : Nat → Nat} {D B room m : Nat} {v : Value} {ps rs : Nat → Nat} (h : LieN w ro D B room m v ps rs) (hb : Below w.heap.size w w') : LieN w' ro D B room m v ps rs :=
  ⟨h.row.below hb h.row.lt, own2_below h.own hb, fun t ht j hj => (h.plc t ht j hj).same (hb.block _ (h.rb _ (by rw [h.rp t ht]; omega)).2.1), fun t ht => (h.rng t ht).same (hb.block _ (h.rb _ (by rw [h.rr t ht]; omega)).2.1), h.rp, h.rr,
    fun k hk => ⟨(h.rb k hk).1, Nat.lt_of_lt_of_le (h.rb k hk).2.1 hb.size, (h.rb k hk).2.2⟩, h.DB, Nat.le_trans h.hB hb.size⟩
theorem LieN.app {w w1 w3 : World} {ro : Nat → Nat} {D B room m : Nat} {v v' : Value} {ps rs : Nat → Nat} {p r : Nat} {o : Obj} (h : LieN w ro D B room m v ps rs)
    (hs : w.heap.size ≤ p ∧ p < w1.heap.size ∧ w.heap.size ≤ r ∧ r < w1.heap.size ∧ p ≠ r ∧ (∀ j, j < room → Here w1 p (j * 5) ZE) ∧ Here w1 r 0 [.int .i64 0, .int .i64 (room : Int)] ∧ Below w.heap.size w w1)
    (ho : Own2 w3 B v' (m + 1) (shCells room ps rs m ++ [.slice (some ⟨p, 0, none⟩) room room, handV r])) (hg : (w1.alloc o).grownBy w3 v.ownBlock) (hv : v'.ownBlock = v.ownBlock ∨ v'.ownBlock = some (w1.alloc o).heap.size) :
    LieN (w3.setCell ⟨D, 0, none⟩ v') (fun k => if k = p then 4 + 2 * m else if k = r then 5 + 2 * m else ro k) D B room (m + 1) v' (fun t => if t = m then p else ps t) (fun t => if t = m then r else rs t)
    ∧ w3.cell? ⟨D, 0, none⟩ = some v ∧ w3.frozen? ⟨D, 0, none⟩ = false := by
  obtain ⟨h1, h2, h3, h4, h5, h6, h7, hb⟩ := hs
  have hBw := h.hB
  have hDB := h.DB
  have hne : ∀ k, k < B → some k ≠ v.ownBlock := fun k hk e => by have := (own2_lt h.own e.symm).1; omega
  have hnew : ∀ k, w.heap.size ≤ k → some k ≠ v.ownBlock := fun k hk e => by have := (own2_lt h.own e.symm).2; omega
  have hsz : w3.heap.size = (w3.setCell ⟨D, 0, none⟩ v').heap.size := by simp
  have hs3 : w1.heap.size + 1 ≤ w3.heap.size := by have := hg.size; simp at this; exact this
  have blk : ∀ k, k < w1.heap.size → B ≤ k → some k ≠ v.ownBlock → (w3.setCell ⟨D, 0, none⟩ v').heap[k]? = w1.heap[k]? := fun k hk hB hn => by
    rw [heap_setCell_other w3 ⟨D, 0, none⟩ k v' (show k ≠ D by omega), hg.block k (by simp; omega) hn]
    exact Below.heap_alloc w1 o k hk
  have blkw : ∀ k, ro k ≠ 0 → (w3.setCell ⟨D, 0, none⟩ v').heap[k]? = w.heap[k]? := fun k hk => by
    obtain ⟨a1, a2, a3⟩ := h.rb k hk
    rw [blk k (Nat.lt_of_lt_of_le a2 hb.size) a1 a3]
    exact hb.block k a2
  have hrow := (((h.row.below hb h.row.lt).alloc o).grown hg (hne _ h.DB))
  have hro : ∀ k, ro k ≠ 0 → k ≠ p ∧ k ≠ r := fun k hk => by have := (h.rb k hk).2.1; omega
  refine ⟨⟨hrow.set 0 v', ?_, fun t ht j hj => ?_, fun t ht => ?_, fun t ht => ?_, fun t ht => ?_, fun k hk => ?_, h.DB, by rw [← hsz]; have := hb.size; omega⟩, hrow.here.head (j := 0) rfl, hrow.free 0⟩
  · rw [shCells_succ]
    exact World.ownsRow.kept ho (row := some D) (by_setCell (World.grownBy.refl w3 _) (.inl rfl) _) (.inr fun e' => by have := (own2_lt ho e').1; omega)
  · by_cases e : t = m
    · show Here _ (if t = m then p else ps t) _ _
      rw [if_pos e]
      exact (h6 j hj).same (blk p h2 (by omega) (hnew p h1))
    · show Here _ (if t = m then p else ps t) _ _
      rw [if_neg e]
      exact (h.plc t (by omega) j hj).same (blkw _ (by rw [h.rp t (by omega)]; omega))
  · by_cases e : t = m
    · show Here _ (if t = m then r else rs t) _ _
      rw [if_pos e]
      exact h7.same (blk r h4 (by omega) (hnew r h3))
    · show Here _ (if t = m then r else rs t) _ _
      rw [if_neg e]
      exact (h.rng t (by omega)).same (blkw _ (by rw [h.rr t (by omega)]; omega))
  · by_cases e : t = m
    · subst e; simp
    · have h9 := h.rp t (by omega)
      have := hro (ps t) (by rw [h9]; omega)
      simp only [if_neg e, if_neg this.1, if_neg this.2, h9]
  · by_cases e : t = m
    · subst e
      have h9 : ¬ r = p := fun x => h5 x.symm
      simp [h9]
    · have h9 := h.rr t (by omega)
      have := hro (rs t) (by rw [h9]; omega)
      simp only [if_neg e, if_neg this.1, if_neg this.2, h9]
  · have hs1 := hb.size
    rw [← hsz]
    by_cases e1 : k = p
    · rw [e1]
      refine ⟨by omega, by omega, fun e => ?_⟩
      rcases hv with h9 | h9
      · exact hnew p h1 (e.trans h9)
      · rw [h9] at e; injection e with e; simp at e; omega
    · by_cases e2 : k = r
      · rw [e2]
        refine ⟨by omega, by omega, fun e => ?_⟩
        rcases hv with h9 | h9
        · exact hnew r h3 (e.trans h9)
        · rw [h9] at e; injection e with e; simp at e; omega
      · simp only [if_neg e1, if_neg e2] at hk
        obtain ⟨a1, a2, a3⟩ := h.rb k hk
        refine ⟨a1, by omega, fun e => ?_⟩
        rcases hv with h9 | h9
        · exact a3 (e.trans h9)
        · rw [h9] at e; injection e with e; simp at e; omega
theorem new_getD (sh room k : Nat) : (new sh room).L.getD k Ent.free = Ent.free := by
  show (List.replicate (sh * room) Ent.free).getD k Ent.free = _
  rw [List.getD_eq_getElem?_getD, List.getElem?_replicate]
  split <;> rfl
theorem LieN.done {w : World} {ro : Nat → Nat} {D B sh room : Nat} {v : Value} {ps rs : Nat → Nat} (h : LieN w ro D B room sh v ps rs) (hs : 1 ≤ sh ∧ sh ≤ 64) (hr : 1 ≤ room ∧ room ≤ 64) :
    ∃ ro2 a ca, CacL w ro2 D a ca sh room 0 ps rs (fun _ => .slice none 0 0) (new sh room) ∧ ∀ k, ro2 k ≠ 0 → k = D ∨ B ≤ k := by
  rcases h.own.2 with ⟨_, h0⟩ | ⟨g, cap, cur, rfl, hb, hg, _, _, _, ht⟩
  · omega
  have hgl : g < w.heap.size := (Array.getElem?_eq_some_iff.1 hg).1
  have hDB := h.DB
  have hBw := h.hB
  have hH : Here w g 0 (shCells room ps rs sh) := by
    have hrw : Row w g 58 cur.toList := by rw [Row, Array.toArray_toList]; exact hg
    have := hrw.here.part 0 (sh * 2)
    rw [Nat.zero_add, List.drop_zero, ht] at this
    exact this
  have hsm : ∀ k, ro k ≠ 0 → k ≠ D ∧ k ≠ g := fun k hk => by
    obtain ⟨a1, a2, a3⟩ := h.rb k hk
    exact ⟨by omega, fun e => a3 (by rw [e]; rfl)⟩
  have hgD : g ≠ D := by omega
  refine ⟨fun k => if k = D then 1 else if k = g then 2 else ro k, g, cap, ⟨h.row.here, fun t ht => ?_, fun t ht j hj => ?_, fun t ht => ?_, fun k => ?_, Fit.new sh room hr.1, ⟨Nat.le_refl _, Nat.le_refl _⟩, fun k => ?_, fun k => ?_, hs, hr, if_pos rfl, by rw [if_neg hgD, if_pos rfl], fun t ht => ?_, fun t ht => ?_, fun k hk => ?_⟩, fun k hk => ?_⟩
  · have := hH.part (t * 2) 2
    rw [Nat.zero_add, shCells_at room ps rs sh t ht] at this
    exact this
  · rw [new_getD]
    exact h.plc t ht j hj
  · have h9 : (new sh room).hands.getD t 0 = 0 := by
      show (List.replicate sh 0).getD t 0 = 0
      rw [List.getD_eq_getElem?_getD, List.getElem?_replicate]
      split <;> rfl
    rw [h9]
    exact h.rng t ht
  · rw [new_getD]
    exact Cont.none _ _
  · rw [new_getD]
    exact Nat.le_refl 0
  · rw [new_getD]
    exact ⟨by decide, by decide, by decide⟩
  · have := hsm (ps t) (by rw [h.rp t ht]; omega)
    rw [if_neg this.1, if_neg this.2, h.rp t ht]
  · have := hsm (rs t) (by rw [h.rr t ht]; omega)
    rw [if_neg this.1, if_neg this.2, h.rr t ht]
  · by_cases e1 : k = D
    · omega
    · by_cases e2 : k = g
      · omega
      · simp only [if_neg e1, if_neg e2] at hk
        exact (h.rb k hk).2.1
  · by_cases e1 : k = D
    · exact .inl e1
    · by_cases e2 : k = g
      · exact .inr (by omega)
      · simp only [if_neg e1, if_neg e2] at hk
        exact .inr (h.rb k hk).1

theorem CNew_bad (x y : Int) (w : World) (hx : In64 x) (hy : In64 y) (h : x < 1 ∨ 64 < x ∨ y < 1 ∨ 64 < y) : Calls Try.prog 6 #[.int .i64 x, .int .i64 y] w fun e w' => e = .returned (.tuple #[.pointer none, .int .i64 1]) ∧ Below w.heap.size w w' := by
  obtain ⟨x1, x2⟩ := hx
  obtain ⟨y1, y2⟩ := hy
  by_cases h1 : x < 1
  · go_enter Try.func6, Try.ntmps6
    go_wp2
    go_ret2
    exact ⟨rfl, Below.refl _ _⟩
  by_cases h2 : 64 < x
  · go_enter Try.func6, Try.ntmps6
    go_wp2
    go_ret2
    exact ⟨rfl, Below.refl _ _⟩
  by_cases h3 : y < 1
  · go_enter Try.func6, Try.ntmps6
    go_wp2
    go_ret2
    exact ⟨rfl, Below.refl _ _⟩
  have h4 : 64 < y := by omega
  go_enter Try.func6, Try.ntmps6
  go_wp2
  go_ret2
  exact ⟨rfl, Below.refl _ _⟩

set_option maxRecDepth 100000 in
set_option maxHeartbeats 2000000 in
theorem CNew_ok (sh room : Nat) (w0 : World) (hs : 1 ≤ sh ∧ sh ≤ 64) (hr : 1 ≤ room ∧ room ≤ 64) : Calls Try.prog 6 #[.int .i64 (sh : Int), .int .i64 (room : Int)] w0 fun e w' =>
    ∃ D F, e = .returned (.tuple #[.pointer (some ⟨D, 0, none⟩), .int .i64 0]) ∧ Lies w' F D sh room 0 (new sh room) ∧ (∀ k, F k → w0.heap.size ≤ k) ∧ Below w0.heap.size w0 w' := by
  have Hs := Lib.hid hs
  have Hr := Lib.hid hr
  obtain ⟨hs1, hs2⟩ := hs
  obtain ⟨hr1, hr2⟩ := hr
  go_enter Try.func6, Try.ntmps6
  go_wp2
  obtain ⟨D, hD⟩ : ∃ D, D = w0.heap.size := ⟨_, rfl⟩
  obtain ⟨B, hB⟩ : ∃ B, B = w0.heap.size + 1 := ⟨_, rfl⟩
  have HL0 : Hid (LieN (w0.alloc (.cells #[.slice none 0 0, .int .i64 0, .int .i64 0] 54)) (fun _ => 0) D B room 0 (.slice none 0 0) (fun _ => 0) (fun _ => 0)) :=
    ⟨Row.newAt 54 [.slice none 0 0, .int .i64 0, .int .i64 0] hD.symm, World.ownsRow_nil _ _ _ _, fun t ht => by omega, fun t ht => by omega, fun t ht => by omega, fun t ht => by omega, fun k hk => absurd rfl hk, by omega, by simp; omega⟩
  have HB0 : Hid (Below w0.heap.size w0 (w0.alloc (.cells #[.slice none 0 0, .int .i64 0, .int .i64 0] 54))) := (Below.refl _ _).alloc (Nat.le_refl _) _
  have HLO : Hid (w0.heap.size ≤ D ∧ w0.heap.size ≤ B) := by show _ ∧ _; omega
  rw [← hD]
  clear hD hB
  go_loopw [24] (fun i wr => ∃ (m : Nat) (v : Value) (ro ps rs : Nat → Nat), m ≤ sh ∧ i = .int .i64 (m : Int) ∧ Hid (LieN wr ro D B room m v ps rs) ∧ Hid (Below w0.heap.size w0 wr)) (fun i _ => sh - (intOf i).toNat)
  case atStart => exact ⟨0, _, _, _, _, by omega, rfl, HL0, HB0⟩
  case round =>
    obtain ⟨m, v, ro, ps, rs, hm, rfl, HL, HB⟩ := hrel
    clear HL0 HB0
    by_cases hlt : m < sh
    · have HKeep : Hid (∀ X, Below wr.heap.size wr X → True) := fun _ _ => trivial
      go_wp2_with fail
      have hC : Below wr.heap.size wr wr.drew := below_drewN (Below.refl _ _) 1
      refine wp_region_held_drew (S := (fun _ => True)) (by kernel_rfl) (HKeep.out _ hC) (fun hHeld => ?_)
      generalize wr.drew = wrd at *
      have HLd := Lib.hid (HL.out.below hC)
      refine wpAnyH_take (i := 0) (oi := ⟨some 26, _, _, _, _, _⟩) (v := ?_) rfl (by kernel_rfl) (by kernel_rfl) (by kernel_rfl) (fun _ _ _ h => h) (Or.inl ⟨by rfl, ?_⟩) hHeld ?_
      rotate_left
      · intro w hSw
        go_simp
        with_reducible rfl
      try go_frame
      refine wpAnyH_take (i := 1) (oi := ⟨some 27, _, _, _, _, _⟩) (v := ?_) rfl (by kernel_rfl) (by kernel_rfl) (by kernel_rfl) (fun _ _ _ h => h) (Or.inl ⟨by rfl, ?_⟩) hHeld ?_
      rotate_left
      · intro w hSw
        go_simp
        with_reducible rfl
      try go_frame
      refine wpAnyH_take (i := 2) (oi := ⟨some 28, _, _, _, _, _⟩) (v := ?_) rfl (by kernel_rfl) (by kernel_rfl) (by kernel_rfl) (fun _ _ _ h => h) (Or.inl ⟨by rfl, ?_⟩) hHeld ?_
      rotate_left
      · intro w hSw
        go_simp
        with_reducible rfl
      try go_frame
      refine wpAnyH_take (i := 3) (oi := ⟨some 29, _, _, _, _, _⟩) (v := ?_) rfl (by kernel_rfl) (by kernel_rfl) (by kernel_rfl) (fun _ _ _ h => h) (Or.inl ⟨by rfl, ?_⟩) hHeld ?_
      rotate_left
      · intro w hSw
        go_simp
        with_reducible rfl
      try go_frame
      refine wpAnyH_take (i := 5) (oi := ⟨some 31, _, _, _, _, _⟩) (v := ?_) rfl (by kernel_rfl) (by kernel_rfl) (by kernel_rfl) (fun _ _ _ h => h) (Or.inl ⟨by rfl, ?_⟩) hHeld ?_
      rotate_left
      · intro w hSw
        go_simp
        with_reducible rfl
      try go_frame
      refine wpAnyH_ready (rs := [4, 6]) (by kernel_rfl) (by simp) ?_
      refine AllReadyH.cons (o := ⟨some 30, _, _, _, _, _⟩) rfl (fun K hK => ?_) ?_
      · skip
        have cL : wrd.cell? ⟨D, 0, none⟩ = some v := HLd.out.row.here.head (j := 0) rfl
        go_simp
        refine hK.out _ _ trivial (fun hHeld => ?_)
        clear hK K
        try go_frame
        clear cL
        refine wpAnyH_ready (rs := [6]) (by kernel_rfl) (by simp) ?_
        refine AllReadyH.cons (o := ⟨some 32, _, _, _, _, _⟩) rfl (fun K hK => ?_) AllReadyH.nil
        go_simp
        refine (CnewShard_any room hr2 wrd).mono ?_
        rintro e9 w1 ⟨p, r, rfl, HS1⟩
        refine hK.out _ _ trivial (fun hHeld => ?_)
        clear hK K
        try go_frame
        refine wpAnyH_ready (rs := [7]) (by kernel_rfl) (by simp) ?_
        refine AllReadyH.cons (o := ⟨some 33, _, _, _, _, _⟩) rfl (fun K hK => ?_) AllReadyH.nil
        go_simp
        refine hK.out _ _ trivial (fun hHeld => ?_)
        clear hK K
        try go_frame
        refine wpAnyH_ready (rs := [8]) (by kernel_rfl) (by simp) ?_
        refine AllReadyH.cons (o := ⟨some 34, _, _, _, _, _⟩) rfl (fun K hK => ?_) AllReadyH.nil
        refine step_app2 rfl (.tmp 30) (.tmp 33) rfl B v m _ rfl (World.ownsRow.alloc (HLd.out.below HS1.out.2.2.2.2.2.2.2).own _) w1.heap.size [.slice (some ⟨p, 0, none⟩) room room, handV r] rfl (Row.new w1 58 [.slice (some ⟨p, 0, none⟩) room room, handV r]) rfl (by intro y hy; simp only [List.mem_cons, List.not_mem_nil, or_false] at hy; rcases hy with rfl | rfl <;> rfl) (by omega) (by have := (HLd.out.below HS1.out.2.2.2.2.2.2.2).hB; simp; omega) ?_
        intro v' w3 hO hg hv
        obtain ⟨A', n', c', rfl⟩ := own2_shape hO
        obtain ⟨hL2, cD, fD⟩ := HLd.out.app HS1.out hO hg hv
        have HL2 := Lib.hid hL2
        have h1 := (HB.out.trans (hC.mono HB.out.size))
        have h2 := h1.trans ((HS1.out.2.2.2.2.2.2.2).mono h1.size)
        have h3 := h2.alloc h2.size (.cells #[.slice (some ⟨p, 0, none⟩) room room, handV r] 58)
        have HB2 : Hid (Below w0.heap.size w0 w3) := h3.trans ⟨hg.os, hg.tape, hg.output, hg.size, fun k hk => hg.block k (Nat.lt_of_lt_of_le hk h3.size) (fun e => by have := (own2_lt HLd.out.own e.symm).1; have := HLO.out.2; omega)⟩
        clear h1 h2 h3
        clear hO hg hv hL2
        refine hK.out _ _ trivial (fun hHeld => ?_)
        clear hK K
        try go_frame
        refine wpAnyH_take (i := 9) (oi := ⟨some 35, _, _, _, _, _⟩) (v := ?_) rfl (by kernel_rfl) (by kernel_rfl) (by kernel_rfl) (fun _ _ _ h => h) (Or.inl ⟨by rfl, ?_⟩) hHeld ?_
        rotate_left
        · intro w hSw
          go_simp
          with_reducible rfl
        try go_frame
        refine wpAnyH_take (i := 10) (oi := ⟨some 36, _, _, _, _, _⟩) (v := ?_) rfl (by kernel_rfl) (by kernel_rfl) (by kernel_rfl) (fun _ _ _ h => h) (Or.inl ⟨by rfl, ?_⟩) hHeld ?_
        rotate_left
        · intro w hSw
          go_simp
          with_reducible rfl
        try go_frame
        refine wpAnyH_ready (rs := [11]) (by kernel_rfl) (by simp) ?_
        refine AllReadyH.cons (o := ⟨none, _, _, _, _, _⟩) rfl (fun K hK => ?_) AllReadyH.nil
        go_simp
        refine hK.out _ _ trivial (fun hHeld => ?_)
        clear hK K
        try go_frame
        refine wpAnyH_done (by kernel_rfl) ?_ _
        clear hHeld hC HKeep cD fD HL
        go_wp2
        exact ⟨⟨m + 1, _, _, _, _, by omega, by go_num, HL2, HB2.out.setCell HLO.out.1 _⟩, by rw [show intOf (.int .i64 ((m : Int) + 1)) = (m : Int) + 1 from rfl, show intOf (.int .i64 (m : Int)) = (m : Int) from rfl]; omega⟩
      refine AllReadyH.cons (o := ⟨some 32, _, _, _, _, _⟩) rfl (fun K hK => ?_) ?_
      · skip
        go_simp
        refine (CnewShard_any room hr2 wrd).mono ?_
        rintro e9 w1 ⟨p, r, rfl, HS1⟩
        refine hK.out _ _ trivial (fun hHeld => ?_)
        clear hK K
        try go_frame
        refine wpAnyH_ready (rs := [4, 7]) (by kernel_rfl) (by simp) ?_
        refine AllReadyH.cons (o := ⟨some 30, _, _, _, _, _⟩) rfl (fun K hK => ?_) ?_
        · skip
          have cL : w1.cell? ⟨D, 0, none⟩ = some v := (HLd.out.below HS1.out.2.2.2.2.2.2.2).row.here.head (j := 0) rfl
          go_simp
          refine hK.out _ _ trivial (fun hHeld => ?_)
          clear hK K
          try go_frame
          clear cL
          refine wpAnyH_ready (rs := [7]) (by kernel_rfl) (by simp) ?_
          refine AllReadyH.cons (o := ⟨some 33, _, _, _, _, _⟩) rfl (fun K hK => ?_) AllReadyH.nil
          go_simp
          refine hK.out _ _ trivial (fun hHeld => ?_)
          clear hK K
          try go_frame
          refine wpAnyH_ready (rs := [8]) (by kernel_rfl) (by simp) ?_
          refine AllReadyH.cons (o := ⟨some 34, _, _, _, _, _⟩) rfl (fun K hK => ?_) AllReadyH.nil
          refine step_app2 rfl (.tmp 30) (.tmp 33) rfl B v m _ rfl (World.ownsRow.alloc (HLd.out.below HS1.out.2.2.2.2.2.2.2).own _) w1.heap.size [.slice (some ⟨p, 0, none⟩) room room, handV r] rfl (Row.new w1 58 [.slice (some ⟨p, 0, none⟩) room room, handV r]) rfl (by intro y hy; simp only [List.mem_cons, List.not_mem_nil, or_false] at hy; rcases hy with rfl | rfl <;> rfl) (by omega) (by have := (HLd.out.below HS1.out.2.2.2.2.2.2.2).hB; simp; omega) ?_
          intro v' w3 hO hg hv
          obtain ⟨A', n', c', rfl⟩ := own2_shape hO
          obtain ⟨hL2, cD, fD⟩ := HLd.out.app HS1.out hO hg hv
          have HL2 := Lib.hid hL2
          have h1 := (HB.out.trans (hC.mono HB.out.size))
          have h2 := h1.trans ((HS1.out.2.2.2.2.2.2.2).mono h1.size)
          have h3 := h2.alloc h2.size (.cells #[.slice (some ⟨p, 0, none⟩) room room, handV r] 58)
          have HB2 : Hid (Below w0.heap.size w0 w3) := h3.trans ⟨hg.os, hg.tape, hg.output, hg.size, fun k hk => hg.block k (Nat.lt_of_lt_of_le hk h3.size) (fun e => by have := (own2_lt HLd.out.own e.symm).1; have := HLO.out.2; omega)⟩
          clear h1 h2 h3
          clear hO hg hv hL2
          refine hK.out _ _ trivial (fun hHeld => ?_)
          clear hK K
          try go_frame
          refine wpAnyH_take (i := 9) (oi := ⟨some 35, _, _, _, _, _⟩) (v := ?_) rfl (by kernel_rfl) (by kernel_rfl) (by kernel_rfl) (fun _ _ _ h => h) (Or.inl ⟨by rfl, ?_⟩) hHeld ?_
          rotate_left
          · intro w hSw
            go_simp
            with_reducible rfl
          try go_frame
          refine wpAnyH_take (i := 10) (oi := ⟨some 36, _, _, _, _, _⟩) (v := ?_) rfl (by kernel_rfl) (by kernel_rfl) (by kernel_rfl) (fun _ _ _ h => h) (Or.inl ⟨by rfl, ?_⟩) hHeld ?_
          rotate_left
          · intro w hSw
            go_simp
            with_reducible rfl
          try go_frame
          refine wpAnyH_ready (rs := [11]) (by kernel_rfl) (by simp) ?_
          refine AllReadyH.cons (o := ⟨none, _, _, _, _, _⟩) rfl (fun K hK => ?_) AllReadyH.nil
          go_simp
          refine hK.out _ _ trivial (fun hHeld => ?_)
          clear hK K
          try go_frame
          refine wpAnyH_done (by kernel_rfl) ?_ _
          clear hHeld hC HKeep cD fD HL
          go_wp2
          exact ⟨⟨m + 1, _, _, _, _, by omega, by go_num, HL2, HB2.out.setCell HLO.out.1 _⟩, by rw [show intOf (.int .i64 ((m : Int) + 1)) = (m : Int) + 1 from rfl, show intOf (.int .i64 (m : Int)) = (m : Int) from rfl]; omega⟩
        refine AllReadyH.cons (o := ⟨some 33, _, _, _, _, _⟩) rfl (fun K hK => ?_) ?_
        · skip
          go_simp
          refine hK.out _ _ trivial (fun hHeld => ?_)
          clear hK K
          try go_frame
          refine wpAnyH_ready (rs := [4]) (by kernel_rfl) (by simp) ?_
          refine AllReadyH.cons (o := ⟨some 30, _, _, _, _, _⟩) rfl (fun K hK => ?_) AllReadyH.nil
          have cL : (w1.alloc (.cells #[.slice (some ⟨p, 0, none⟩) room room, handV r] 58)).cell? ⟨D, 0, none⟩ = some v := ((HLd.out.below HS1.out.2.2.2.2.2.2.2).row.alloc _).here.head (j := 0) rfl
          go_simp
          refine hK.out _ _ trivial (fun hHeld => ?_)
          clear hK K
          try go_frame
          clear cL
          refine wpAnyH_ready (rs := [8]) (by kernel_rfl) (by simp) ?_
          refine AllReadyH.cons (o := ⟨some 34, _, _, _, _, _⟩) rfl (fun K hK => ?_) AllReadyH.nil
          refine step_app2 rfl (.tmp 30) (.tmp 33) rfl B v m _ rfl (World.ownsRow.alloc (HLd.out.below HS1.out.2.2.2.2.2.2.2).own _) w1.heap.size [.slice (some ⟨p, 0, none⟩) room room, handV r] rfl (Row.new w1 58 [.slice (some ⟨p, 0, none⟩) room room, handV r]) rfl (by intro y hy; simp only [List.mem_cons, List.not_mem_nil, or_false] at hy; rcases hy with rfl | rfl <;> rfl) (by omega) (by have := (HLd.out.below HS1.out.2.2.2.2.2.2.2).hB; simp; omega) ?_
          intro v' w3 hO hg hv
          obtain ⟨A', n', c', rfl⟩ := own2_shape hO
          obtain ⟨hL2, cD, fD⟩ := HLd.out.app HS1.out hO hg hv
          have HL2 := Lib.hid hL2
          have h1 := (HB.out.trans (hC.mono HB.out.size))
          have h2 := h1.trans ((HS1.out.2.2.2.2.2.2.2).mono h1.size)
          have h3 := h2.alloc h2.size (.cells #[.slice (some ⟨p, 0, none⟩) room room, handV r] 58)
          have HB2 : Hid (Below w0.heap.size w0 w3) := h3.trans ⟨hg.os, hg.tape, hg.output, hg.size, fun k hk => hg.block k (Nat.lt_of_lt_of_le hk h3.size) (fun e => by have := (own2_lt HLd.out.own e.symm).1; have := HLO.out.2; omega)⟩
          clear h1 h2 h3
          clear hO hg hv hL2
          refine hK.out _ _ trivial (fun hHeld => ?_)
          clear hK K
          try go_frame
          refine wpAnyH_take (i := 9) (oi := ⟨some 35, _, _, _, _, _⟩) (v := ?_) rfl (by kernel_rfl) (by kernel_rfl) (by kernel_rfl) (fun _ _ _ h => h) (Or.inl ⟨by rfl, ?_⟩) hHeld ?_
          rotate_left
          · intro w hSw
            go_simp
            with_reducible rfl
          try go_frame
          refine wpAnyH_take (i := 10) (oi := ⟨some 36, _, _, _, _, _⟩) (v := ?_) rfl (by kernel_rfl) (by kernel_rfl) (by kernel_rfl) (fun _ _ _ h => h) (Or.inl ⟨by rfl, ?_⟩) hHeld ?_
          rotate_left
          · intro w hSw
            go_simp
            with_reducible rfl
          try go_frame
          refine wpAnyH_ready (rs := [11]) (by kernel_rfl) (by simp) ?_
          refine AllReadyH.cons (o := ⟨none, _, _, _, _, _⟩) rfl (fun K hK => ?_) AllReadyH.nil
          go_simp
          refine hK.out _ _ trivial (fun hHeld => ?_)
          clear hK K
          try go_frame
          refine wpAnyH_done (by kernel_rfl) ?_ _
          clear hHeld hC HKeep cD fD HL
          go_wp2
          exact ⟨⟨m + 1, _, _, _, _, by omega, by go_num, HL2, HB2.out.setCell HLO.out.1 _⟩, by rw [show intOf (.int .i64 ((m : Int) + 1)) = (m : Int) + 1 from rfl, show intOf (.int .i64 (m : Int)) = (m : Int) from rfl]; omega⟩
        exact AllReadyH.nil
      exact AllReadyH.nil
    · obtain rfl : m = sh := by omega
      go_wp2
      go_ret2
      obtain ⟨ro2, a, ca, hC, hk⟩ := HL.out.done Hs.out Hr.out
      exact ⟨D, fun k => ro2 k ≠ 0, rfl, ⟨ro2, a, ca, ps, rs, _, fun _ => Iff.rfl, hC⟩, fun k h => (hk k h).elim (fun e => by rw [e]; exact HLO.out.1) (fun e => Nat.le_trans HLO.out.2 e), HB.out⟩
end Go.Proofs.Ythcphabfeapjbaa
