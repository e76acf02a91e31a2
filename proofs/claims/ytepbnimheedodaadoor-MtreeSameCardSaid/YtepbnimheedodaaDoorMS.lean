/-
  TOOLS for the program's Node: the mark that a literal's bytes get; a literal's row of five parts; the four tags of an array.
-/
import Derived.Test.YtepbnimheedodaaDoorMM
import Derived.Deep.MidRow
namespace Go.Proofs.YtepbnimheedodaaDoor
open Go.RowKit Mk

/-- The mark behind the last cell of a literal's bytes. -/
theorem run_mark (g n c : Nat) (bs : List UInt8) (W : World) (h : Row W g 5 (bs.map V8)) : (convert 22 22 (.slice (some ⟨g, 0, none⟩) n c)).run Tryd.prog W = .ok (.slice (some ⟨g, 0, none⟩) n c) (W.freeze ⟨g, bs.length, none⟩ 1) := by
  have hsh : W.shape? g = some (5, bs.length) := by
    have h' : W.heap[g]? = some (.cells (bs.map V8).toArray 5 (0, 0)) := h
    unfold World.shape?
    rw [h']
    simp
  simp [convert, run_underlying Tryd.underlying22, run_underlying Tryd.underlying5, markStringish, hsh]
theorem mark_heap (W : World) (g k j : Nat) (hj : j ≠ g) : (W.freeze ⟨g, k, none⟩ 1).heap[j]? = W.heap[j]? := by
  unfold World.freeze
  rw [if_neg (by decide)]
  show (W.heap.modify g _)[j]? = _
  rw [Array.getElem?_modify, if_neg (fun e => hj e.symm)]
theorem mark_size (W : World) (g k : Nat) : (W.freeze ⟨g, k, none⟩ 1).heap.size = W.heap.size := by
  unfold World.freeze
  rw [if_neg (by decide)]
  show (W.heap.modify g _).size = _
  simp
theorem mark_below (W : World) (B g k : Nat) (hB : B ≤ g) : Below B W (W.freeze ⟨g, k, none⟩ 1) := by
  refine ⟨?_, ?_, ?_, by rw [mark_size]; exact Nat.le_refl _, fun j hj => mark_heap W g k j (by omega)⟩ <;> (unfold World.freeze; rw [if_neg (by decide)])
theorem mark_cell (W : World) (g k : Nat) (p : Addr) : (W.freeze ⟨g, k, none⟩ 1).cell? p = W.cell? p := by
  rcases Nat.lt_trichotomy p.block g with h | h | h
  · exact World.cell?_of_block (mark_heap W g k p.block (by omega))
  · unfold World.freeze
    rw [if_neg (by decide)]
    unfold World.cell?
    show (match (W.heap.modify g _)[p.block]? with | some (.cells c _ _) => if p.spot.isSome then none else c[p.off]? | _ => none) = _
    rw [Array.getElem?_modify, if_pos h.symm]
    cases hq : W.heap[p.block]? with
    | none => rfl
    | some o => cases o <;> rfl
  · exact World.cell?_of_block (mark_heap W g k p.block (by omega))
theorem Arg.mark {W : World} {v : Value} {bs : List UInt8} (h : Arg W v bs) (g k : Nat) : Arg (W.freeze ⟨g, k, none⟩ 1) v bs := by
  rcases h with h | ⟨b, o, c, e, hb, hc, hs⟩
  · exact .inl h
  · exact .inr ⟨b, o, c, e, by rw [mark_size]; exact hb, hc, fun j u hu => (mark_cell W g k _).trans (hs j u hu)⟩
theorem mark_arg (W : World) (g k : Nat) {t : TypeId} {bs : List UInt8} (h : Row W g t (bs.map V8)) (n : Nat) (hn : bs.length = n) : Arg (W.freeze ⟨g, k, none⟩ 1) (.slice (some ⟨g, 0, none⟩) n n) bs := (h.arg n hn).mark g k

theorem vals5 {w : World} {v1 v2 v3 v4 v5 : Value} {p1 p2 p3 p4 p5 : List UInt8} (h1 : Arg w v1 p1) (h2 : Arg w v2 p2) (h3 : Arg w v3 p3) (h4 : Arg w v4 p4) (h5 : Arg w v5 p5) : Hm.Vals w [v1, v2, v3, v4, v5] [p1, p2, p3, p4, p5] := by
  refine ⟨rfl, fun j v p hv hp => ?_⟩
  match j with
  | 0 => simp only [List.getElem?_cons_zero, Option.some.injEq] at hv hp; subst hv hp; exact h1
  | 1 => simp only [List.getElem?_cons_succ, List.getElem?_cons_zero, Option.some.injEq] at hv hp; subst hv hp; exact h2
  | 2 => simp only [List.getElem?_cons_succ, List.getElem?_cons_zero, Option.some.injEq] at hv hp; subst hv hp; exact h3
  | 3 => simp only [List.getElem?_cons_succ, List.getElem?_cons_zero, Option.some.injEq] at hv hp; subst hv hp; exact h4
  | 4 => simp only [List.getElem?_cons_succ, List.getElem?_cons_zero, Option.some.injEq] at hv hp; subst hv hp; exact h5
  | j + 5 => simp at hv
theorem parts5 {w : World} {v1 v2 v3 v4 v5 : Value} {p1 p2 p3 p4 p5 : List UInt8} (h1 : Arg w v1 p1) (h2 : Arg w v2 p2) (h3 : Arg w v3 p3) (h4 : Arg w v4 p4) (h5 : Arg w v5 p5) :
    Hm.Parts (w.alloc (.cells #[v1, v2, v3, v4, v5] 22)) (.slice (some ⟨w.heap.size, 0, none⟩) 5 5) [p1, p2, p3, p4, p5] :=
  ⟨_, 5, [v1, v2, v3, v4, v5], rfl, Hm.Vals.below (vals5 h1 h2 h3 h4 h5) ((Below.refl _ _).alloc (Nat.le_refl _) _), fun _ => ⟨w.heap.size, 0, rfl, by simp, (Row.new w 22 [v1, v2, v3, v4, v5]).sees⟩⟩
/-- One of four tags in an array. -/
theorem kid_at {w : World} {g : Nat} {T : TypeId} {a b c d : Tg} (ha : a.length = 32) (hb : b.length = 32) (hc : c.length = 32) (hd : d.length = 32) (h : Row w g T (([a, b, c, d] : List Tg).flatten.map V8)) :
    Arg w (.slice (some ⟨g, 0, none⟩) 32 32) a ∧ Arg w (.slice (some ⟨g, 32, none⟩) 32 32) b ∧ Arg w (.slice (some ⟨g, 64, none⟩) 32 32) c ∧ Arg w (.slice (some ⟨g, 96, none⟩) 32 32) d := by
  have hs := h.sees
  simp only [List.flatten_cons, List.flatten_nil, List.append_nil] at hs
  have cut : ∀ (i : Nat) (t : Tg), t.length = 32 → ((a ++ (b ++ (c ++ d))).drop i).take 32 = t → Arg w (.slice (some ⟨g, i, none⟩) 32 32) t := fun i t ht he => by
    refine .inr ⟨g, i, 32, by rw [ht], h.lt, by omega, ?_⟩
    have := hs.piece i 32
    rw [Nat.zero_add, ← List.map_drop, ← List.map_take, he] at this
    exact this
  have dd : ∀ (a l : Tg) (i : Nat), a.length = 32 → (a ++ l).drop (32 + i) = l.drop i := fun a l i h => by
    rw [List.drop_append, List.drop_of_length_le (by omega), List.nil_append, h, Nat.add_sub_cancel_left]
  have tt : ∀ (a l : Tg), a.length = 32 → (a ++ l).take 32 = a := fun a l h => by
    rw [List.take_append_of_le_length (by omega), List.take_of_length_le (by omega)]
  refine ⟨cut 0 a ha (tt a _ ha), cut 32 b hb ?_, cut 64 c hc ?_, cut 96 d hd ?_⟩
  · rw [show 32 = 32 + 0 from rfl, dd a _ 0 ha, List.drop_zero]; exact tt b _ hb
  · rw [show 64 = 32 + (32 + 0) from rfl, dd a _ _ ha, dd b _ _ hb, List.drop_zero]; exact tt c _ hc
  · rw [show 96 = 32 + (32 + (32 + 0)) from rfl, dd a _ _ ha, dd b _ _ hb, dd c _ _ hc, List.drop_zero, List.take_of_length_le (by omega)]
end Go.Proofs.YtepbnimheedodaaDoor
