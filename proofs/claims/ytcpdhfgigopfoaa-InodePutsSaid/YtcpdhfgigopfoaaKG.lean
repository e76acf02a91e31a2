/-
  MARKS (no program): what a function that ranges over functions leaves behind: one deferred mark a loop.
-/
import Derived.Test.YtcpdhfgigopfoaaKD
namespace Go.Proofs.Ytcpdhfgigopfoaa
open Go.RowKit Go.Shelf

/-- The mark that a loop leaves. -/
def mkd (D : Nat) : Deferred := { target := .collected D, args := #[] }
/-- The marks' blocks lie from n₀ on, below hi, each once, and hold no call. -/
structure Marks (n₀ hi : Nat) (W : World) (Ds : List Nat) : Prop where
  all : ∀ D ∈ Ds, n₀ ≤ D ∧ D < hi ∧ W.heap[D]? = some (.deferred (some []))
  once : Ds.Nodup
/-- Marks' blocks have been shut, no more. -/
structure Shut (n₀ : Nat) (W W' : World) : Prop where
  below : Below n₀ W W'
  size : W.heap.size ≤ W'.heap.size
  cells : ∀ (g : Nat) (o : Obj), W.heap[g]? = some o → o.isCells = true → W'.heap[g]? = some o
section
variable {n₀ hi : Nat} {W W' W'' : World} {Ds : List Nat}
theorem Marks.nil : Marks n₀ hi W [] := ⟨fun D h => by simp at h, List.nodup_nil⟩
theorem Marks.mono (h : Marks n₀ hi W Ds) {hi' : Nat} (hh : hi ≤ hi') : Marks n₀ hi' W Ds := ⟨fun D hd => ⟨(h.all D hd).1, by have := (h.all D hd).2.1; omega, (h.all D hd).2.2⟩, h.once⟩
theorem Marks.alloc (h : Marks n₀ hi W Ds) (o : Obj) : Marks n₀ hi (W.alloc o) Ds := ⟨fun D hd => ⟨(h.all D hd).1, (h.all D hd).2.1, by
  have h3 := (h.all D hd).2.2
  rw [Below.heap_alloc W o D (Array.getElem?_eq_some_iff.1 h3).1]; exact h3⟩, h.once⟩
theorem Marks.others (h : Marks n₀ hi W Ds) (hk : KeepsOthers W W') : Marks n₀ hi W' Ds := ⟨fun D hd => ⟨(h.all D hd).1, (h.all D hd).2.1, hk.same D _ (h.all D hd).2.2 rfl⟩, h.once⟩
theorem Marks.cons (h : Marks n₀ hi W Ds) {D : Nat} (hK : W.heap[D]? = some (.deferred (some []))) (hD : hi ≤ D) (h0 : n₀ ≤ D) : Marks n₀ W.heap.size W (D :: Ds) := by
  have hlt := (Array.getElem?_eq_some_iff.1 hK).1
  refine ⟨fun D' hd => ?_, List.nodup_cons.2 ⟨fun hd => ?_, h.once⟩⟩
  · rcases List.mem_cons.1 hd with rfl | hd
    · exact ⟨h0, hlt, hK⟩
    · have := h.all D' hd
      exact ⟨this.1, by omega, this.2.2⟩
  · have := (h.all D hd).2.1
    omega
theorem marks_own {β : Type} {B : Nat} (hB : hi ≤ B) : OwnFrom B (fun (_ : β) W => Marks n₀ hi W Ds) := fun _ X Y row hs hg hr => ⟨fun D hd => by
  obtain ⟨h1, h2, h3⟩ := hs.all D hd
  refine ⟨h1, h2, (hg.block D (Array.getElem?_eq_some_iff.1 h3).1 (fun e => ?_)).trans h3⟩
  have := (hr D e.symm).1
  omega, hs.once⟩
theorem Shut.refl (n₀ : Nat) (W : World) : Shut n₀ W W := ⟨Below.refl _ _, Nat.le_refl _, fun _ _ h _ => h⟩
theorem Shut.trans (h : Shut n₀ W W') (k : Shut n₀ W' W'') : Shut n₀ W W'' := ⟨h.below.trans k.below, Nat.le_trans h.size k.size, fun g o hg ho => k.cells g o (h.cells g o hg ho) ho⟩
theorem Shut.own (h : Shut n₀ W W') {B : Nat} {e : TypeId} {v : Value} {ys : List Value} (ho : Own W B e v ys) : Own W' B e v ys := by
  refine ⟨ho.1, ?_⟩
  rcases ho.2 with h2 | ⟨g, cap, cur, hv, hg, hl, r⟩
  · exact .inl h2
  · exact .inr ⟨g, cap, cur, hv, hg, h.cells g _ hl rfl, r⟩
theorem shut_mark {D : Nat} (hK : W.heap[D]? = some (.deferred (some []))) (h0 : n₀ ≤ D) : Shut n₀ W (W.putObj D (.deferred none)) := by
  have hlt := (Array.getElem?_eq_some_iff.1 hK).1
  refine ⟨(Below.refl n₀ W).grown (grownBy_putObj' W D (.deferred none)) (by omega) (fun k e => by cases e; omega), (grownBy_putObj' W D (.deferred none)).size, fun g o hg ho => ?_⟩
  refine ((grownBy_putObj' W D (.deferred none)).block g (Array.getElem?_eq_some_iff.1 hg).1 (fun e => ?_)).trans hg
  cases e
  rw [hK] at hg
  cases hg
  cases ho
end

theorem leaves_marks {F : Fence} {m : Nat} {P : Program} {fn : Func} {tmps : Array Value} {R : Ending → World → Prop} {n₀ : Nat} (Ds : List Nat) : ∀ (W : World) {hi : Nat}, Marks n₀ hi W Ds →
    (∀ W', Shut n₀ W W' → ∃ v, (results fn tmps).run P W' = .ok v W' ∧ R (.returned v) W') → LeavesInM F m P fn tmps R (Ds.map mkd) .returning W := by
  induction Ds with
  | nil => intro W hi _ h; exact h W (Shut.refl _ _)
  | cons D Ds ih =>
    intro W hi hM h
    obtain ⟨h0, _, hK⟩ := hM.all D (List.mem_cons_self ..)
    have hs := shut_mark hK h0
    have hnd := List.nodup_cons.1 hM.once
    refine ⟨by simp, .inl ⟨D, _, rfl, run_takeDeferred hK, ih (hi := hi) _ ⟨fun D' hd => ?_, hnd.2⟩ fun W' hW' => h W' (hs.trans hW')⟩⟩
    obtain ⟨h1, h2, h3⟩ := hM.all D' (List.mem_cons_of_mem _ hd)
    refine ⟨h1, h2, ((grownBy_putObj' W D (.deferred none)).block D' (Array.getElem?_eq_some_iff.1 h3).1 (fun e => ?_)).trans h3⟩
    cases e
    exact hnd.1 hd

theorem keepB_t {gw gx : Nat} {A B C : World} (h : KeepB gw gx A B) (k : KeepB gw gx B C) : KeepB gw gx A C := ⟨fun v hv => k.1 v (h.1 v hv), fun v hv => k.2 v (h.2 v hv)⟩
theorem keepB_b {gw gx n : Nat} (h1 : gw < n) (h2 : gx < n) (W : World) (l : Nat) (o o' : Obj) (hl : n ≤ l) (_ : W.heap[l]? = some o) (_ : o.isCells = false) : KeepB gw gx W (W.putObj l o') :=
  ⟨fun v hv => hv.kept (grownBy_putObj' W l o') (fun e => by cases e; omega), fun v hv => hv.kept (grownBy_putObj' W l o') (fun e => by cases e; omega)⟩
end Go.Proofs.Ytcpdhfgigopfoaa
