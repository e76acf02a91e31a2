/-
  A RANGE OVER A FUNCTION WHOSE ITERATOR HANDS OVER MEMORY OF ITS OWN MAKING: what a round may lean on is said of the world at hand ('Lies'), and that what it is handed was laid behind all that is the caller's ('C ≤ blk x').
-/
import Derived.Test.YtepbnimheedodaaDoorMX
import Derived.RangeFuncNested
import Derived.RangeFuncBound
import Derived.RangeFuncCalls
import Derived.RangeFuncLeaves
import Derived.Shelf.Abstract
import Derived.Shelf.RegionOpen
import Derived.OwnWalkIn
import Derived.TacticsInMore
import Derived.LoopNIn
import Derived.LoopIn
import Derived.Maps.AppendAt
namespace Go.Proofs.YtepbnimheedodaaDoor
open Go.RowKit Go.Shelf Mk

/-- What the iterator asks of a caller, and gives it. C: all that is the caller's own lies below it. -/
def Levels {α : Type} (F : Fence) (n : Nat) (P : Program) (g : Nat) (lb : Array Value) (enc : α → Value) (blk : α → Nat) (Lies : α → World → Prop) (Kp : World → World → Prop) (S : List α → Prop) (Nx : List α → α → Prop) (w : World) : Prop :=
  ∀ (l : Nat) (J : List α → Nat → World → Prop) (W : World), Below w.heap.size w W →
    (∀ pre C X Y, J pre C X → C ≤ X.heap.size → Below C X Y → J pre C Y) → (∀ pre C D X, J pre C X → C ≤ D → J pre D X) →
    (∀ pre x C W1, J pre C W1 → C ≤ W1.heap.size → C ≤ blk x → Lies x W1 → Nx pre x → YieldAt F (n - 1) P l #[enc x] W1 fun e W' =>
      e = .returned (.bool true) ∧ J (pre ++ [x]) W'.heap.size W' ∧ Lies x W' ∧ Kp W1 W') →
    J [] W.heap.size W →
    CallsIn F n P g (#[.func (.yield l) #[] #[]] ++ lb) W fun e W' => (∃ v, e = .returned v) ∧ ∃ xs, S xs ∧ J xs W'.heap.size W'

theorem wpIn_levels {α : Type} {F : Fence} {n : Nat} {P : Program} {g : Operand} {t : Tmp} {assign body : Code} {Q : Exit → Act → World → Prop} {a : Act} {w : World}
    (hro : F.round = none) (h1 : 1 ≤ n) {gf : Nat} {lb : Array Value} (hg : a.eval g = .func (.func gf) #[] lb) (hFg : F.fn gf) (eg : ∀ args w, (callFunc gf args).run P w = .ok (.enter gf args) w)
    {enc : α → Value} {blk : α → Nat} {Lies : α → World → Prop} {Kp : World → World → Prop} {S : List α → Prop} {Nx : List α → α → Prop} {w0 : World} (hseq : Levels F (n - 1) P gf lb enc blk Lies Kp S Nx w0) (hb0 : Below w0.heap.size w0 w)
    (hKt : ∀ {X Y Z : World}, Kp X Y → Kp Y Z → Kp X Z)
    (hKb : ∀ (W : World) (l : Nat) (o o' : Obj), w.heap.size ≤ l → W.heap[l]? = some o → o.isCells = false → Kp W (W.putObj l o'))
    (hLb : ∀ (x : α) (W : World) (l : Nat) (o o' : Obj), w.heap.size ≤ l → W.heap[l]? = some o → o.isCells = false → Lies x W → Lies x (W.putObj l o'))
    (I : List α → Nat → World → Prop)
    (hIp : ∀ pre C W l o o', I pre C W → w.heap.size ≤ l → W.heap[l]? = some o → Obj.isCells o = false → I pre C (W.putObj l o'))
    (hIb : ∀ pre C X Y, I pre C X → C ≤ X.heap.size → Below C X Y → I pre C Y) (hIm : ∀ pre C D X, I pre C X → C ≤ D → I pre D X)
    (h0 : I [] w.heap.size w) (a₁ : α → Act)
    (hassign : ∀ (l : Nat) (x : α) (W : World) (K : Act → World → Prop), K (a₁ x) W →
      assign.wpIn (F.inRound l) (n - 1 - 1) P (Exit.then K (fun _ _ _ => False)) { tmps := a.tmps.setIfInBounds t (enc x), defers := [] } W)
    (hbody : ∀ (l : Nat) (pre : List α) (x : α) (C : Nat) (W : World), I pre C W → C ≤ W.heap.size → C ≤ blk x → Lies x W → Nx pre x →
      body.wpIn (F.inRound l) (n - 1 - 1) P (Exit.then (fun _ W' => KeepsFrom w.heap.size W W' ∧ I (pre ++ [x]) W'.heap.size W' ∧ Lies x W' ∧ Kp W W') (fun _ _ _ => False)) (a₁ x) W)
    (hdone : ∀ (D : Nat) (xs : List α) (W : World), w.heap.size ≤ D → S xs → I xs W.heap.size W → W.heap[D]? = some (.deferred (some [])) → Q .normal { a with defers := { target := .collected D, args := #[] } :: a.defers } W) :
    (Code.rangeFunc g #[t] assign body).wpIn F n P Q a w := by
  refine wpIn_rangeFunc fun fn hfn => ?_
  rw [hro]
  obtain ⟨L, hL⟩ : ∃ L : LoopState → Option Code → Loop, L = fun s p => { state := s, pending := p, fn, tmps := a.tmps, params := #[t], assign, body, defers := w.heap.size } := ⟨_, rfl⟩
  obtain ⟨W1, hW1⟩ : ∃ W1, (w.alloc (.deferred (some []))).alloc (.loop (L .ready none)) = W1 := ⟨_, rfl⟩
  have hs1 : W1.heap.size = w.heap.size + 2 := by rw [← hW1]; simp
  have hr1 : W1.heap[w.heap.size + 1]? = some (.loop (L .ready none)) := by
    rw [← hW1]; have h := World.alloc_heap_new (w.alloc (.deferred (some []))) (.loop (L .ready none)); rwa [World.size_alloc] at h
  have hd1 : W1.heap[w.heap.size]? = some (.deferred (some [])) := by
    rw [← hW1]; exact (Below.heap_alloc _ _ _ (by simp)).trans (World.alloc_heap_new w _)
  have hw1 : Below w.heap.size w W1 := by rw [← hW1]; exact ((Below.refl _ w).alloc (Nat.le_refl _) _).alloc (by simp) _
  have hi1 : I [] W1.heap.size W1 := hIm _ _ _ _ (hIb _ _ _ _ h0 (Nat.le_refl _) hw1) hw1.size
  refine ⟨w.heap.size + 1, [{ target := .collected w.heap.size, args := #[] }], W1, { target := .fn (.func gf) lb, args := #[.func (.yield (w.heap.size + 1)) #[] #[]] }, W1, gf,
    #[.func (.yield (w.heap.size + 1)) #[] #[]] ++ lb, W1, by rw [← hW1, hL]; exact run_enterLoop_outer _ _ _ _ _, by simp only [resolve, hg]; simp [go_sem], fun f hf => by simp [Target.leads] at hf; exact hf ▸ hFg, by simp [invoke, go_sem, eg], fun _ => h1, ?_⟩
  refine (hseq (w.heap.size + 1) (fun pre C W => I pre C W ∧ w.heap.size + 1 < C ∧ W.heap[w.heap.size + 1]? = some (.loop (L .ready none)) ∧ W.heap[w.heap.size]? = some (.deferred (some []))) W1 (hb0.trans (hw1.mono hb0.size))
    (fun pre C X Y h hC hB => ⟨hIb _ _ _ _ h.1 hC hB, h.2.1, (hB.block _ h.2.1).trans h.2.2.1, (hB.block _ (by have := h.2.1; omega)).trans h.2.2.2⟩)
    (fun pre C D X h hCD => ⟨hIm _ _ _ _ h.1 hCD, Nat.lt_of_lt_of_le h.2.1 hCD, h.2.2⟩) ?_ ⟨hi1, by omega, hr1, hd1⟩).mono ?_
  · rintro pre x C W ⟨hi, hC, hr, hd⟩ hCW hCx hx hlen
    have hlt : w.heap.size + 1 < W.heap.size := by omega
    have hy := run_yield (P := P) (args := #[enc x]) hr (by rw [hL]; rfl)
    rw [hL] at hy
    have hz : ((#[t] : Array Tmp).zip #[enc x]).foldl (fun (tmps : Array Value) (p : Tmp × Value) => tmps.setIfInBounds p.1 p.2) a.tmps = a.tmps.setIfInBounds t (enc x) := by simp
    refine ⟨fn, _, assign, body, hy, roundIn_of_wpIn hfn ?_⟩
    refine (show assign.wpIn (F.inRound (w.heap.size + 1)) (n - 1 - 1) P _ { tmps := ((#[t] : Array Tmp).zip #[enc x]).foldl (fun (tmps : Array Value) (p : Tmp × Value) => tmps.setIfInBounds p.1 p.2) a.tmps, defers := [] } W from ?_)
    rw [hz]
    refine hassign _ x W _ ?_
    refine ⟨_, run_beginRound hr (by rw [hL]), ?_⟩
    obtain ⟨Wb, hWb⟩ : ∃ Wb, W.putObj (w.heap.size + 1) (.loop { L .ready none with state := .busy }) = Wb := ⟨_, rfl⟩
    have hsb : Wb.heap.size = W.heap.size := by rw [← hWb]; simp
    have hrb : Wb.heap[w.heap.size + 1]? = some (.loop { L .ready none with state := .busy }) := by rw [← hWb]; exact World.putObj_heap_same hlt
    have hdb : Wb.heap[w.heap.size]? = some (.deferred (some [])) := by rw [← hWb]; exact (World.putObj_heap_other (by omega)).trans hd
    have hib : I pre C Wb := by rw [← hWb]; exact hIp _ _ _ _ _ _ hi (by omega) hr rfl
    have hxb : Lies x Wb := by rw [← hWb]; exact hLb _ _ _ _ _ (by omega) hr rfl hx
    have hkb : Kp W Wb := by rw [← hWb]; exact hKb _ _ _ _ (by omega) hr rfl
    rw [hWb]
    refine wpIn_mono (hbody _ pre x C Wb hib (by omega) hCx hxb hlen) ?_
    intro e a3 W3 hp
    cases e with
    | normal =>
      obtain ⟨hk3, hi3, hx3, hp3⟩ := hp
      have hr3 := hk3.same _ _ (by omega) hrb rfl
      have hd3 := hk3.same _ _ (Nat.le_refl _) hdb rfl
      have hlt3 := (Array.getElem?_eq_some_iff.1 hr3).1
      have he := run_endRound (P := P) none hr3
      have hq : ({ ({ L .ready none with state := .busy } : Loop) with state := if (none : Option Code).isNone then LoopState.ready else .done, pending := none } : Loop) = L .ready none := by rw [hL]; rfl
      rw [hq] at he
      refine ⟨_, _, he, rfl, ⟨?_, by rw [World.putObj_size]; exact hlt3, World.putObj_heap_same hlt3, (World.putObj_heap_other (by omega)).trans hd3⟩, hLb _ _ _ _ _ (by omega) hr3 rfl hx3, hKt hkb (hKt hp3 (hKb _ _ _ _ (by omega) hr3 rfl))⟩
      rw [World.putObj_size]
      exact hIp _ _ _ _ _ _ hi3 (by omega) hr3 rfl
    | ret => exact hp.elim
    | exit id => exact hp.elim
    | goto t => exact hp.elim
    | panic ch => exact hp.elim
    | outgrown => exact hp.elim
  · rintro e W2 ⟨⟨v, rfl⟩, xs, hS, hi, hC, hr, hd⟩
    have he := run_endLoop (P := P) hr (by rw [hL]; simp)
    refine ⟨none, _, by rw [hL] at he; exact he, hdone _ xs _ (Nat.le_refl _) hS ?_ ((World.putObj_heap_other (by omega)).trans hd)⟩
    rw [World.putObj_size]
    exact hIp _ _ _ _ _ _ hi (by omega) hr rfl
end Go.Proofs.YtepbnimheedodaaDoor
