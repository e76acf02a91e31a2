/-
  pick; BOTH CACHES, side by side.
-/
import Derived.Test.YthcphabfeapjbaaPK
namespace Go.Proofs.Ythcphabfeapjbaa
open Go.RowKit Ca

/-- What is done: one of six. -/
def pk6 (c : Int) : Nat := (if c < 0 then -(c + 1) else c).toNat % 6

set_option maxRecDepth 100000 in
set_option maxHeartbeats 400000 in
theorem Cpick_any (c : Int) (h1 : -9223372036854775808 ≤ c) (h2 : c ≤ 9223372036854775807) (w : World) : Calls Try.prog 8 #[.int .i64 c, .int .i64 6] w fun e w' => e = .returned (.int .i64 (pk6 c)) ∧ w' = w := by
  go_enter Try.func8, Try.ntmps8
  by_cases h0 : c < 0
  · obtain ⟨m, rfl⟩ : ∃ m : Nat, c = -(m : Int) - 1 := ⟨(-(c + 1)).toNat, by omega⟩
    have e1 : IntKind.i64.wrap (-(m : Int) - 1 + 1) = -(m : Int) := by rw [IntWalk.i64_in _ (by omega)]; omega
    have e2 : IntKind.i64.wrap (-(-(m : Int))) = (m : Int) := by rw [IntWalk.i64_in _ (by omega)]; omega
    have e3 : pk6 (-(m : Int) - 1) = m % 6 := by rw [pk6, if_pos h0]; congr 1; omega
    rw [e3]
    go_wp2
    go_ret
    exact ⟨congrArg (fun z => Ending.returned (Value.int .i64 z)) (by omega), rfl⟩
  · obtain ⟨m, rfl⟩ : ∃ m : Nat, c = (m : Int) := ⟨c.toNat, by omega⟩
    have e3 : pk6 (m : Int) = m % 6 := by rw [pk6, if_neg h0]; rfl
    rw [e3]
    go_wp2
    go_ret
    exact ⟨congrArg (fun z => Ending.returned (Value.int .i64 z)) (by omega), rfl⟩


theorem RefK.lt {w : World} {G : Nat → Prop} {M sh room q : Nat} {s : St} (h : RefK w G M sh room q s) : ∀ k, G k → k < w.heap.size := by
  obtain ⟨a, b, ca, cb, h⟩ := h
  exact h.lt
theorem RefK.mono {w : World} {G : Nat → Prop} {M sh room q q' : Nat} {s : St} (h : RefK w G M sh room q s) (hq : q ≤ q') : RefK w G M sh room q' s := by
  obtain ⟨a, b, ca, cb, h⟩ := h
  exact ⟨a, b, ca, cb, { h with gq := ⟨Nat.le_trans h.gq.1 hq, h.gq.2⟩, pq := fun e he => Nat.le_trans (h.pq e he) hq }⟩
theorem RefK.hits {w : World} {G : Nat → Prop} {M sh room q : Nat} {s : St} (h : RefK w G M sh room q s) : s.hits ≤ s.gets ∧ s.gets ≤ q := by
  obtain ⟨a, b, ca, cb, h⟩ := h
  exact ⟨h.gq.2, h.gq.1⟩
/-- The program's cache at D (counted to q), the reference's at M (to r), both the call's own (from w0 on); Y: other parts of memory that neither has. -/
def BothC (C : Cach) (w0 W : World) (Y : Nat → Prop) (D M sh room q r : Nat) (sd sr : St) : Prop :=
  ∃ F G, C W F D sh room q sd ∧ RefK W G M sh room r sr ∧ (∀ k, F k → w0.heap.size ≤ k ∧ ¬ Y k) ∧ (∀ k, G k → w0.heap.size ≤ k ∧ ¬ Y k) ∧ (∀ k, F k → ¬ G k) ∧ (∀ k, Y k → k < W.heap.size) ∧ Below w0.heap.size w0 W
def FrmC (w0 : World) (Y : Nat → Prop) : Nat → Nat → Prop := fun k _ => w0.heap.size ≤ k ∧ ¬ Y k
section
variable {C : Cach} {w0 W W' : World} {Y : Nat → Prop} {D M sh room q r q' r' : Nat} {sd sr sd' sr' : St}
theorem BothC.below (h : BothC C w0 W Y D M sh room q r sd sr) : Below w0.heap.size w0 W := by
  obtain ⟨F, G, _, _, _, _, _, _, hb⟩ := h
  exact hb
theorem BothC.cache {P : Program} {f : FuncId} {args : Array Value} {Q : Ending → Prop} (h : BothC C w0 W Y D M sh room q r sd sr)
    (hc : ∀ F, C W F D sh room q sd → Calls P f args W fun e w' => Q e ∧ AfterC C W F w' D sh room q' sd') :
    Calls P f args W fun e w' => Q e ∧ BothC C w0 w' Y D M sh room q' r sd' sr ∧ Chg (FrmC w0 Y) W w' := by
  obtain ⟨F, G, hD, hR, hF, hG, hFG, hX, hb⟩ := h
  refine (hc F hD).mono ?_
  rintro e w' ⟨hq, F', hD', hF', hC⟩
  refine ⟨hq, ⟨F', G, hD', hR.stay hC fun k _ hg hf => hFG k hf hg, fun k hk => ?_, hG, fun k hk hg => ?_, fun k hk => Nat.lt_of_lt_of_le (hX k hk) hC.size, below_chgC hb hb.size hC fun k _ hk => (hF k hk).1⟩, hC.mono fun k _ _ hk => hF k hk⟩
  · rcases hF' k hk with h | h
    · exact hF k h
    · exact ⟨Nat.le_trans hb.size h, fun hx => by have := hX k hx; omega⟩
  · rcases hF' k hk with h | h
    · exact hFG k h hg
    · have := hR.lt k hg; omega
theorem BothC.ref (X : CacheC C) {P : Program} {f : FuncId} {args : Array Value} {Q : Ending → Prop} (h : BothC C w0 W Y D M sh room q r sd sr)
    (hc : ∀ G, RefK W G M sh room r sr → Calls P f args W fun e w' => Q e ∧ RK W G w' M sh room r' sr') :
    Calls P f args W fun e w' => Q e ∧ BothC C w0 w' Y D M sh room q r' sd sr' ∧ Chg (FrmC w0 Y) W w' := by
  obtain ⟨F, G, hD, hR, hF, hG, hFG, hX, hb⟩ := h
  refine (hc G hR).mono ?_
  rintro e w' ⟨hq, hR', hC⟩
  exact ⟨hq, ⟨F, G, X.stay hD hC fun k _ hf hg => hFG k hf hg, hR', hF, hG, hFG, fun k hk => Nat.lt_of_lt_of_le (hX k hk) hC.size, below_chgC hb hb.size hC fun k _ hk => (hG k hk).1⟩, hC.mono fun k _ _ hk => hG k hk⟩
theorem BothC.chg (X : CacheC C) {S : Nat → Nat → Prop} (h : BothC C w0 W Y D M sh room q r sd sr) (hc : Chg S W W') (hS : ∀ k o, k < W.heap.size → S k o → Y k ∧ w0.heap.size ≤ k) : BothC C w0 W' Y D M sh room q r sd sr := by
  obtain ⟨F, G, hD, hR, hF, hG, hFG, hX, hb⟩ := h
  have hc' : Chg (fun k _ => Y k ∧ w0.heap.size ≤ k) W W' := hc.mono fun k o hk hs => hS k o hk hs
  refine ⟨F, G, X.stay hD hc' fun k _ hf hs => (hF k hf).2 hs.1, hR.stay hc' fun k _ hg hs => (hG k hg).2 hs.1, hF, hG, hFG, fun k hk => Nat.lt_of_lt_of_le (hX k hk) hc.size, below_chgC hb hb.size hc' fun k _ hk => hk.2⟩
theorem BothC.stay (X : CacheC C) (h : BothC C w0 W Y D M sh room q r sd sr) (hb : Below W.heap.size W W') : BothC C w0 W' Y D M sh room q r sd sr := h.chg X (Chg.below hb fun _ _ => False) fun _ _ _ x => x.elim
theorem BothC.mono (X : CacheC C) (h : BothC C w0 W Y D M sh room q r sd sr) (hq : q ≤ q') (hr : r ≤ r') : BothC C w0 W Y D M sh room q' r' sd sr := by
  obtain ⟨F, G, hD, hR, h⟩ := h
  exact ⟨F, G, X.mono hD hq, hR.mono hr, h⟩
/-- More, or less, that neither has. -/
theorem BothC.also (X : CacheC C) (h : BothC C w0 W Y D M sh room q r sd sr) (hb : Below W.heap.size W W') (Z : Nat → Prop) (hZ : ∀ k, Z k → Y k ∨ (W.heap.size ≤ k ∧ k < W'.heap.size)) : BothC C w0 W' Z D M sh room q r sd sr := by
  obtain ⟨F, G, hD, hR, hF, hG, hFG, hX, hb0⟩ := h
  have h1 : ∀ k, k < W.heap.size → ¬ Y k → ¬ Z k := fun k hk hx hy => by
    rcases hZ k hy with h | h
    · exact hx h
    · omega
  refine ⟨F, G, X.stay hD (Chg.below hb fun _ _ => False) fun _ _ _ x => x, hR.stay (Chg.below hb fun _ _ => False) fun _ _ _ x => x, fun k hk => ⟨(hF k hk).1, h1 k (X.lt hD k hk) (hF k hk).2⟩, fun k hk => ⟨(hG k hk).1, h1 k (hR.lt k hk) (hG k hk).2⟩, hFG, fun k hk => ?_, hb0.trans (hb.mono hb0.size)⟩
  rcases hZ k hk with h | h
  · exact Nat.lt_of_lt_of_le (hX k h) hb.size
  · exact h.2
/-- Get of the program's: its bytes are new memory (Z has them from then on). -/
theorem BothC.get (X : CacheC C) (h : BothC C w0 W Y D M sh room q r sd sr) (hq : q ≤ 1000000) (i : Int) (hi : In64 i) :
    Calls Try.prog 11 #[.pointer (some ⟨D, 0, none⟩), .int .i64 i] W fun e w' => ∃ v, e = .returned (.tuple #[v, .bool (getC sd i).2.2]) ∧ Own w' W.heap.size 5 v ((getC sd i).2.1.map V8) ∧ BothC C w0 w' (fun k => Y k ∨ v.ownBlock = some k) D M sh room (q + 1) r (getC sd i).1 sr ∧ Chg (FrmC w0 Y) W w' := by
  obtain ⟨F, G, hD, hR, hF, hG, hFG, hX, hb⟩ := h
  refine (X.get hD hq i hi).mono ?_
  rintro e w' ⟨v, F', rfl, hO, hap, hD', hF', hC⟩
  refine ⟨v, rfl, hO, ⟨F', G, hD', hR.stay hC fun k _ hg hf => hFG k hf hg, fun k hk => ?_, fun k hk => ⟨(hG k hk).1, ?_⟩, fun k hk hg => ?_, fun k hk => ?_, below_chgC hb hb.size hC fun k _ hk => (hF k hk).1⟩, hC.mono fun k _ _ hk => hF k hk⟩
  · rcases hF' k hk with h | h
    · exact ⟨(hF k h).1, fun hy => hy.elim (hF k h).2 fun e => hap k e hk⟩
    · exact ⟨Nat.le_trans hb.size h, fun hy => hy.elim (fun hx => by have := hX k hx; omega) fun e => hap k e hk⟩
  · exact fun hy => hy.elim (hG k hk).2 fun e => by have := (hO.lt e).1; have := hR.lt k hk; omega
  · rcases hF' k hk with h | h
    · exact hFG k h hg
    · have := hR.lt k hg; omega
  · rcases hk with h | h
    · exact Nat.lt_of_lt_of_le (hX k h) hC.size
    · exact (hO.lt h).2
end
end Go.Proofs.Ythcphabfeapjbaa
