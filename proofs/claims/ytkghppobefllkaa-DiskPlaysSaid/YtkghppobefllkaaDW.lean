/-
  BOTH DISKS, side by side; a slice of deeds as it is read.
-/
import Derived.Test.YtkghppobefllkaaDV
namespace Go.Proofs.Ytkghppobefllkaa
open Go.RowKit Dsk

/-- The program's disk at D, the reference's at M, both the call's own (from w0 on); X: other parts of memory that neither has. -/
def Both (w0 W : World) (X : Nat → Prop) (D M : Nat) (Ld Lr : List Blk) : Prop :=
  ∃ F G, DiskAt W F D Ld ∧ RefAt W G M Lr ∧ (∀ k, F k → w0.heap.size ≤ k ∧ ¬ X k) ∧ (∀ k, G k → w0.heap.size ≤ k ∧ ¬ X k) ∧ (∀ k, F k → ¬ G k) ∧ (∀ k, X k → k < W.heap.size) ∧ Below w0.heap.size w0 W
/-- What a call on one of both may turn. -/
def Frm (w0 : World) (X : Nat → Prop) : Nat → Nat → Prop := fun k _ => w0.heap.size ≤ k ∧ ¬ X k
theorem DiskAt.lt {w : World} {F : Nat → Prop} {D : Nat} {L : List Blk} (h : DiskAt w F D L) : ∀ k, F k → k < w.heap.size := by
  obtain ⟨g, ps, h⟩ := h
  exact h.lt
theorem RefAt.lt {w : World} {G : Nat → Prop} {M : Nat} {L : List Blk} (h : RefAt w G M L) : ∀ k, G k → k < w.heap.size := by
  obtain ⟨a, b, c, ca, cb, cc, h⟩ := h
  exact h.lt
section
variable {w0 W W' : World} {X : Nat → Prop} {D M : Nat} {Ld Lr Ld' Lr' : List Blk}
theorem Both.below (h : Both w0 W X D M Ld Lr) : Below w0.heap.size w0 W := by
  obtain ⟨F, G, _, _, _, _, _, _, hb⟩ := h
  exact hb
theorem Both.disk {P : Program} {f : FuncId} {args : Array Value} {Q : Ending → Prop} (h : Both w0 W X D M Ld Lr)
    (hc : ∀ F, DiskAt W F D Ld → (∀ k, F k → w0.heap.size ≤ k ∧ ¬ X k) → Calls P f args W fun e w' => Q e ∧ After W F w' D Ld') :
    Calls P f args W fun e w' => Q e ∧ Both w0 w' X D M Ld' Lr ∧ Chg (Frm w0 X) W w' := by
  obtain ⟨F, G, hD, hR, hF, hG, hFG, hX, hb⟩ := h
  refine (hc F hD hF).mono ?_
  rintro e w' ⟨hq, F', hD', hF', hC⟩
  refine ⟨hq, ⟨F', G, hD', hR.stay hC fun k _ hg hf => hFG k hf hg, fun k hk => ?_, hG, fun k hk hg => ?_, fun k hk => Nat.lt_of_lt_of_le (hX k hk) hC.size, below_chg hb hC fun k hk => (hF k hk).1⟩, hC.mono fun k _ _ hk => hF k hk⟩
  · rcases hF' k hk with h | h
    · exact hF k h
    · exact ⟨Nat.le_trans hb.size h, fun hx => by have := hX k hx; omega⟩
  · rcases hF' k hk with h | h
    · exact hFG k h hg
    · have := hR.lt k hg; omega
theorem Both.ref {P : Program} {f : FuncId} {args : Array Value} {Q : Ending → Prop} (h : Both w0 W X D M Ld Lr)
    (hc : ∀ G, RefAt W G M Lr → (∀ k, G k → w0.heap.size ≤ k ∧ ¬ X k) → Calls P f args W fun e w' => Q e ∧ RAfter W G w' M Lr') :
    Calls P f args W fun e w' => Q e ∧ Both w0 w' X D M Ld Lr' ∧ Chg (Frm w0 X) W w' := by
  obtain ⟨F, G, hD, hR, hF, hG, hFG, hX, hb⟩ := h
  refine (hc G hR hG).mono ?_
  rintro e w' ⟨hq, hR', hC⟩
  exact ⟨hq, ⟨F, G, hD.stay hC fun k _ hf hg => hFG k hf hg, hR', hF, hG, hFG, fun k hk => Nat.lt_of_lt_of_le (hX k hk) hC.size, below_chg hb hC fun k hk => (hG k hk).1⟩, hC.mono fun k _ _ hk => hG k hk⟩
/-- What is apart from both may turn. -/
theorem Both.chg {S : Nat → Nat → Prop} (h : Both w0 W X D M Ld Lr) (hc : Chg S W W') (hS : ∀ k o, k < W.heap.size → S k o → X k ∧ w0.heap.size ≤ k) : Both w0 W' X D M Ld Lr := by
  obtain ⟨F, G, hD, hR, hF, hG, hFG, hX, hb⟩ := h
  have hc' : Chg (fun k _ => X k ∧ w0.heap.size ≤ k) W W' := hc.mono fun k o hk hs => hS k o hk hs
  refine ⟨F, G, hD.stay hc' fun k _ hf hs => (hF k hf).2 hs.1, hR.stay hc' fun k _ hg hs => (hG k hg).2 hs.1, hF, hG, hFG, fun k hk => Nat.lt_of_lt_of_le (hX k hk) hc.size, below_chg hb hc' fun k hk => hk.2⟩
theorem Both.stay (h : Both w0 W X D M Ld Lr) (hb : Below W.heap.size W W') : Both w0 W' X D M Ld Lr := h.chg (Chg.below hb fun _ _ => False) fun _ _ _ x => x.elim
/-- More, or less, that neither has. -/
theorem Both.also (h : Both w0 W X D M Ld Lr) (hb : Below W.heap.size W W') (Y : Nat → Prop) (hY : ∀ k, Y k → X k ∨ (W.heap.size ≤ k ∧ k < W'.heap.size)) : Both w0 W' Y D M Ld Lr := by
  obtain ⟨F, G, hD, hR, hF, hG, hFG, hX, hb0⟩ := h
  have h1 : ∀ k, k < W.heap.size → ¬ X k → ¬ Y k := fun k hk hx hy => by
    rcases hY k hy with h | h
    · exact hx h
    · omega
  refine ⟨F, G, hD.below hb, hR.below hb, fun k hk => ⟨(hF k hk).1, h1 k (hD.lt k hk) (hF k hk).2⟩, fun k hk => ⟨(hG k hk).1, h1 k (hR.lt k hk) (hG k hk).2⟩, hFG, fun k hk => ?_, hb0.trans (hb.mono hb0.size)⟩
  rcases hY k hk with h | h
  · exact Nat.lt_of_lt_of_le (hX k h) hb.size
  · exact h.2
theorem Both.less (h : Both w0 W X D M Ld Lr) : Both w0 W (fun _ => False) D M Ld Lr := h.also (Below.refl _ _) _ fun _ hk => hk.elim
end

/-- A deed: what is done, its numbers, its byte, its bytes, what is kept. -/
structure Deed where
  what : Int
  i : Int
  k : Int
  x : UInt8
  vb : Value
  vk : Value
  b : List UInt8
  keep : List Bool
def Deed.cells (d : Deed) : List Value := [.int .i64 d.what, .int .i64 d.i, .int .i64 d.k, .int .u8 d.x.toNat, d.vb, d.vk]
structure Deed.ok (w : World) (d : Deed) : Prop where
  arg : Arg w d.vb d.b
  keeps : From w d.vk (d.keep.map Value.bool)
  lo : -9223372036854775808 ≤ d.what
  hi : d.what ≤ 9223372036854775807
/-- A slice of deeds. -/
def Deeds (w : World) (v : Value) (l : List Deed) : Prop :=
  ∃ A cap, v = .slice A l.length cap ∧ (0 < l.length → ∃ b o, A = some ⟨b, o, none⟩ ∧ b < w.heap.size ∧ ∀ (j : Nat) (d : Deed), l[j]? = some d → Sees w b (o + j * 6) d.cells) ∧ ∀ d ∈ l, d.ok w
theorem Deed.ok.below {w W : World} {d : Deed} (h : d.ok w) (hb : Below w.heap.size w W) : d.ok W := ⟨h.arg.below hb, h.keeps.below hb, h.lo, h.hi⟩

/-- A slice of bools whose block is none of these. -/
theorem keep_apart {w : World} {A : Option Addr} {n cap : Nat} {bs : List Bool} (h : From w (.slice A n cap) (bs.map Value.bool)) (hn : bs.length = n) {F : Nat → Prop} (hF : ∀ k, F k → w.heap.size ≤ k) :
    ∀ b o, A = some ⟨b, o, none⟩ → 0 < n → ¬ F b := fun b o e hp hf => by
  rcases h with ⟨A', e', e2⟩ | ⟨b', o', c', e', hl, _⟩
  · have : bs.length = 0 := by have := congrArg List.length e2; simpa using this
    omega
  · injection e' with e1 _ _
    rw [e] at e1
    injection e1 with e1
    injection e1 with e1 _
    have := hF b hf
    omega
end Go.Proofs.Ytkghppobefllkaa
