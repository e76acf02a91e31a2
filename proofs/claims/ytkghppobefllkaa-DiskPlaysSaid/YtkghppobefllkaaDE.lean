/-
  THE DISK'S STATE behind a call; the walks of Write, Read.
-/
import Derived.Test.YtkghppobefllkaaDD
namespace Go.Proofs.Ytkghppobefllkaa
open Go.RowKit Dsk

section
variable {w w' : World} {F F' : Nat → Prop} {D g : Nat} {ps ps' : Nat → Nat} {L L' : List Blk} {S : Nat → Nat → Prop}
theorem DiskW.update (h : DiskW w F D g ps L) (hc : Chg S w w') (T : Nat → Prop)
    (hS : ∀ k o, S k o → (k = g ∧ ∃ i, T i ∧ i * 145 ≤ o ∧ o < i * 145 + 145) ∨ ∃ (i : Nat) (b : Blk), T i ∧ L[i]? = some b ∧ b.dirty = true ∧ k = ps i)
    (hlen : L'.length = L.length) (hsame : ∀ i, ¬ T i → L'[i]? = L[i]? ∧ ps' i = ps i)
    (hT : ∀ (i : Nat) (b' : Blk), T i → L'[i]? = some b' → b'.ok ∧ Here w' g (i * 145) (cellsB b' (ps' i)) ∧
      (b'.dirty = true → Here w' (ps' i) 0 (b'.cur.map V8) ∧ ((ps' i = ps i ∧ ∃ b : Blk, L[i]? = some b ∧ b.dirty = true) ∨ (w.heap.size ≤ ps' i ∧ F' (ps' i)))))
    (hinj : ∀ (i j : Nat) (b c : Blk), T i → T j → L'[i]? = some b → L'[j]? = some c → b.dirty = true → c.dirty = true → w.heap.size ≤ ps' i → ps' i = ps' j → i = j)
    (hF : ∀ k, F k → F' k) (hF' : ∀ k, F' k → k < w'.heap.size) : DiskW w' F' D g ps' L' := by
  have hD := h.lt D h.fD
  have hG := h.lt g h.fg
  have hold : ∀ (i : Nat) (b' : Blk), L'[i]? = some b' → b'.dirty = true → (ps' i = ps i ∧ ∃ b : Blk, L[i]? = some b ∧ b.dirty = true) ∨ (T i ∧ w.heap.size ≤ ps' i ∧ F' (ps' i)) := fun i b' hb hd => by
    by_cases hi : T i
    · rcases ((hT i b' hi hb).2.2 hd).2 with h1 | h1
      · exact .inl h1
      · exact .inr ⟨hi, h1⟩
    · exact .inl ⟨(hsame i hi).2, b', by rw [← (hsame i hi).1]; exact hb, hd⟩
  have hpsl : ∀ (i : Nat) (b : Blk), L[i]? = some b → b.dirty = true → ps i < w.heap.size := fun i b hb hd => h.lt _ (h.apart i b hb hd).2.2
  refine ⟨?_, fun i b hb => ?_, fun i b hb hd => ?_, fun i b hb => ?_, fun i j b c hb hc' hd hd' e => ?_, fun i b hb hd => ?_, h.dg, hF _ h.fD, hF _ h.fg, hF', by rw [hlen]; exact h.few⟩
  · rw [hlen]
    refine h.head.chg hc fun j hj hs => ?_
    rcases hS _ _ hs with ⟨e, _⟩ | ⟨i, b, _, hb, hd, e⟩
    · exact h.dg e
    · exact (h.apart i b hb hd).1 e.symm
  · by_cases hi : T i
    · exact (hT i b hi hb).2.1
    · have h1 := hsame i hi
      rw [h1.1] at hb
      rw [h1.2]
      refine (h.row i b hb).chg hc fun j hj hs => ?_
      rw [cellsB_length (h.ok i b hb)] at hj
      rcases hS _ _ hs with ⟨_, i', hi', h2, h3⟩ | ⟨i', b', _, hb', hd, e⟩
      · have : i = i' := by omega
        exact hi (this ▸ hi')
      · exact (h.apart i' b' hb' hd).2.1 e.symm
  · by_cases hi : T i
    · exact ((hT i b hi hb).2.2 hd).1
    · have h1 := hsame i hi
      rw [h1.1] at hb
      rw [h1.2]
      refine (h.wr i b hb hd).chg hc fun j hj hs => ?_
      rcases hS _ _ hs with ⟨e, _⟩ | ⟨i', b', hi', hb', hd', e⟩
      · exact (h.apart i b hb hd).2.1 e
      · exact hi (h.inj i i' b b' hb hb' hd hd' e ▸ hi')
  · by_cases hi : T i
    · exact (hT i b hi hb).1
    · rw [(hsame i hi).1] at hb; exact h.ok i b hb
  · rcases hold i b hb hd with ⟨e1, b1, hb1, hd1⟩ | ⟨t1, n1, _⟩ <;> rcases hold j c hc' hd' with ⟨e2, b2, hb2, hd2⟩ | ⟨t2, n2, _⟩
    · exact h.inj i j b1 b2 hb1 hb2 hd1 hd2 (by rw [← e1, ← e2, e])
    · have := hpsl i b1 hb1 hd1; omega
    · have := hpsl j b2 hb2 hd2; omega
    · exact hinj i j b c t1 t2 hb hc' hd hd' n1 e
  · rcases hold i b hb hd with ⟨e1, b1, hb1, hd1⟩ | ⟨t1, n1, f1⟩
    · rw [e1]
      have := h.apart i b1 hb1 hd1
      exact ⟨this.1, this.2.1, hF _ this.2.2⟩
    · exact ⟨by omega, by omega, f1⟩

/-- The same at one block. -/
theorem DiskW.one (h : DiskW w F D g ps L) (hc : Chg S w w') (i : Nat) {b b' : Blk} (hb : L[i]? = some b) (q : Nat)
    (hS : ∀ k o, S k o → (k = g ∧ i * 145 ≤ o ∧ o < i * 145 + 145) ∨ (b.dirty = true ∧ k = ps i))
    (hok : b'.ok) (hrow : Here w' g (i * 145) (cellsB b' q))
    (hwr : b'.dirty = true → Here w' q 0 (b'.cur.map V8) ∧ ((q = ps i ∧ b.dirty = true) ∨ (w.heap.size ≤ q ∧ F' q)))
    (hF : ∀ k, F k → F' k) (hF' : ∀ k, F' k → k < w'.heap.size) : DiskW w' F' D g (fun j => if j = i then q else ps j) (L.set i b') := by
  have hi := (List.getElem?_eq_some_iff.1 hb).1
  refine h.update hc (fun j => j = i) (fun k o hs => ?_) (by simp) (fun j hj => ?_) (fun j c hj hc' => ?_) (fun j k _ _ hj hk _ _ _ _ _ _ => by rw [hj, hk]) hF hF'
  · rcases hS k o hs with ⟨e, h1⟩ | ⟨hd, e⟩
    · exact .inl ⟨e, i, rfl, h1⟩
    · exact .inr ⟨i, b, rfl, hb, hd, e⟩
  · exact ⟨by rw [List.getElem?_set_ne (fun e => hj e.symm)], if_neg hj⟩
  · subst hj
    rw [List.getElem?_set_self hi] at hc'
    injection hc' with hc'
    subst hc'
    simp only [if_true]
    refine ⟨hok, hrow, fun hd => ?_⟩
    obtain ⟨h1, h2⟩ := hwr hd
    refine ⟨h1, ?_⟩
    rcases h2 with ⟨e, h2⟩ | h2
    · exact .inl ⟨e, b, hb, h2⟩
    · exact .inr h2

theorem DiskW.stay (h : DiskW w F D g ps L) (hc : Chg S w w') (hS : ∀ k o, F k → ¬ S k o) : DiskW w' F D g ps L := by
  refine ⟨h.head.chg hc fun j _ => hS _ _ h.fD, fun i b hb => (h.row i b hb).chg hc fun j _ => hS _ _ h.fg, fun i b hb hd => (h.wr i b hb hd).chg hc fun j _ => hS _ _ (h.apart i b hb hd).2.2, h.ok, h.inj, h.apart, h.dg, h.fD, h.fg, fun k hk => Nat.lt_of_lt_of_le (h.lt k hk) hc.size, h.few⟩
end

/-- The disk with the content L lies at D; F: the parts of memory that may be the disk's. -/
def DiskAt (w : World) (F : Nat → Prop) (D : Nat) (L : List Blk) : Prop := ∃ g ps, DiskW w F D g ps L
/-- Behind a call of the disk's. -/
def After (w : World) (F : Nat → Prop) (w' : World) (D : Nat) (L : List Blk) : Prop := ∃ F', DiskAt w' F' D L ∧ (∀ k, F' k → F k ∨ w.heap.size ≤ k) ∧ Chg (fun k _ => F k) w w'
theorem DiskAt.stay {w w' : World} {F : Nat → Prop} {D : Nat} {L : List Blk} {S : Nat → Nat → Prop} (h : DiskAt w F D L) (hc : Chg S w w') (hS : ∀ k o, F k → ¬ S k o) : DiskAt w' F D L := by
  obtain ⟨g, ps, h⟩ := h
  exact ⟨g, ps, h.stay hc hS⟩
theorem DiskAt.below {w w' : World} {F : Nat → Prop} {D : Nat} {L : List Blk} (h : DiskAt w F D L) (hc : Below w.heap.size w w') : DiskAt w' F D L := h.stay (Chg.below hc fun _ _ => False) fun _ _ _ x => x
theorem DiskAt.after {w : World} {F : Nat → Prop} {D : Nat} {L : List Blk} (h : DiskAt w F D L) : After w F w D L := ⟨F, h, fun _ hk => .inl hk, Chg.refl _ _⟩
theorem After.trans {a w w' : World} {F F1 : Nat → Prop} {D : Nat} {L1 : List Blk} (hF : ∀ k, F1 k → F k ∨ a.heap.size ≤ k) (hc : Chg (fun k _ => F k) a w) (h : After w F1 w' D L1) : After a F w' D L1 := by
  obtain ⟨F2, h1, h2, h3⟩ := h
  refine ⟨F2, h1, fun k hk => ?_, hc.trans h3 fun b _ hb hf => ?_⟩
  · rcases h2 k hk with h | h
    · exact hF k h
    · exact .inr (Nat.le_trans hc.size h)
  · rcases hF b hf with h | h
    · exact h
    · omega

namespace Dsk
def getB (L : List Blk) (i : Int) : Option Blk := if 0 ≤ i then L[i.toNat]? else none
def upd1 (L : List Blk) (i : Int) (f : Blk → Blk) : List Blk := match getB L i with
  | some b => L.set i.toNat (f b)
  | none => L
theorem getB_nat {L : List Blk} {i : Int} {b : Blk} (h : getB L i = some b) : ∃ n : Nat, i = n ∧ L[n]? = some b := by
  unfold getB at h
  split at h
  · exact ⟨i.toNat, by omega, h⟩
  · cases h
theorem getB_none {L : List Blk} {i : Int} (h : getB L i = none) : i < 0 ∨ (L.length : Int) ≤ i := by
  unfold getB at h
  split at h
  · rw [List.getElem?_eq_none_iff] at h; omega
  · omega
theorem getB_ofNat (L : List Blk) (n : Nat) : getB L (n : Int) = L[n]? := by unfold getB; rw [if_pos (by omega)]; rfl
theorem upd1_some {L : List Blk} {i : Nat} {b : Blk} (h : L[i]? = some b) (f : Blk → Blk) : upd1 L i f = L.set i (f b) := by
  unfold upd1
  rw [getB_ofNat, h]; rfl
theorem upd1_none {L : List Blk} {i : Int} (h : getB L i = none) (f : Blk → Blk) : upd1 L i f = L := by unfold upd1; rw [h]
theorem upd1_length (L : List Blk) (i : Int) (f : Blk → Blk) : (upd1 L i f).length = L.length := by
  unfold upd1
  split <;> simp
/-- May these bytes be written there? -/
def okW (L : List Blk) (i : Int) (bs : List UInt8) : Bool := (getB L i).isSome && decide (bs.length = 72)
def writeL (L : List Blk) (i : Int) (bs : List UInt8) : List Blk := if okW L i bs then upd1 L i (·.write bs) else L
end Dsk
end Go.Proofs.Ytkghppobefllkaa
