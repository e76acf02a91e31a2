/-
  ALL THAT LIES while the law FilePlays plays: its own memory, the document's files, the store.
-/
import Derived.Test.YtiafmghdiidniaaLN
namespace Go.Proofs.Ytiafmghdiidniaa
open Go.RowKit Cdc Inn Fil

/-- Where all lies: the geometry, the document's files and their texts, the inodes, the store. -/
structure Lay14 where
  gb : Nat
  ob : Nat
  lb : Nat
  ib : Nat
  m : Nat
def Lay14.Y (L : Lay14) (k : Nat) : Prop := k = L.gb ∨ k = L.ob ∨ k = L.lb ∨ k = L.ib
structure PlW (C : Stor) (w X : World) (L : Lay14) (Z : Nat → Prop) (g : Geo) (l : List Ino) (fs bl : List (List UInt8)) : Prop where
  geo : Row X L.gb 23 [.int .i64 g.n, .int .i64 g.k]
  fl : FlAt X L.ob L.lb g fs
  ino : ∀ i x, l[i]? = some x → Here X L.ib (i * 7) (x.l.map VI)
  four : l.length = 4
  sto : Sto C w X (fun k => L.Y k ∨ Z k) L.m bl
  own : w.heap.size ≤ L.gb ∧ w.heap.size ≤ L.ob ∧ w.heap.size ≤ L.lb ∧ w.heap.size ≤ L.ib
  dis : L.gb ≠ L.lb ∧ L.ib ≠ L.lb ∧ L.ob ≠ L.lb ∧ L.gb ≠ L.ib ∧ L.ob ≠ L.ib ∧ L.gb ≠ L.ob
theorem FlAt.chg {w w' : World} {o lb : Nat} {g : Geo} {fs : List (List UInt8)} {S : Nat → Nat → Prop} (h : FlAt w o lb g fs) (hc : Chg S w w') (h1 : ∀ j, ¬ S o j) (h2 : ∀ j, ¬ S lb j) : FlAt w' o lb g fs :=
  ⟨h.head.chg hc h1, h.row.chg hc h2, h.four, h.len, h.off⟩
/-- A row that is grown by nothing: what is turned is its cells. -/
theorem chg_row {X X' : World} {b : Nat} {t : TypeId} {cs cs' : List Value} (hg : X.grownBy X' (some b)) (h : Row X b t cs) (h' : Row X' b t cs') (hl : cs'.length = cs.length) : Chg (fun k _ => k = b) X X' where
  os := hg.os
  tape := hg.tape
  output := hg.output
  size := hg.size
  block := fun k hk hn => hg.block k hk (fun e => by injection e with e; exact hn 0 e)
  cell := fun k o hk hn => World.cell?_of_block (hg.block k hk (fun e => by injection e with e; exact hn e))
  some := fun k o hs => by
    by_cases e : k = b
    · subst e
      rw [h.cell] at hs
      rw [h'.cell]
      cases hq : cs'[o]? with
      | some _ => rfl
      | none =>
        rw [List.getElem?_eq_none_iff] at hq
        rw [List.getElem?_eq_none (by omega)] at hs
        exact hs
    · rw [World.cell?_of_block (hg.block k (by
        rcases Nat.lt_or_ge k X.heap.size with hk | hk
        · exact hk
        · simp [World.cell?, Array.getElem?_eq_none hk] at hs) (fun x => by injection x with x; exact e x))]
      exact hs
  free := fun k o hk => by
    by_cases e : k = b
    · subst e
      rw [h.free, h'.free]
    · unfold World.frozen?
      rw [hg.block k hk (fun x => by injection x with x; exact e x)]
section
variable {C : Stor} {w X X' : World} {L : Lay14} {Z Z' : Nat → Prop} {g : Geo} {l : List Ino} {fs fs' bl bl' : List (List UInt8)}
theorem PlW.below (K : FileC C) (h : PlW C w X L Z g l fs bl) (hb : Below X.heap.size X X') : PlW C w X' L Z g l fs bl :=
  ⟨h.geo.below hb h.geo.lt, h.fl.below hb, fun i x hi => (h.ino i x hi).stay hb, h.four, h.sto.stay K hb, h.own, h.dis⟩
theorem PlW.also (K : FileC C) (h : PlW C w X L Z g l fs bl) (hb : Below X.heap.size X X') (Z' : Nat → Prop) (hZ : ∀ k, Z' k → Z k ∨ (X.heap.size ≤ k ∧ k < X'.heap.size)) : PlW C w X' L Z' g l fs bl :=
  ⟨h.geo.below hb h.geo.lt, h.fl.below hb, fun i x hi => (h.ino i x hi).stay hb, h.four, h.sto.also K hb _ fun k hk => by
    rcases hk with hk | hk
    · exact .inl (.inl hk)
    · exact (hZ k hk).imp .inr id, h.own, h.dis⟩
theorem PlW.called (h : PlW C w X L Z g l fs bl) (hs : Sto C w X' (fun k => L.Y k ∨ Z k) L.m bl') (hc : Chg (FrmF w (fun k => L.Y k ∨ Z k)) X X') : PlW C w X' L Z g l fs bl' :=
  have n1 : ∀ j, ¬ FrmF w (fun k => L.Y k ∨ Z k) L.gb j := fun _ k => k.2 (.inl (.inl rfl))
  have n2 : ∀ j, ¬ FrmF w (fun k => L.Y k ∨ Z k) L.ob j := fun _ k => k.2 (.inl (.inr (.inl rfl)))
  have n3 : ∀ j, ¬ FrmF w (fun k => L.Y k ∨ Z k) L.lb j := fun _ k => k.2 (.inl (.inr (.inr (.inl rfl))))
  have n4 : ∀ j, ¬ FrmF w (fun k => L.Y k ∨ Z k) L.ib j := fun _ k => k.2 (.inl (.inr (.inr (.inr rfl))))
  ⟨h.geo.chg hc n1, h.fl.chg hc n2 n3, fun i x hi => (h.ino i x hi).chg hc fun _ _ => n4 _, h.four, hs, h.own, h.dis⟩
theorem PlW.ref (K : FileC C) (h : PlW C w X L Z g l fs bl) (hf : FlAt X' L.ob L.lb g fs') (hg : X.grownBy X' (some L.lb)) : PlW C w X' L Z g l fs' bl := by
  have hc : Chg (fun k _ => k = L.lb) X X' := chg_row hg h.fl.row hf.row (by rw [List.length_map, List.length_map, hf.four, h.fl.four])
  exact ⟨h.geo.chg hc fun _ => h.dis.1, hf, fun i x hi => (h.ino i x hi).chg hc fun _ _ => h.dis.2.1, h.four, h.sto.wrote K hc fun _ _ _ e => ⟨.inl (.inr (.inr (.inl e))), e ▸ h.own.2.2.1⟩, h.own, h.dis⟩
/-- A block of Z is turned. -/
theorem PlW.wroteZ (K : FileC C) (h : PlW C w X L Z g l fs bl) {b : Nat} (hz : Z b) (hw : w.heap.size ≤ b) (hb : ¬ L.Y b) (hc : Chg (fun k _ => k = b) X X') : PlW C w X' L Z g l fs bl :=
  have ne : ∀ k, L.Y k → Nat → ¬ k = b := fun _ hk _ e => hb (e ▸ hk)
  ⟨h.geo.chg hc (ne _ (.inl rfl)), h.fl.chg hc (ne _ (.inr (.inl rfl))) (ne _ (.inr (.inr (.inl rfl)))), fun i x hi => (h.ino i x hi).chg hc fun j _ => ne _ (.inr (.inr (.inr rfl))) j, h.four,
    h.sto.wrote K hc fun _ _ _ e => ⟨.inr (e ▸ hz), e ▸ hw⟩, h.own, h.dis⟩
/-- An inode is laid anew. -/
theorem PlW.put (K : FileC C) (h : PlW C w X L Z g l fs bl) {f : Nat} (hf : f < 4) (r : Ino) : PlW C w (X.setCells L.ib (f * 7) (r.l.map VI)) L Z g (l.set f r) fs bl ∧ Chg (fun k _ => k = L.ib) X (X.setCells L.ib (f * 7) (r.l.map VI)) := by
  have hlf : f < l.length := by rw [h.four]; exact hf
  have h0 := h.ino f _ (List.getElem?_eq_getElem hlf)
  have e7 : ∀ y : Ino, (y.l.map VI).length = 7 := fun y => by rw [List.length_map, l_len]
  have hc0 : Chg (fun k o => k = L.ib ∧ f * 7 ≤ o ∧ o < f * 7 + 7) X (X.setCells L.ib (f * 7) (r.l.map VI)) :=
    (Chg.refl _ X).setCells (fun j hj _ => ⟨rfl, by omega, by rw [e7] at hj; omega⟩) (by have := h0.2; rwa [e7] at this ⊢)
  have hc : Chg (fun k _ => k = L.ib) X (X.setCells L.ib (f * 7) (r.l.map VI)) := hc0.mono fun _ _ _ hs => hs.1
  have hset := h0.set (r.l.map VI) (by rw [e7, e7])
  clear h0
  generalize X.setCells L.ib (f * 7) (r.l.map VI) = X' at *
  refine ⟨⟨h.geo.chg hc fun _ => h.dis.2.2.2.1, h.fl.chg hc (fun _ => h.dis.2.2.2.2.1) fun _ e => h.dis.2.1 e.symm, fun i x hi => ?_, by rw [List.length_set]; exact h.four, h.sto.wrote K hc fun _ _ _ e => ⟨.inl (.inr (.inr (.inr e))), e ▸ h.own.2.2.2⟩, h.own, h.dis⟩, hc⟩
  by_cases e : i = f
  · subst e
    rw [List.getElem?_set_self hlf] at hi
    injection hi with hi
    subst hi
    exact hset
  · rw [List.getElem?_set_ne (fun x => e x.symm)] at hi
    exact (h.ino i x hi).chg hc0 fun j hj hs => by rw [e7] at hj; omega
theorem PlW.sees (h : PlW C w X L Z g l fs bl) : L.ib < X.heap.size ∧ Sees X L.ib 0 (inosC l) := by
  have h0 := h.ino 0 _ (List.getElem?_eq_getElem (by rw [h.four]; omega))
  refine ⟨h0.lt (by rw [List.length_map, l_len]; omega), fun j u hu => ?_⟩
  have hj : j < 7 * l.length := by
    have := (List.getElem?_eq_some_iff.1 hu).1
    rwa [inosC_length] at this
  obtain ⟨i, q, rfl, hq⟩ : ∃ i q, j = 7 * i + q ∧ q < 7 := ⟨j / 7, j % 7, by omega, by omega⟩
  have hi : i < l.length := by omega
  have hx := List.getElem?_eq_getElem hi
  rw [inosC_at l i q _ hx hq] at hu
  have hc := (h.ino i _ hx).cell (j := q) (v := VI ((l[i]).l.getD q 0)) (by
    rw [List.getElem?_map, List.getD_eq_getElem?_getD, List.getElem?_eq_getElem (by rw [l_len]; exact hq)]
    rfl)
  rw [← hu, Nat.zero_add, Nat.mul_comm]
  exact hc
end
end Go.Proofs.Ytiafmghdiidniaa
