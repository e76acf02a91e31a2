/-
  OF THE WALK: DE, SB, KA, MrMA.
-/
import Derived.Test.YthbmknpbcgnabaaGreatDoorP06
import Derived.Test.YthbmknpbcgnabaaGreatDoorP08
import Derived.Test.YthbmknpbcgnabaaGreatDoorP09
import Derived.Test.YthbmknpbcgnabaaGreatDoorP13
import Derived.Test.YthbmknpbcgnabaaGreatDoorP14
namespace Go.Proofs.YthbmknpbcgnabaaGreatDoor
open Go.RowKit Dsk
section
variable {w w' : World} {F F' : Nat → Prop} {D g : Nat} {ps ps' : Nat → Nat} {L L' : List Blk} {S : Nat → Nat → Prop}
theorem DiskW.update (h : DiskW w F D g ps L) (hc : Chg S w w') (T : Nat → Prop)
    (hS : ∀ k o, S k o → (k = g ∧ ∃ i, T i ∧ i * 145 ≤ o ∧ o < i * 145 + 145) ∨ ∃ (i : Nat) (b : Blk), T i ∧ L[i]? = some b ∧ b.dirty = true ∧ k = ps i)
    (hlen : L'.length = L.length) (hsame : ∀ i, ¬ T i → L'[i]? = L[i]? ∧ ps' i = ps i)
    (hT : ∀ (i : Nat) (b' : Blk), T i → L'[i]? = some b' → b'.ok ∧ Here w' g (i * 145) (cellsB b' (ps' i)) ∧
      (b'.dirty = true → Here w' (ps' i) 0 (b'.cur.map V8) ∧ ((ps' i = ps i ∧ ∃ b : Blk, L[i]? = some b ∧ b.dirty = true) ∨ (w.heap.size ≤ ps' i ∧ F' (ps' i)))))
    (hinj : ∀ (i j : Nat) (b c : Blk), T i → T j → L'[i]? = some b → L'[j]? = some c → b.dirty = true → c.dirty = true → w.heap.size ≤ ps' i → ps' i = ps' j → i = j)
    (hF : ∀ k, F k → F' k) (hF' : ∀ k, F' k → k < w'.heap.size) : DiskW w' F' D g ps' L' := by
  have hD := h.lt D h.fD
  have hG := h.lt g h.fg
  have hold : ∀ (i : Nat) (b' : Blk), L'[i]? = some b' → b'.dirty = true → (ps' i = ps i ∧ ∃ b : Blk, L[i]? = some b ∧ b.dirty = true) ∨ (T i ∧ w.heap.size ≤ ps' i ∧ F' (ps' i)) := fun i b' hb hd => by
    by_cases hi : T i
    · rcases ((hT i b' hi hb).2.2 hd).2 with h1 | h1
      · exact .inl h1
      · exact .inr ⟨hi, h1⟩
    · exact .inl ⟨(hsame i hi).2, b', by rw [← (hsame i hi).1]; exact hb, hd⟩
  have hpsl : ∀ (i : Nat) (b : Blk), L[i]? = some b → b.dirty = true → ps i < w.heap.size := fun i b hb hd => h.lt _ (h.apart i b hb hd).2.2
  refine ⟨?_, fun i b hb => ?_, fun i b hb hd => ?_, fun i b hb => ?_, fun i j b c hb hc' hd hd' e => ?_, fun i b hb hd => ?_, h.dg, hF _ h.fD, hF _ h.fg, hF', by rw [hlen]; exact h.few⟩
  · rw [hlen]
    refine h.head.chg hc fun j hj hs => ?_
    rcases hS _ _ hs with ⟨e, _⟩ | ⟨i, b, _, hb, hd, e⟩
    · exact h.dg e
    · exact (h.apart i b hb hd).1 e.symm
  · by_cases hi : T i
    · exact (hT i b hi hb).2.1
    · have h1 := hsame i hi
      rw [h1.1] at hb
      rw [h1.2]
      refine (h.row i b hb).chg hc fun j hj hs => ?_
      rw [cellsB_length (h.ok i b hb)] at hj
      rcases hS _ _ hs with ⟨_, i', hi', h2, h3⟩ | ⟨i', b', _, hb', hd, e⟩
      · have : i = i' := by omega
        exact hi (this ▸ hi')
      · exact (h.apart i' b' hb' hd).2.1 e.symm
  · by_cases hi : T i
    · exact ((hT i b hi hb).2.2 hd).1
    · have h1 := hsame i hi
      rw [h1.1] at hb
      rw [h1.2]
      refine (h.wr i b hb hd).chg hc fun j hj hs => ?_
      rcases hS _ _ hs with ⟨e, _⟩ | ⟨i', b', hi', hb', hd', e⟩
      · exact (h.apart i b hb hd).2.1 e
      · exact hi (h.inj i i' b b' hb hb' hd hd' e ▸ hi')
  · by_cases hi : T i
    · exact (hT i b hi hb).1
    · rw [(hsame i hi).1] at hb; exact h.ok i b hb
  · rcases hold i b hb hd with ⟨e1, b1, hb1, hd1⟩ | ⟨t1, n1, _⟩ <;> rcases hold j c hc' hd' with ⟨e2, b2, hb2, hd2⟩ | ⟨t2, n2, _⟩
    · exact h.inj i j b1 b2 hb1 hb2 hd1 hd2 (by rw [← e1, ← e2, e])
    · have := hpsl i b1 hb1 hd1; omega
    · have := hpsl j b2 hb2 hd2; omega
    · exact hinj i j b c t1 t2 hb hc' hd hd' n1 e
  · rcases hold i b hb hd with ⟨e1, b1, hb1, hd1⟩ | ⟨t1, n1, f1⟩
    · rw [e1]
      have := h.apart i b1 hb1 hd1
      exact ⟨this.1, this.2.1, hF _ this.2.2⟩
    · exact ⟨by omega, by omega, f1⟩
theorem DiskW.one (h : DiskW w F D g ps L) (hc : Chg S w w') (i : Nat) {b b' : Blk} (hb : L[i]? = some b) (q : Nat)
    (hS : ∀ k o, S k o → (k = g ∧ i * 145 ≤ o ∧ o < i * 145 + 145) ∨ (b.dirty = true ∧ k = ps i))
    (hok : b'.ok) (hrow : Here w' g (i * 145) (cellsB b' q))
    (hwr : b'.dirty = true → Here w' q 0 (b'.cur.map V8) ∧ ((q = ps i ∧ b.dirty = true) ∨ (w.heap.size ≤ q ∧ F' q)))
    (hF : ∀ k, F k → F' k) (hF' : ∀ k, F' k → k < w'.heap.size) : DiskW w' F' D g (fun j => if j = i then q else ps j) (L.set i b') := by
  have hi := (List.getElem?_eq_some_iff.1 hb).1
  refine h.update hc (fun j => j = i) (fun k o hs => ?_) (by simp) (fun j hj => ?_) (fun j c hj hc' => ?_) (fun j k _ _ hj hk _ _ _ _ _ _ => by rw [hj, hk]) hF hF'
  · rcases hS k o hs with ⟨e, h1⟩ | ⟨hd, e⟩
    · exact .inl ⟨e, i, rfl, h1⟩
    · exact .inr ⟨i, b, rfl, hb, hd, e⟩
  · exact ⟨by rw [List.getElem?_set_ne (fun e => hj e.symm)], if_neg hj⟩
  · subst hj
    rw [List.getElem?_set_self hi] at hc'
    injection hc' with hc'
    subst hc'
    simp only [if_true]
    refine ⟨hok, hrow, fun hd => ?_⟩
    obtain ⟨h1, h2⟩ := hwr hd
    refine ⟨h1, ?_⟩
    rcases h2 with ⟨e, h2⟩ | h2
    · exact .inl ⟨e, b, hb, h2⟩
    · exact .inr h2
theorem DiskW.stay (h : DiskW w F D g ps L) (hc : Chg S w w') (hS : ∀ k o, F k → ¬ S k o) : DiskW w' F D g ps L := by
  refine ⟨h.head.chg hc fun j _ => hS _ _ h.fD, fun i b hb => (h.row i b hb).chg hc fun j _ => hS _ _ h.fg, fun i b hb hd => (h.wr i b hb hd).chg hc fun j _ => hS _ _ (h.apart i b hb hd).2.2, h.ok, h.inj, h.apart, h.dg, h.fD, h.fg, fun k hk => Nat.lt_of_lt_of_le (h.lt k hk) hc.size, h.few⟩
end
def DiskAt (w : World) (F : Nat → Prop) (D : Nat) (L : List Blk) : Prop := ∃ g ps, DiskW w F D g ps L
def After (w : World) (F : Nat → Prop) (w' : World) (D : Nat) (L : List Blk) : Prop := ∃ F', DiskAt w' F' D L ∧ (∀ k, F' k → F k ∨ w.heap.size ≤ k) ∧ Chg (fun k _ => F k) w w'
theorem DiskAt.stay {w w' : World} {F : Nat → Prop} {D : Nat} {L : List Blk} {S : Nat → Nat → Prop} (h : DiskAt w F D L) (hc : Chg S w w') (hS : ∀ k o, F k → ¬ S k o) : DiskAt w' F D L := by
  obtain ⟨g, ps, h⟩ := h
  exact ⟨g, ps, h.stay hc hS⟩
theorem DiskAt.below {w w' : World} {F : Nat → Prop} {D : Nat} {L : List Blk} (h : DiskAt w F D L) (hc : Below w.heap.size w w') : DiskAt w' F D L := h.stay (Chg.below hc fun _ _ => False) fun _ _ _ x => x
theorem DiskAt.after {w : World} {F : Nat → Prop} {D : Nat} {L : List Blk} (h : DiskAt w F D L) : After w F w D L := ⟨F, h, fun _ hk => .inl hk, Chg.refl _ _⟩
theorem After.trans {a w w' : World} {F F1 : Nat → Prop} {D : Nat} {L1 : List Blk} (hF : ∀ k, F1 k → F k ∨ a.heap.size ≤ k) (hc : Chg (fun k _ => F k) a w) (h : After w F1 w' D L1) : After a F w' D L1 := by
  obtain ⟨F2, h1, h2, h3⟩ := h
  refine ⟨F2, h1, fun k hk => ?_, hc.trans h3 fun b _ hb hf => ?_⟩
  · rcases h2 k hk with h | h
    · exact hF k h
    · exact .inr (Nat.le_trans hc.size h)
  · rcases hF b hf with h | h
    · exact h
    · omega
namespace Dsk
def getB (L : List Blk) (i : Int) : Option Blk := if 0 ≤ i then L[i.toNat]? else none
def upd1 (L : List Blk) (i : Int) (f : Blk → Blk) : List Blk := match getB L i with
  | some b => L.set i.toNat (f b)
  | none => L
theorem getB_nat {L : List Blk} {i : Int} {b : Blk} (h : getB L i = some b) : ∃ n : Nat, i = n ∧ L[n]? = some b := by
  unfold getB at h
  split at h
  · exact ⟨i.toNat, by omega, h⟩
  · cases h
theorem getB_none {L : List Blk} {i : Int} (h : getB L i = none) : i < 0 ∨ (L.length : Int) ≤ i := by
  unfold getB at h
  split at h
  · rw [List.getElem?_eq_none_iff] at h; omega
  · omega
theorem getB_ofNat (L : List Blk) (n : Nat) : getB L (n : Int) = L[n]? := by unfold getB; rw [if_pos (by omega)]; rfl
theorem upd1_some {L : List Blk} {i : Nat} {b : Blk} (h : L[i]? = some b) (f : Blk → Blk) : upd1 L i f = L.set i (f b) := by
  unfold upd1
  rw [getB_ofNat, h]; rfl
theorem upd1_length (L : List Blk) (i : Int) (f : Blk → Blk) : (upd1 L i f).length = L.length := by
  unfold upd1
  split <;> simp
def okW (L : List Blk) (i : Int) (bs : List UInt8) : Bool := (getB L i).isSome && decide (bs.length = 72)
def writeL (L : List Blk) (i : Int) (bs : List UInt8) : List Blk := if okW L i bs then upd1 L i (·.write bs) else L
end Dsk
end Go.Proofs.YthbmknpbcgnabaaGreatDoor
namespace Go.Proofs.YthbmknpbcgnabaaGreatDoor
open Go.RowKit Aes Ctr Sl
theorem Row.own {w : World} {g B n : Nat} {cs : List Value} (h : Row w g 5 cs) (hB : B ≤ g) (hn : cs.length = n) (hm : n ≤ 1000000) : Own w B 5 (.slice (some ⟨g, 0, none⟩) n n) cs := by
  subst hn
  refine ⟨by simp, .inr ⟨g, cs.length, cs.toArray, rfl, hB, h, Nat.le_refl _, by simp only [maxLen]; omega, by simp, by simp⟩⟩
theorem run_mark (g n c : Nat) (bs : List UInt8) (W : World) (h : Row W g 5 (bs.map V8)) : (convert 22 22 (.slice (some ⟨g, 0, none⟩) n c)).run Tryz.prog W = .ok (.slice (some ⟨g, 0, none⟩) n c) (W.freeze ⟨g, bs.length, none⟩ 1) := by
  have hsh : W.shape? g = some (5, bs.length) := by
    have h' : W.heap[g]? = some (.cells (bs.map V8).toArray 5 (0, 0)) := h
    unfold World.shape?
    rw [h']
    simp
  simp [convert, run_underlying Tryz.underlying22, run_underlying Tryz.underlying5, markStringish, hsh]
theorem mark_heap (W : World) (g k j : Nat) (hj : j ≠ g) : (W.freeze ⟨g, k, none⟩ 1).heap[j]? = W.heap[j]? := by
  unfold World.freeze
  rw [if_neg (by decide)]
  show (W.heap.modify g _)[j]? = _
  rw [Array.getElem?_modify, if_neg (fun e => hj e.symm)]
theorem mark_size (W : World) (g k : Nat) : (W.freeze ⟨g, k, none⟩ 1).heap.size = W.heap.size := by
  unfold World.freeze
  rw [if_neg (by decide)]
  show (W.heap.modify g _).size = _
  simp
theorem mark_below (W : World) (B g k : Nat) (hB : B ≤ g) : Below B W (W.freeze ⟨g, k, none⟩ 1) := by
  refine ⟨?_, ?_, ?_, by rw [mark_size]; exact Nat.le_refl _, fun j hj => mark_heap W g k j (by omega)⟩ <;> (unfold World.freeze; rw [if_neg (by decide)])
theorem mark_cell (W : World) (g k : Nat) (p : Addr) : (W.freeze ⟨g, k, none⟩ 1).cell? p = W.cell? p := by
  rcases Nat.lt_trichotomy p.block g with h | h | h
  · exact World.cell?_of_block (mark_heap W g k p.block (by omega))
  · unfold World.freeze
    rw [if_neg (by decide)]
    unfold World.cell?
    show (match (W.heap.modify g _)[p.block]? with | some (.cells c _ _) => if p.spot.isSome then none else c[p.off]? | _ => none) = _
    rw [Array.getElem?_modify, if_pos h.symm]
    cases hq : W.heap[p.block]? with
    | none => rfl
    | some o => cases o <;> rfl
  · exact World.cell?_of_block (mark_heap W g k p.block (by omega))
theorem Arg.mark {W : World} {v : Value} {bs : List UInt8} (h : Arg W v bs) (g k : Nat) : Arg (W.freeze ⟨g, k, none⟩ 1) v bs := by
  rcases h with h | ⟨b, o, c, e, hb, hc, hs⟩
  · exact .inl h
  · exact .inr ⟨b, o, c, e, by rw [mark_size]; exact hb, hc, fun j u hu => (mark_cell W g k _).trans (hs j u hu)⟩
theorem mark_arg (W : World) (g k : Nat) {t : TypeId} {bs : List UInt8} (h : Row W g t (bs.map V8)) (n : Nat) (hn : bs.length = n) : Arg (W.freeze ⟨g, k, none⟩ 1) (.slice (some ⟨g, 0, none⟩) n n) bs := (h.arg n hn).mark g k
theorem vals3 {w : World} {v1 v2 v3 : Value} {p1 p2 p3 : List UInt8} (h1 : Arg w v1 p1) (h2 : Arg w v2 p2) (h3 : Arg w v3 p3) : Hm.Vals w [v1, v2, v3] [p1, p2, p3] := by
  refine ⟨rfl, fun j v p hv hp => ?_⟩
  match j with
  | 0 => simp only [List.getElem?_cons_zero, Option.some.injEq] at hv hp; subst hv hp; exact h1
  | 1 => simp only [List.getElem?_cons_succ, List.getElem?_cons_zero, Option.some.injEq] at hv hp; subst hv hp; exact h2
  | 2 => simp only [List.getElem?_cons_succ, List.getElem?_cons_zero, Option.some.injEq] at hv hp; subst hv hp; exact h3
  | j + 3 => simp at hv
theorem parts3 {w : World} {v1 v2 v3 : Value} {p1 p2 p3 : List UInt8} (h1 : Arg w v1 p1) (h2 : Arg w v2 p2) (h3 : Arg w v3 p3) :
    Hm.Parts (w.alloc (.cells #[v1, v2, v3] 22)) (.slice (some ⟨w.heap.size, 0, none⟩) 3 3) [p1, p2, p3] :=
  ⟨_, 3, [v1, v2, v3], rfl, Hm.Vals.below (vals3 h1 h2 h3) ((Below.refl _ _).alloc (Nat.le_refl _) _), fun _ => ⟨w.heap.size, 0, rfl, by simp, (Row.new w 22 [v1, v2, v3]).sees⟩⟩
theorem parts1 {w : World} {v1 : Value} {p1 : List UInt8} (h1 : Arg w v1 p1) :
    Hm.Parts (w.alloc (.cells #[v1] 22)) (.slice (some ⟨w.heap.size, 0, none⟩) 1 1) [p1] := by
  refine ⟨_, 1, [v1], rfl, Hm.Vals.below (w := w) ⟨rfl, fun j v p hv hp => ?_⟩ ((Below.refl _ _).alloc (Nat.le_refl _) _), fun _ => ⟨w.heap.size, 0, rfl, by simp, (Row.new w 22 [v1]).sees⟩⟩
  match j with
  | 0 => simp only [List.getElem?_cons_zero, Option.some.injEq] at hv hp; subst hv hp; exact h1
  | j + 1 => simp at hv
def KeysV (ek mk : List UInt8) (ks : List Value) : Prop := ks = (ek ++ mk).map V8 ∧ ek.length = 16 ∧ mk.length = 32
section
variable {ek mk : List UInt8} {ks : List Value}
theorem KeysV.vec (h : KeysV ek mk ks) : Vec 48 (ek ++ mk) ks := ⟨h.1, by rw [List.length_append, h.2.1, h.2.2]⟩
theorem KeysV.size (h : KeysV ek mk ks) : ks.toArray.size = 48 := h.vec.size
theorem KeysV.enc {w : World} {g : Nat} {t : TypeId} (h : KeysV ek mk ks) (hr : Row w g t ks) : Arg w (.slice (some ⟨g, 0, none⟩) 16 16) ek := by
  refine .inr ⟨g, 0, 16, by rw [h.2.1], hr.lt, by rw [h.2.1]; omega, ?_⟩
  have := (h.1 ▸ hr : Row w g t ((ek ++ mk).map V8)).sees.piece 0 16
  rwa [Nat.zero_add, List.drop_zero, ← List.map_take, List.take_append_of_le_length (by rw [h.2.1]; omega), List.take_of_length_le (by rw [h.2.1]; omega)] at this
theorem KeysV.mac {w : World} {g : Nat} {t : TypeId} (h : KeysV ek mk ks) (hr : Row w g t ks) : Arg w (.slice (some ⟨g, 16, none⟩) 32 32) mk := by
  refine .inr ⟨g, 16, 32, by rw [h.2.2], hr.lt, by rw [h.2.2]; omega, ?_⟩
  have := (h.1 ▸ hr : Row w g t ((ek ++ mk).map V8)).sees.tail 16
  rwa [Nat.zero_add, ← List.map_drop, List.drop_append_of_le_length (by rw [h.2.1]; omega), List.drop_of_length_le (by rw [h.2.1]; omega), List.nil_append] at this
end
set_option maxRecDepth 100000 in
set_option maxHeartbeats 400000 in
theorem SputN_any (n x : Nat) (hx : x < 2 ^ 64) (hn : n ≤ 8) (w : World) :
    Calls Tryz.prog 73 #[.int .u64 x, .int .i64 n] w fun e w' => e = .returned (.slice (some ⟨w.heap.size, 0, none⟩) n n) ∧ Hid (Row w' w.heap.size 5 ((big n x).map V8)) ∧ Below w.heap.size w w' := by
  obtain ⟨zs, hzs⟩ : ∃ zs, zs = (List.replicate n (0 : UInt8)).map V8 := ⟨_, rfl⟩
  have hmk : ∀ W, (Instr.makeSlice 22 (.int .i64 (n : Int)) (.int .i64 (n : Int))).run Tryz.prog W = .ok (.slice (some ⟨W.heap.size, 0, none⟩) n n) (W.alloc (.cells zs.toArray 5)) := fun W => by rw [hzs]; exact made_n n (by omega) W
  have HR : Hid (Row (w.alloc (.cells zs.toArray 5)) w.heap.size 5 ((List.replicate n (0 : UInt8)).map V8)) := by
    show Row _ _ _ _
    rw [← hzs]; exact Row.new w _ zs
  have HB0 : Hid (Below w.heap.size w (w.alloc (.cells zs.toArray 5))) := (Below.refl _ _).alloc (Nat.le_refl _) _
  have Hfin : Hid (putK (List.replicate n 0) 0 n x = big n x) := by
    show _ = _
    have := put_mid n [] (List.replicate n 0) [] x (by simp)
    simpa [putK] using this
  clear hzs
  go_enter Tryz.func73, Tryz.ntmps73
  go_wp2
  go_loopw [0, 6] (fun y i wr => ∃ (k z : Nat) (m : List UInt8), k ≤ n ∧ i = .int .i64 ((k : Int) - 1) ∧ y = .int .u64 z ∧ z < 2 ^ 64 ∧ Hid (m.length = n) ∧ Hid (putK m 0 k z = putK (List.replicate n 0) 0 n x) ∧ Hid (Row wr w.heap.size 5 (m.map V8)) ∧ Below w.heap.size w wr) (fun _ i _ => (intOf i + 1).toNat)
  case atStart => exact ⟨n, x, List.replicate n 0, Nat.le_refl _, rfl, rfl, hx, List.length_replicate, rfl, HR, HB0.out⟩
  case round =>
    obtain ⟨k, z, m, hk, rfl, rfl, hz, Hml, Hput, Hrow, hgr⟩ := hrel
    clear HR HB0 hmk
    rcases Nat.eq_zero_or_pos k with rfl | hpos
    · go_wp2
      rw [putK_zero] at Hput
      have e := Hput.out.trans Hfin.out
      go_ret
      exact ⟨rfl, by rw [← e]; exact Hrow, hgr⟩
    · obtain ⟨j, rfl⟩ : ∃ j, k = j + 1 := ⟨k - 1, by omega⟩
      have e1 : ((j + 1 : Nat) : Int) - 1 = (j : Int) := by omega
      rw [e1]
      have c0 : wr.cell? ⟨w.heap.size, j, none⟩ = some (.int .u8 (m.getD j 0).toNat) := by
        have := row8 Hrow.out j (by rw [Hml.out]; omega)
        exact this
      have f0 := Hrow.out.free j
      rw [putK_succ, Nat.zero_add] at Hput
      generalize (m.getD j 0).toNat = y at *
      clear e1
      go_wp2
      go_roundw
      case rel =>
        refine ⟨j, z / 256, m.set j (UInt8.ofNat z), by omega, rfl, by rw [Int.natCast_ediv]; rfl, by omega, ?_, Hput, ?_, hgr.setCell (Nat.le_refl _) _⟩
        · show _ = _
          rw [List.length_set]; exact Hml.out
        · show Row _ _ _ _
          rw [List.map_set, byte_eq z]
          exact Hrow.out.set j _
      case measure => simp only [intOf]; omega
theorem SputN_at (n x : Nat) (z : Int) (hz : z = ((x : Nat) : Int)) (hx : x < 2 ^ 64) (hn : n ≤ 8) (w : World) :
    Calls Tryz.prog 73 #[.int .u64 z, .int .i64 n] w fun e w' => e = .returned (.slice (some ⟨w.heap.size, 0, none⟩) n n) ∧ Hid (Row w' w.heap.size 5 ((big n x).map V8)) ∧ Below w.heap.size w w' := by
  subst hz
  exact SputN_any n x hx hn w
theorem SputN_4 (x : Nat) (z : Int) (hz : z = ((x : Nat) : Int)) (hx : x < 2 ^ 64) (w : World) :
    Calls Tryz.prog 73 #[.int .u64 z, .int .i64 4] w fun e w' => e = .returned (.slice (some ⟨w.heap.size, 0, none⟩) 4 4) ∧ Hid (Row w' w.heap.size 5 ((big 4 x).map V8)) ∧ Below w.heap.size w w' := SputN_at 4 x z hz hx (by omega) w
theorem SputN_8 (x : Nat) (hx : x < 2 ^ 64) (w : World) :
    Calls Tryz.prog 73 #[.int .u64 (x : Int), .int .i64 8] w fun e w' => e = .returned (.slice (some ⟨w.heap.size, 0, none⟩) 8 8) ∧ Hid (Row w' w.heap.size 5 ((big 8 x).map V8)) ∧ Below w.heap.size w w' := SputN_at 8 x _ rfl hx (by omega) w
theorem nm_wrap (d : Int) : IntKind.u64.wrap d = ((nm d : Nat) : Int) := by rw [IntKind.wrap_u64, nm_int]
theorem or_byte (a x : Nat) (ha : a < 2 ^ 56) (hx : x < 256) : bits .or .u64 ((a : Int) * 256) (x : Int) = ((a * 256 + x : Nat) : Int) := by
  have e : (a : Int) * 256 = ((a * 256 : Nat) : Int) := by omega
  rw [e, u64_or_nat _ _ (by omega) (by omega)]
  congr 1
  have := Nat.shiftLeft_add_eq_or_of_lt (i := 8) (by omega : x < 2 ^ 8) a
  rw [Nat.shiftLeft_eq] at this
  exact this.symm
set_option maxRecDepth 100000 in
set_option maxHeartbeats 400000 in
theorem SgetN_any (b : List UInt8) (hb8 : b.length ≤ 8) (v : Value) (w : World) (h : Arg w v b) :
    Calls Tryz.prog 93 #[v] w fun e w' => e = .returned (.int .u64 ((num b : Nat) : Int)) ∧ Below w.heap.size w w' := by
  obtain ⟨A, cap, rfl⟩ := h.form
  obtain ⟨n, hnl⟩ : ∃ n, n = b.length := ⟨_, rfl⟩
  have HS : Hid (∀ j, j < n → ∃ bb o, A = some ⟨bb, o, none⟩ ∧ w.cell? ⟨bb, o + j, none⟩ = some (.int .u8 (b.getD j 0).toNat)) := fun j hj => by
    rcases h with ⟨A', e, rfl⟩ | ⟨bb, o, c, e, hbb, _, hs⟩
    · simp at hnl; omega
    · injection e with e1 _ _
      exact ⟨bb, o, e1, at8 hs j (by omega)⟩
  rw [← hnl] at hb8 ⊢
  have HNl := Lib.hid hnl
  clear hnl h
  go_enter Tryz.func93, Tryz.ntmps93
  go_wp2
  go_loop [3, 8] (fun s i => ∃ (k a : Nat), k ≤ n ∧ i = .int .i64 k ∧ s = .int .u64 a ∧ Hid (a = num (b.take k))) (fun _ i => n - (intOf i).toNat)
  case atStart => exact ⟨0, 0, by omega, rfl, rfl, by show _ = _; simp [num]⟩
  case round =>
    obtain ⟨k, a, hk, rfl, rfl, Ha⟩ := hrel
    by_cases hlt : k < n
    · obtain ⟨bb, o, rfl, hx⟩ := HS.out k hlt
      have Htk := Lib.hid (num_take b k (by rw [← HNl.out]; exact hlt))
      have ha : a < 2 ^ 56 := by
        rw [Ha.out]
        have h1 := num_lt (b.take k) 7 (by rw [List.length_take]; omega)
        have : (256 : Nat) ^ 7 = 2 ^ 56 := by decide
        omega
      clear HS
      generalize b.getD k 0 = x at *
      have hx8 := lt8 x
      have Hor := Lib.hid (or_byte a x.toNat ha hx8)
      go_wp2
      go_round
      case rel =>
        refine ⟨k + 1, a * 256 + x.toNat, by omega, by go_num, ?_, ?_⟩
        · rw [Hor.out]
        · show _ = _
          rw [Htk.out, Ha.out]
      case measure => simp [intOf]; omega
    · obtain rfl : k = n := by omega
      go_wp2
      go_ret
      rw [Ha.out, HNl.out, List.take_length]
      exact ⟨rfl, Below.refl _ _⟩
end Go.Proofs.YthbmknpbcgnabaaGreatDoor
namespace Go.Proofs.YthbmknpbcgnabaaGreatDoor
namespace Cdc
def big : Nat → Nat → List UInt8
  | 0, _ => []
  | k + 1, n => big k (n / 256) ++ [UInt8.ofNat n]
theorem big_length (k : Nat) : ∀ n, (big k n).length = k := by
  induction k with
  | zero => intro n; rfl
  | succ k ih => intro n; simp [big, ih]
def num : Nat → List UInt8 → Nat
  | acc, [] => acc
  | acc, x :: l => num (acc * 256 + x.toNat) l
theorem num_append (l : List UInt8) : ∀ (acc : Nat) (x : UInt8), num acc (l ++ [x]) = num acc l * 256 + x.toNat := by
  induction l with
  | nil => intro acc x; rfl
  | cons y l ih => intro acc x; exact ih _ _
theorem num_lt (l : List UInt8) : ∀ acc c, acc < c → num acc l < c * 256 ^ l.length := by
  induction l with
  | nil => intro acc c h; simpa [num] using h
  | cons x l ih =>
    intro acc c h
    have hx := lt8 x
    have := ih (acc * 256 + x.toNat) (c * 256) (by omega)
    rw [num, List.length_cons, Nat.pow_succ, Nat.mul_comm (256 ^ l.length) 256, ← Nat.mul_assoc]
    exact this
theorem num_big (k : Nat) : ∀ n, n < 256 ^ k → num 0 (big k n) = n := by
  induction k with
  | zero => intro n h; simp at h; simp [big, num, h]
  | succ k ih =>
    intro n h
    rw [Nat.pow_succ] at h
    rw [big, num_append, ih (n / 256) (by omega), UInt8.toNat_ofNat']
    omega
def okw (x : Int) : Bool := decide (1 ≤ x) && decide (x ≤ 8)
def sumw : List Int → Nat
  | [] => 0
  | x :: l => x.toNat + sumw l
def wide (ws : List Int) : Int := if ws.all okw = true then (sumw ws : Int) else -1
theorem or_byte (a x : Nat) (ha : a < 2 ^ 56) (hx : x < 256) : bits .or .u64 ((a : Int) * 256) (x : Int) = ((a * 256 + x : Nat) : Int) := by
  have e : (a : Int) * 256 = ((a * 256 : Nat) : Int) := by omega
  rw [e, u64_or_nat _ _ (by omega) (by omega)]
  congr 1
  have := Nat.shiftLeft_add_eq_or_of_lt (i := 8) (by omega : x < 2 ^ 8) a
  rw [Nat.shiftLeft_eq] at this
  exact this.symm
end Cdc
def errI (ok : Bool) : Int := if ok then 0 else 1
theorem From.parts {w : World} {v : Value} {ys : List Value} (h : From w v ys) : ∃ A cap, v = .slice A ys.length cap ∧ (0 < ys.length → ∃ b o, A = some ⟨b, o, none⟩ ∧ b < w.heap.size ∧ Sees w b o ys) := by
  rcases h with ⟨A, e, rfl⟩ | ⟨b, o, c, e, hl, hs⟩
  · exact ⟨A, 0, e, fun h => by simp at h⟩
  · exact ⟨_, c, e, fun _ => ⟨b, o, rfl, hl, hs⟩⟩
end Go.Proofs.YthbmknpbcgnabaaGreatDoor
namespace Go.Proofs.YthbmknpbcgnabaaGreatDoor.Mr
namespace Mk
abbrev Tg := List UInt8
def nodeW : Tg := [110, 111, 100, 101]
def zero : Tg := List.replicate 32 0
def node (key : Tg) (four : List Tg) : Tg := Hm.mac key (Hm.joined (nodeW :: four))
theorem node_length (key : Tg) (four : List Tg) : (node key four).length = 32 := Hm.mac_length _ _
def IsH (m : Int) (h : Nat) : Prop := 1 ≤ h ∧ m ≤ 4 ^ h ∧ (h = 1 ∨ (4 : Int) ^ (h - 1) < m)
theorem pow_int (h : Nat) : ((4 ^ h : Nat) : Int) = (4 : Int) ^ h := by simp
theorem IsH.unique {m : Int} {h k : Nat} (a : IsH m h) (b : IsH m k) : h = k := by
  have mono : ∀ {i j : Nat}, i ≤ j → (4 : Int) ^ i ≤ 4 ^ j := fun {i j} hij => by
    rw [← pow_int, ← pow_int]
    exact_mod_cast Nat.pow_le_pow_right (by omega) hij
  obtain ⟨a1, a2, a3⟩ := a
  obtain ⟨b1, b2, b3⟩ := b
  rcases Nat.lt_trichotomy h k with hlt | e | hlt
  · rcases b3 with b3 | b3
    · omega
    · have := mono (show h ≤ k - 1 by omega)
      omega
  · exact e
  · rcases a3 with a3 | a3
    · omega
    · have := mono (show k ≤ h - 1 by omega)
      omega
def ups (key : Tg) (l : List Tg) : List Tg := (List.range (l.length / 4)).map fun i => node key ((l.drop (4 * i)).take 4)
theorem ups_length (key : Tg) (l : List Tg) : (ups key l).length = l.length / 4 := by simp [ups]
def lev (key : Tg) (l : List Tg) : Nat → List Tg
  | 0 => l
  | i + 1 => ups key (lev key l i)
theorem lev_length (key : Tg) (l : List Tg) (h : Nat) (hl : l.length = 4 ^ h) : ∀ i, i ≤ h → (lev key l i).length = 4 ^ (h - i)
  | 0, _ => hl
  | i + 1, hi => by
    rw [lev, ups_length, lev_length key l h hl i (by omega), show h - i = (h - (i + 1)) + 1 by omega, Nat.pow_succ, Nat.mul_div_cancel _ (by omega)]
def full (l : List Tg) (h : Nat) : List Tg := l ++ List.replicate (4 ^ h - l.length) zero
theorem full_length (l : List Tg) (h : Nat) (hl : l.length ≤ 4 ^ h) : (full l h).length = 4 ^ h := by simp [full]; omega
def root (key : Tg) (l : List Tg) (h : Nat) : Tg := (lev key (full l h) h).getD 0 []
def fourAt (l : List Tg) (p : Nat) : List Tg := (l.drop (p - p % 4)).take 4
def way (key : Tg) (l : List Tg) (h place : Nat) : List (List Tg) := (List.range h).map fun i => fourAt (lev key (full l h) i) (place / 4 ^ i)
end Mk
end Go.Proofs.YthbmknpbcgnabaaGreatDoor.Mr
