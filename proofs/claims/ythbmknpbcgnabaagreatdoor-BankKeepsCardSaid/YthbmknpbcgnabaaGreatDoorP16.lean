/-
  OF THE WALK: VA, ER, CP, SJ, SK.
-/
import Derived.Deep.OwnRows
import Derived.Deep.RegionHeld3
import Derived.StillTailTactics
import Derived.Test.YthbmknpbcgnabaaGreatDoorP10
import Derived.Test.YthbmknpbcgnabaaGreatDoorP12
import Derived.Test.YthbmknpbcgnabaaGreatDoorP13
import Derived.Test.YthbmknpbcgnabaaGreatDoorP14
import Derived.Test.YthbmknpbcgnabaaGreatDoorP15
namespace Go.Proofs.YthbmknpbcgnabaaGreatDoor
open Dsk Sl
namespace Bk
structure Bn where
  n : Nat
  ep : Nat
  bank : Nat
  root : List UInt8
  tags : List (List UInt8)
  L : List (List UInt8)
  at_ : Nat
  next : List (List UInt8)
def hB (m : Nat) : Nat := if m ≤ 4 then 1 else if m ≤ 16 then 2 else if m ≤ 64 then 3 else 4
theorem hB_is (m : Nat) (hm : m ≤ 100) : Mr.Mk.IsH m (hB m) := by
  unfold hB
  split
  · exact ⟨by omega, by show (m : Int) ≤ 4; omega, .inl rfl⟩
  · split
    · exact ⟨by omega, by show (m : Int) ≤ 16; omega, .inr (by show (4 : Int) < m; omega)⟩
    · split
      · exact ⟨by omega, by show (m : Int) ≤ 64; omega, .inr (by show (16 : Int) < m; omega)⟩
      · exact ⟨by omega, by show (m : Int) ≤ 256; omega, .inr (by show (64 : Int) < m; omega)⟩
def rootB (mk : List UInt8) (l : List (List UInt8)) : List UInt8 := Mr.Mk.root mk l (hB l.length)
def z64 : List UInt8 := List.replicate 64 0
def put (ek mk : List UInt8) (n bank i ep : Nat) (p : List UInt8) (D : List Blk) : List Blk × List UInt8 :=
  (writeL D ((bank * n + i : Nat) : Int) (rw_ ek i ep p), tg mk i (rw_ ek i ep p))
def putTo (ek mk : List UInt8) (n bank ep : Nat) (f : Nat → List UInt8) : Nat → List Blk → List Blk × List (List UInt8)
  | 0, D => (D, [])
  | i + 1, D => ((put ek mk n bank i ep (f i) (putTo ek mk n bank ep f i D).1).1, (putTo ek mk n bank ep f i D).2 ++ [(put ek mk n bank i ep (f i) (putTo ek mk n bank ep f i D).1).2])
def flush (D : List Blk) : List Blk := crash (fun _ => true) D
def format (ek mk : List UInt8) (n : Nat) (D : List Blk) : Bn × List Blk :=
  (⟨n, 1, 0, rootB mk (putTo ek mk n 0 1 (fun _ => z64) n D).2, (putTo ek mk n 0 1 (fun _ => z64) n D).2, [], 0, []⟩, flush (putTo ek mk n 0 1 (fun _ => z64) n D).1)
def curAt (D : List Blk) (k : Nat) : List UInt8 := (D.getD k Blk.zero).cur
def tagsOf (mk : List UInt8) (n bank : Nat) (D : List Blk) : List (List UInt8) := (List.range n).map fun i => tg mk i (curAt D (bank * n + i))
def mount (mk : List UInt8) (n ep bank : Nat) (root : List UInt8) (D : List Blk) : Option Bn :=
  if rootB mk (tagsOf mk n bank D) = root then some ⟨n, ep, bank, root, tagsOf mk n bank D, [], 0, []⟩ else none
def read (ek mk : List UInt8) (s : Bn) (D : List Blk) (i : Nat) : Option (List UInt8) :=
  if tg mk i (curAt D (s.bank * s.n + i)) = s.tags.getD i [] then some (pl ek i (curAt D (s.bank * s.n + i))) else none
def begin_ (s : Bn) (l : List (List UInt8)) : Bn × Nat :=
  if s.L ≠ [] then (s, 12) else if (∀ x ∈ l, x.length = 64) ∧ l.length = s.n then ({ s with L := l, at_ := 0, next := [] }, 0) else (s, 1)
def step (ek mk : List UInt8) (s : Bn) (D : List Blk) : (Bn × List Blk) × Bool × Nat :=
  if s.L = [] then ((s, D), false, 2)
  else if s.at_ < s.n then (({ s with at_ := s.at_ + 1, next := s.next ++ [(put ek mk s.n (1 - s.bank) s.at_ (s.ep + 1) (s.L.getD s.at_ []) D).2] }, (put ek mk s.n (1 - s.bank) s.at_ (s.ep + 1) (s.L.getD s.at_ []) D).1), false, 0)
  else if s.at_ = s.n then (({ s with at_ := s.at_ + 1 }, flush D), false, 0)
  else ((⟨s.n, s.ep + 1, 1 - s.bank, rootB mk s.next, s.next, [], 0, []⟩, D), true, 0)
section
variable {ek mk : List UInt8} {n bank i ep k : Nat} {p : List UInt8} {D : List Blk} {f : Nat → List UInt8}
theorem put_disk (hk : bank * n + i < D.length) (hp : p.length = 64) : (put ek mk n bank i ep p D).1 = D.set (bank * n + i) ((D.getD (bank * n + i) Blk.zero).write (rw_ ek i ep p)) := by
  have hg : D[bank * n + i]? = some (D.getD (bank * n + i) Blk.zero) := by rw [List.getD_eq_getElem?_getD, List.getElem?_eq_getElem hk]; rfl
  show writeL D ((bank * n + i : Nat) : Int) (rw_ ek i ep p) = _
  have hok : okW D ((bank * n + i : Nat) : Int) (rw_ ek i ep p) = true := by
    unfold okW
    rw [getB_ofNat, hg, rw_length, hp]; rfl
  rw [writeL, hok, if_pos rfl, upd1_some hg]
theorem put_length : (put ek mk n bank i ep p D).1.length = D.length := by
  show (writeL D _ _).length = _
  unfold writeL
  split
  · exact upd1_length _ _ _
  · rfl
theorem putTo_length : ∀ i, (putTo ek mk n bank ep f i D).1.length = D.length ∧ (putTo ek mk n bank ep f i D).2.length = i
  | 0 => ⟨rfl, rfl⟩
  | i + 1 => by
    obtain ⟨a, b⟩ := putTo_length i
    rw [putTo]
    exact ⟨(put_length (ek := ek) (mk := mk) (n := n) (bank := bank) (i := i) (ep := ep) (p := f i)).trans a, by rw [List.length_append, b]; rfl⟩
theorem curAt_set {b : Blk} (hk : k < D.length) (j : Nat) : curAt (D.set k b) j = if j = k then b.cur else curAt D j := by
  unfold curAt
  rw [List.getD_eq_getElem?_getD, List.getElem?_set, List.getD_eq_getElem?_getD]
  by_cases h : k = j
  · rw [if_pos h, if_pos (by omega), if_pos h.symm]; rfl
  · rw [if_neg h, if_neg (fun e => h e.symm)]
theorem getD_setB {b : Blk} (hk : k < D.length) (j : Nat) : (D.set k b).getD j Blk.zero = if j = k then b else D.getD j Blk.zero := by
  rw [List.getD_eq_getElem?_getD, List.getElem?_set, List.getD_eq_getElem?_getD]
  by_cases h : k = j
  · rw [if_pos h, if_pos (by omega), if_pos h.symm]; rfl
  · rw [if_neg h, if_neg (fun e => h e.symm)]
theorem putTo_spec (hD : bank * n + n ≤ D.length) (hf : ∀ i, i < n → (f i).length = 64) : ∀ i, i ≤ n →
    (∀ j, j < i → curAt (putTo ek mk n bank ep f i D).1 (bank * n + j) = rw_ ek j ep (f j) ∧ (putTo ek mk n bank ep f i D).2.getD j [] = tg mk j (rw_ ek j ep (f j)))
    ∧ ∀ k, (k < bank * n ∨ bank * n + i ≤ k) → (putTo ek mk n bank ep f i D).1.getD k Blk.zero = D.getD k Blk.zero
  | 0, _ => ⟨fun j h => by omega, fun k _ => rfl⟩
  | i + 1, hi => by
    obtain ⟨a, b⟩ := putTo_spec hD hf i (by omega)
    obtain ⟨c, d⟩ := putTo_length (ek := ek) (mk := mk) (n := n) (bank := bank) (ep := ep) (f := f) (D := D) i
    have hk : bank * n + i < (putTo ek mk n bank ep f i D).1.length := by rw [c]; omega
    rw [putTo]
    dsimp only
    rw [put_disk hk (hf i (by omega))]
    refine ⟨fun j hj => ?_, fun k hk2 => ?_⟩
    · rw [curAt_set hk]
      by_cases hji : j = i
      · subst hji
        rw [if_pos rfl]
        refine ⟨rfl, ?_⟩
        rw [List.getD_eq_getElem?_getD, List.getElem?_append_right (by omega), d, Nat.sub_self]; rfl
      · rw [if_neg (by omega)]
        obtain ⟨e1, e2⟩ := a j (by omega)
        refine ⟨e1, ?_⟩
        rw [List.getD_eq_getElem?_getD, List.getElem?_append_left (by omega), ← List.getD_eq_getElem?_getD]; exact e2
    · rw [getD_setB hk, if_neg (by omega)]
      exact b k (by omega)
theorem crash_getD (keep : Nat → Bool) (D : List Blk) (k : Nat) (hk : k < D.length) : ∃ x, (crash keep D).getD k Blk.zero = (D.getD k Blk.zero).settle x := by
  refine ⟨keep (cnt (D.take k)), ?_⟩
  rw [List.getD_eq_getElem?_getD, crash, crashTo_get, List.getElem?_eq_getElem hk, List.getD_eq_getElem?_getD, List.getElem?_eq_getElem hk]
  simp [hk]
theorem flush_getD (D : List Blk) (k : Nat) (hk : k < D.length) : (flush D).getD k Blk.zero = (D.getD k Blk.zero).settle true := by
  rw [flush, List.getD_eq_getElem?_getD, crash, crashTo_get, List.getElem?_eq_getElem hk, List.getD_eq_getElem?_getD, List.getElem?_eq_getElem hk]
  simp [hk]
theorem flush_length (D : List Blk) : (flush D).length = D.length := by unfold flush Dsk.crash; exact crashTo_length _ _ _
end
structure Lies (ek mk : List UInt8) (D : List Blk) (n bank ep : Nat) (tags : List (List UInt8)) (want : Nat → List UInt8) : Prop where
  clean : ∀ i, i < n → (D.getD (bank * n + i) Blk.zero).dirty = false
  cur : ∀ i, i < n → curAt D (bank * n + i) = rw_ ek i ep (want i)
  tag : ∀ i, i < n → tags.getD i [] = tg mk i (rw_ ek i ep (want i))
  tlen : tags.length = n
section
variable {ek mk : List UInt8} {n bank ep : Nat} {D D' : List Blk} {tags : List (List UInt8)} {want : Nat → List UInt8}
theorem Lies.same (h : Lies ek mk D n bank ep tags want) (hD : ∀ i, i < n → D'.getD (bank * n + i) Blk.zero = D.getD (bank * n + i) Blk.zero) : Lies ek mk D' n bank ep tags want :=
  ⟨fun i hi => by rw [hD i hi]; exact h.clean i hi, fun i hi => by unfold curAt; rw [hD i hi]; exact h.cur i hi, h.tag, h.tlen⟩
theorem Lies.crash (h : Lies ek mk D n bank ep tags want) (keep : Nat → Bool) (hD : bank * n + n ≤ D.length) : Lies ek mk (Dsk.crash keep D) n bank ep tags want := by
  refine h.same fun i hi => ?_
  obtain ⟨x, hx⟩ := crash_getD keep D (bank * n + i) (by omega)
  rw [hx, Blk.settle_clean (h.clean i hi)]
theorem Lies.tags_eq (h : Lies ek mk D n bank ep tags want) : tagsOf mk n bank D = tags := by
  apply List.ext_getElem?
  intro i
  unfold tagsOf
  rw [List.getElem?_map]
  by_cases hi : i < n
  · rw [List.getElem?_range hi, Option.map_some, h.cur i hi, ← h.tag i hi, List.getD_eq_getElem?_getD, List.getElem?_eq_getElem (by rw [h.tlen]; exact hi)]; rfl
  · rw [List.getElem?_eq_none (by simp; omega), List.getElem?_eq_none (by rw [h.tlen]; omega)]; rfl
theorem Lies.mount (h : Lies ek mk D n bank ep tags want) : Bk.mount mk n ep bank (rootB mk tags) D = some ⟨n, ep, bank, rootB mk tags, tags, [], 0, []⟩ := by
  unfold Bk.mount
  rw [h.tags_eq, if_pos rfl]
theorem Lies.read {s : Bn} (h : Lies ek mk D n bank ep tags want) (hn : s.n = n) (hb : s.bank = bank) (ht : s.tags = tags) (hep : ep < 2 ^ 64) (i : Nat) (hi : i < n) : Bk.read ek mk s D i = some (want i) := by
  unfold Bk.read
  rw [hn, hb, ht, h.cur i hi, h.tag i hi, if_pos rfl, pl_rw _ _ _ hep]
theorem flush_lies {f : Nat → List UInt8} (hD : bank * n + n ≤ D.length) (hf : ∀ i, i < n → (f i).length = 64) : Lies ek mk (flush (putTo ek mk n bank ep f n D).1) n bank ep (putTo ek mk n bank ep f n D).2 f := by
  obtain ⟨a, _⟩ := putTo_spec (ek := ek) (mk := mk) (ep := ep) hD hf n (Nat.le_refl _)
  obtain ⟨c, d⟩ := putTo_length (ek := ek) (mk := mk) (n := n) (bank := bank) (ep := ep) (f := f) (D := D) n
  refine ⟨fun i hi => by rw [flush_getD _ _ (by rw [c]; omega)]; rfl, fun i hi => ?_, fun i hi => (a i hi).2, d⟩
  unfold curAt
  rw [flush_getD _ _ (by rw [c]; omega)]
  exact (a i hi).1
end
structure Com (ek mk : List UInt8) (s : Bn) (D : List Blk) (want r : Nat → List UInt8) : Prop where
  lies : Lies ek mk D s.n s.bank s.ep s.tags want
  root : s.root = rootB mk s.tags
  b1 : s.bank ≤ 1
  dlen : D.length = 2 * s.n
  npos : 0 < s.n
  blocks : s.L = (List.range s.n).map r
  r64 : ∀ i, i < s.n → (r i).length = 64
  atn : s.at_ ≤ s.n + 1
  nlen : s.next.length = min s.at_ s.n
  cur : ∀ j, j < s.n → j < s.at_ → curAt D ((1 - s.bank) * s.n + j) = rw_ ek j (s.ep + 1) (r j) ∧ s.next.getD j [] = tg mk j (rw_ ek j (s.ep + 1) (r j))
  clean : s.at_ = s.n + 1 → ∀ j, j < s.n → (D.getD ((1 - s.bank) * s.n + j) Blk.zero).dirty = false
section
variable {ek mk : List UInt8} {s : Bn} {D : List Blk} {want r : Nat → List UInt8}
theorem Com.busy (h : Com ek mk s D want r) : s.L ≠ [] := by
  rw [h.blocks]
  intro e
  have := congrArg List.length e
  simp at this
  have := h.npos
  omega
theorem side (s : Bn) (hb : s.bank ≤ 1) (i j : Nat) (hi : i < s.n) (hj : j < s.n) : s.bank * s.n + i ≠ (1 - s.bank) * s.n + j ∧ s.bank * s.n + i < 2 * s.n ∧ (1 - s.bank) * s.n + j < 2 * s.n := by
  rcases (show s.bank = 0 ∨ s.bank = 1 by omega) with e | e <;> rw [e] <;> simp <;> omega
theorem Com.put (h : Com ek mk s D want r) (ha : s.at_ < s.n) :
    step ek mk s D = (({ s with at_ := s.at_ + 1, next := s.next ++ [(Bk.put ek mk s.n (1 - s.bank) s.at_ (s.ep + 1) (s.L.getD s.at_ []) D).2] }, (Bk.put ek mk s.n (1 - s.bank) s.at_ (s.ep + 1) (s.L.getD s.at_ []) D).1), false, 0)
    ∧ Com ek mk { s with at_ := s.at_ + 1, next := s.next ++ [(Bk.put ek mk s.n (1 - s.bank) s.at_ (s.ep + 1) (s.L.getD s.at_ []) D).2] } (Bk.put ek mk s.n (1 - s.bank) s.at_ (s.ep + 1) (s.L.getD s.at_ []) D).1 want r := by
  have hg : s.L.getD s.at_ [] = r s.at_ := by rw [h.blocks, List.getD_eq_getElem?_getD, List.getElem?_map, List.getElem?_range ha]; rfl
  have hk := (side s h.b1 0 s.at_ h.npos ha).2.2
  have hk' : (1 - s.bank) * s.n + s.at_ < D.length := by rw [h.dlen]; exact hk
  refine ⟨by rw [step, if_neg h.busy, if_pos ha], ?_⟩
  rw [hg, put_disk hk' (h.r64 _ ha)]
  refine ⟨h.lies.same fun i hi => ?_, h.root, h.b1, by rw [List.length_set]; exact h.dlen, h.npos, h.blocks, h.r64, by show s.at_ + 1 ≤ s.n + 1; omega, ?_, fun j hj hja => ?_, fun e => by have e' : s.at_ + 1 = s.n + 1 := e; omega⟩
  · rw [getD_setB hk', if_neg (side s h.b1 i s.at_ hi ha).1]
  · show (s.next ++ [_]).length = min (s.at_ + 1) s.n
    rw [List.length_append, h.nlen]
    show min s.at_ s.n + 1 = _
    omega
  · show curAt (D.set _ _) ((1 - s.bank) * s.n + j) = _ ∧ (s.next ++ [_]).getD j [] = _
    have hja' : j < s.at_ + 1 := hja
    rw [curAt_set hk']
    by_cases e : j = s.at_
    · subst e
      rw [if_pos rfl]
      refine ⟨rfl, ?_⟩
      rw [List.getD_eq_getElem?_getD, List.getElem?_append_right (by rw [h.nlen]; omega), h.nlen, show s.at_ - min s.at_ s.n = 0 by omega]; rfl
    · rw [if_neg (by omega)]
      obtain ⟨e1, e2⟩ := h.cur j hj (by omega)
      refine ⟨e1, ?_⟩
      rw [List.getD_eq_getElem?_getD, List.getElem?_append_left (by rw [h.nlen]; omega), ← List.getD_eq_getElem?_getD]; exact e2
theorem Com.flush (h : Com ek mk s D want r) (ha : s.at_ = s.n) : step ek mk s D = (({ s with at_ := s.at_ + 1 }, Bk.flush D), false, 0) ∧ Com ek mk { s with at_ := s.at_ + 1 } (Bk.flush D) want r := by
  refine ⟨by rw [step, if_neg h.busy, if_neg (by omega), if_pos ha], h.lies.crash _ ?_, h.root, h.b1, by rw [flush_length]; exact h.dlen, h.npos, h.blocks, h.r64, by show s.at_ + 1 ≤ s.n + 1; omega, by show s.next.length = min (s.at_ + 1) s.n; rw [h.nlen]; omega, fun j hj _ => ?_, fun _ j hj => ?_⟩
  · have := h.dlen
    rcases (show s.bank = 0 ∨ s.bank = 1 by have := h.b1; omega) with e | e <;> rw [e] <;> simp <;> omega
  · have hj' : j < s.n := hj
    obtain ⟨e1, e2⟩ := h.cur j hj (by omega)
    refine ⟨?_, e2⟩
    have hk := (side s h.b1 0 j h.npos hj).2.2
    unfold curAt
    rw [show (({ s with at_ := s.at_ + 1 } : Bn)).bank = s.bank from rfl, show (({ s with at_ := s.at_ + 1 } : Bn)).n = s.n from rfl, flush_getD _ _ (by rw [h.dlen]; exact hk)]
    exact e1
  · have hk := (side s h.b1 0 j h.npos hj).2.2
    rw [show (({ s with at_ := s.at_ + 1 } : Bn)).bank = s.bank from rfl, show (({ s with at_ := s.at_ + 1 } : Bn)).n = s.n from rfl, flush_getD _ _ (by rw [h.dlen]; exact hk)]
    rfl
theorem Com.over (h : Com ek mk s D want r) (ha : s.at_ = s.n + 1) : step ek mk s D = ((⟨s.n, s.ep + 1, 1 - s.bank, rootB mk s.next, s.next, [], 0, []⟩, D), true, 0) ∧ Lies ek mk D s.n (1 - s.bank) (s.ep + 1) s.next r := by
  refine ⟨by rw [step, if_neg h.busy, if_neg (by omega), if_neg (by omega)], h.clean ha, fun i hi => (h.cur i hi (by omega)).1, fun i hi => (h.cur i hi (by omega)).2, by rw [h.nlen]; omega⟩
end
end Bk
end Go.Proofs.YthbmknpbcgnabaaGreatDoor
section
namespace Go.Proofs.YthbmknpbcgnabaaGreatDoor
open Go.RowKit Aes
end Go.Proofs.YthbmknpbcgnabaaGreatDoor
end
section
namespace Go.Proofs.YthbmknpbcgnabaaGreatDoor
open Go.RowKit Aes
end Go.Proofs.YthbmknpbcgnabaaGreatDoor
end
section
namespace Go.Proofs.YthbmknpbcgnabaaGreatDoor
open Go.RowKit Aes
def Vals (w : World) (vs : List Value) (ps : List (List UInt8)) : Prop := vs.length = ps.length ∧ ∀ (j : Nat) v p, vs[j]? = some v → ps[j]? = some p → Arg w v p
theorem Vals.below {w w' : World} {vs : List Value} {ps : List (List UInt8)} (h : Vals w vs ps) (hb : Below w.heap.size w w') : Vals w' vs ps := ⟨h.1, fun j v p hv hp => (h.2 j v p hv hp).below hb⟩
def Parts (w : World) (v : Value) (ps : List (List UInt8)) : Prop :=
  ∃ b o cap vs, v = .slice (some ⟨b, o, none⟩) ps.length cap ∧ Vals w vs ps ∧ b < w.heap.size ∧ Sees w b o vs
theorem Parts.below {w w' : World} {v : Value} {ps : List (List UInt8)} (h : Parts w v ps) (hb : Below w.heap.size w w') : Parts w' v ps := by
  obtain ⟨b, o, cap, vs, e, hv, hl, hs⟩ := h
  exact ⟨b, o, cap, vs, e, hv.below hb, Nat.lt_of_lt_of_le hl hb.size, hs.below hb hl⟩
end Go.Proofs.YthbmknpbcgnabaaGreatDoor
end
section
namespace Go.Proofs.YthbmknpbcgnabaaGreatDoor
open Go.RowKit Aes
theorem infoS : (Tryz.prog.info? 22).map (fun i => (i.zero, i.size, i.bytes)) = some (some (.slice none 0 0), 1, 24) := by kernel_rfl
theorem run_appS {P : Program} {w : World} (t ty : TypeId) (B : Nat) (e : TypeId) {z : Value} {bytes : Nat} (ht : P.underlying t = some (.slice e)) (hi : (P.info? e).map (fun i => (i.zero, i.size, i.bytes)) = some (some z, 1, bytes)) (hz : z.cells.size = 1) (hby : bytes ≤ 100)
    (v : Value) (ys : List Value) (hown : Own w B e v ys) (b off c : Nat) (zs : List Value) (hsee : Sees w b off zs) (h1 : ∀ y ∈ zs, y.oneCell' = true) (hl : ys.length + zs.length ≤ 1000000) (hB : B ≤ w.heap.size) :
    ∃ v' w', (Builtin.append_ #[t, t] ty #[v, .slice (some ⟨b, off, none⟩) zs.length c]).run P w = .ok v' w' ∧ Own w' B e v' (ys ++ zs) ∧ w.grownBy w' v.ownBlock ∧ (v'.ownBlock = v.ownBlock ∨ v'.ownBlock = some w.heap.size) := by
  obtain ⟨i, hi, hz0, hz1, hz2⟩ := info_parts hi
  have hby' : (ys.length + zs.length) * bytes ≤ 140737488355328 := by
    have : (ys.length + zs.length) * bytes ≤ 1000000 * 100 := Nat.mul_le_mul hl hby
    omega
  obtain ⟨v', w', hr, h2, h3, _, h5⟩ := run_append_own_at w B t ty e i z 1 bytes ht hi hz0 hz1 hz2 hz (by omega) v ys.length ys hown ⟨b, off, none⟩ zs.length c zs (by simp) (fun j u hu => by rw [add_off]; exact hsee j u hu) h1 (by simp only [maxLen]; omega) hby' hB
  exact ⟨v', w', hr, by rw [← List.length_append] at h2; exact h2, h3, h5⟩
def wkK (key : List UInt8) (n : Nat) : List (List UInt8) := wk key n
def Rowed (Lo B : Nat) (W : World) (v : Value) (ps : List (List UInt8)) : Prop :=
  ∃ vs, Own W B 22 v vs ∧ vs.length = ps.length ∧ ∀ (j : Nat) u p, vs[j]? = some u → ps[j]? = some p → ∃ b o c, u = .slice (some ⟨b, o, none⟩) p.length c ∧ p.length ≤ c ∧ (b < W.heap.size ∧ Lo ≤ b) ∧ v.ownBlock ≠ some b ∧ Sees W b o (p.map V8)
theorem Rowed.nil (Lo B : Nat) (W : World) : Rowed Lo B W (.slice none 0 0) [] := ⟨[], Own.nil _ _ _, rfl, fun j u p hu => by simp at hu⟩
theorem Rowed.below {Lo B : Nat} {W W' : World} {v : Value} {ps : List (List UInt8)} (h : Rowed Lo B W v ps) (hb : Below W.heap.size W W') : Rowed Lo B W' v ps := by
  obtain ⟨vs, ho, hl, hw⟩ := h
  refine ⟨vs, ho.below hb (Nat.le_refl _), hl, fun j u p hu hp => ?_⟩
  obtain ⟨b, o, c, e, hc, ⟨hlt, hlo⟩, hne, hs⟩ := hw j u p hu hp
  exact ⟨b, o, c, e, hc, ⟨Nat.lt_of_lt_of_le hlt hb.size, hlo⟩, hne, hs.below hb hlt⟩
theorem Rowed.snoc {Lo B : Nat} {W W' : World} {v v' : Value} {ps : List (List UInt8)} {p : List UInt8} {b o c : Nat} (hv : ∃ vs, Own W B 22 v vs ∧ vs.length = ps.length ∧ (∀ (j : Nat) u q, vs[j]? = some u → ps[j]? = some q → ∃ b o c, u = .slice (some ⟨b, o, none⟩) q.length c ∧ q.length ≤ c ∧ (b < W.heap.size ∧ Lo ≤ b) ∧ v.ownBlock ≠ some b ∧ Sees W b o (q.map V8)) ∧ Own W' B 22 v' (vs ++ [.slice (some ⟨b, o, none⟩) p.length c]))
    (hg : W.grownBy W' v.ownBlock) (hn : v'.ownBlock = v.ownBlock ∨ v'.ownBlock = some W.heap.size) (hb : b < W.heap.size) (hLo : Lo ≤ b) (hne : v.ownBlock ≠ some b) (hc : p.length ≤ c) (hs : Sees W b o (p.map V8)) : Rowed Lo B W' v' (ps ++ [p]) := by
  obtain ⟨vs, ho, hl, hw, ho'⟩ := hv
  have off : ∀ b', b' < W.heap.size → v.ownBlock ≠ some b' → v'.ownBlock ≠ some b' := fun b' h1 h2 => by
    rcases hn with e | e <;> rw [e]
    · exact h2
    · intro h; injection h with h; omega
  refine ⟨_, ho', by simp [hl], fun j u q hu hq => ?_⟩
  rcases Nat.lt_or_ge j vs.length with hj | hj
  · rw [List.getElem?_append_left hj] at hu
    rw [List.getElem?_append_left (by omega)] at hq
    obtain ⟨b1, o1, c1, e1, hc1, ⟨hlt1, hlo1⟩, hne1, hs1⟩ := hw j u q hu hq
    exact ⟨b1, o1, c1, e1, hc1, ⟨Nat.lt_of_lt_of_le hlt1 hg.size, hlo1⟩, off b1 hlt1 hne1, hs1.grown hg hlt1 (fun h => hne1 h.symm)⟩
  · rw [List.getElem?_append_right hj] at hu
    rw [List.getElem?_append_right (by omega)] at hq
    have hj0 : j - vs.length = 0 := by have := (List.getElem?_eq_some_iff.1 hu).1; simp at this; omega
    rw [hj0] at hu
    rw [show j - ps.length = 0 by omega] at hq
    simp at hu hq
    subst hu hq
    exact ⟨b, o, c, rfl, hc, ⟨Nat.lt_of_lt_of_le hb hg.size, hLo⟩, off b hb hne, hs.grown hg hb (fun h => hne h.symm)⟩
theorem wpList_rowed {w : World} {ops : Array Oper} {rest : List Oper} {op : Oper} {a : Act} {Q : Exit → Act → World → Prop} (hgd : op.guard = none) (s x : Operand)
    (ho : op.op = .call { callee := .builtin .append, args := #[s, x], argTypes := #[48, 48] })
    (Lo B : Nat) (v : Value) (ps : List (List UInt8)) (hs : a.eval s = v) (hR : Rowed Lo B w v ps) (g c1 b o c : Nat) (p : List UInt8) (hx : a.eval x = .slice (some ⟨g, 0, none⟩) 1 c1) (hsee : Sees w g 0 [.slice (some ⟨b, o, none⟩) p.length c])
    (hb : b < w.heap.size) (hLo : Lo ≤ b) (hne : v.ownBlock ≠ some b) (hc : p.length ≤ c) (hp : Sees w b o (p.map V8)) (hl : ps.length ≤ 1000) (hB : B ≤ w.heap.size)
    (h : ∀ v' w', Hid (Rowed Lo B w' v' (ps ++ [p])) → Below B w w' → wpList Tryz.prog ops Q rest (a.put op.dst v') w') : wpList Tryz.prog ops Q (op :: rest) a w := by
  refine wpList_plain hgd fun K hK => ?_
  obtain ⟨vs, hown, hvl, hw⟩ := hR
  obtain ⟨v', w', hr, h2, h3, h5⟩ := run_appS (P := Tryz.prog) 48 op.type B 22 Tryz.underlying48 infoS rfl (by decide) v vs hown g 0 c1 [.slice (some ⟨b, o, none⟩) p.length c] hsee (by intro y hy; simp at hy; subst hy; rfl) (by simp; omega) hB
  have hR' : Rowed Lo B w' v' (ps ++ [p]) := Rowed.snoc ⟨vs, hown, hvl, hw, h2⟩ h3 h5 hb hLo hne hc hp
  unfold Oper.wp execOp
  simp only [ho, resolve, invoke, builtin, Sem.run_bind, Sem.run_pure, Result.andThen_ok, List.map_toArray, List.map_cons, List.map_nil, hs, hx]
  have hr' := hr
  simp only [List.length_cons, List.length_nil, Nat.zero_add] at hr'
  rw [hr']
  exact hK _ _ (h v' w' hR' (below_app (Below.refl _ _) hown h3 (Nat.le_refl _) hB))
end Go.Proofs.YthbmknpbcgnabaaGreatDoor
end
section
namespace Go.Proofs.YthbmknpbcgnabaaGreatDoor
open Go.RowKit Aes Ctr
def KeyAt (W : World) (p : Nat) (key : List UInt8) : Prop :=
  ∃ ug uc xg xc vs, p < W.heap.size ∧ Sees W p 0 [.slice (some ⟨ug, 0, none⟩) 44 uc, .slice (some ⟨xg, 0, none⟩) 256 xc] ∧ ug < W.heap.size ∧ Sees W ug 0 vs ∧ Vals W vs (wkK key 44) ∧ xg < W.heap.size ∧ Sees W xg 0 (SBL.map V8)
theorem KeyAt.below {W W' : World} {p : Nat} {key : List UInt8} (h : KeyAt W p key) (hb : Below W.heap.size W W') : KeyAt W' p key := by
  obtain ⟨ug, uc, xg, xc, vs, h1, h2, h3, h4, h5, h6, h7⟩ := h
  have := hb.size
  exact ⟨ug, uc, xg, xc, vs, by omega, h2.below hb h1, by omega, h4.below hb h3, h5.below hb, by omega, h7.below hb h6⟩
end Go.Proofs.YthbmknpbcgnabaaGreatDoor
end
section
namespace Go.Proofs.YthbmknpbcgnabaaGreatDoor
open Go.RowKit Aes Ctr
end Go.Proofs.YthbmknpbcgnabaaGreatDoor
end
section
namespace Go.Proofs.YthbmknpbcgnabaaGreatDoor
open Go.RowKit Aes Ctr
end Go.Proofs.YthbmknpbcgnabaaGreatDoor
end
namespace Go.Proofs.YthbmknpbcgnabaaGreatDoor
open Go.RowKit Aes Ctr Sl
def MKeyAt (W : World) (p : Nat) (ek mk : List UInt8) : Prop :=
  ∃ va vb pe pm, p < W.heap.size ∧ Sees W p 0 [va, vb, .pointer (some ⟨pe, 0, none⟩), pm] ∧ Arg W va ek ∧ Arg W vb mk ∧ KeyAt W pe ek ∧ Hm.KeyAt W pm mk
theorem MKeyAt.below {W W' : World} {p : Nat} {ek mk : List UInt8} (h : MKeyAt W p ek mk) (hb : Below W.heap.size W W') : MKeyAt W' p ek mk := by
  obtain ⟨va, vb, pe, pm, h1, h2, h3, h4, h5, h6⟩ := h
  have := hb.size
  exact ⟨va, vb, pe, pm, by omega, h2.below hb h1, h3.below hb, h4.below hb, h5.below hb, h6.below hb⟩
end Go.Proofs.YthbmknpbcgnabaaGreatDoor
namespace Go.Proofs.YthbmknpbcgnabaaGreatDoor
open Go.RowKit Aes Ctr Sl
theorem Arg.first {w : World} {b o c n : Nat} {bs : List UInt8} (h : Arg w (.slice (some ⟨b, o, none⟩) n c) bs) (m : Nat) (hm : m ≤ n) (hl : bs.length = n) (hp : 0 < n) : Arg w (.slice (some ⟨b, o, none⟩) m c) (bs.take m) := by
  rcases h with ⟨A, e, hn⟩ | ⟨b', o', c', e, hb, hc, hs⟩
  · rw [hn] at hl; simp at hl; omega
  · injection e with e1 e2 e3
    injection e1 with e1
    injection e1 with e1 e4 _
    subst e1 e3 e4
    have hlm : (bs.take m).length = m := by rw [List.length_take]; omega
    refine .inr ⟨b, o, c, by rw [hlm], hb, by rw [hlm]; omega, ?_⟩
    have := hs.piece 0 m
    rwa [List.drop_zero, Nat.add_zero, ← List.map_take] at this
end Go.Proofs.YthbmknpbcgnabaaGreatDoor
