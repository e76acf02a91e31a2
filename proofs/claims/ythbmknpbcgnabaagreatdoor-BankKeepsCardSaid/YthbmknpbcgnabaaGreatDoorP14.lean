/-
  OF THE WALK: SA, DA, DB, DD.
-/
import Derived.Deep.MidRow
import Derived.Deep.RegionHeld3
import Derived.Deep.RegionLaw
import Derived.Test.YthbmknpbcgnabaaGreatDoorP06
import Derived.Test.YthbmknpbcgnabaaGreatDoorP08
import Derived.Test.YthbmknpbcgnabaaGreatDoorP09
import Derived.Test.YthbmknpbcgnabaaGreatDoorP13
namespace Go.Proofs.YthbmknpbcgnabaaGreatDoor
open Aes Ctr Go.RowKit
namespace Sl
def nm (d : Int) : Nat := (d % 18446744073709551616).toNat
theorem nm_int (d : Int) : ((nm d : Nat) : Int) = d % 18446744073709551616 := by unfold nm; omega
theorem nm_lt (d : Int) : nm d < 2 ^ 64 := by unfold nm; omega
def num (l : List UInt8) : Nat := l.foldl (fun a x => a * 256 + x.toNat) 0
theorem num_snoc (l : List UInt8) (x : UInt8) : num (l ++ [x]) = num l * 256 + x.toNat := by simp [num, List.foldl_append]
theorem num_take (l : List UInt8) (j : Nat) (h : j < l.length) : num (l.take (j + 1)) = num (l.take j) * 256 + (l.getD j 0).toNat := by
  rw [List.take_succ_eq_append_getElem h, num_snoc, List.getD_eq_getElem?_getD, List.getElem?_eq_getElem h]
  rfl
theorem num_lt (l : List UInt8) : ∀ k, l.length ≤ k → num l < 256 ^ k := by
  intro k h
  have key : ∀ j, j ≤ l.length → num (l.take j) < 256 ^ j := by
    intro j
    induction j with
    | zero => intro _; simp [num]
    | succ j ih =>
      intro hj
      have h1 := ih (by omega)
      rw [num_take l j (by omega), Nat.pow_succ]
      have := (l.getD j 0).toNat_lt
      omega
  have h1 := key l.length (Nat.le_refl _)
  rw [List.take_length] at h1
  exact Nat.lt_of_lt_of_le h1 (Nat.pow_le_pow_right (by omega) h)
theorem num_big (k : Nat) : ∀ n, n < 256 ^ k → num (big k n) = n := by
  induction k with
  | zero => intro n h; simp at h; simp [big, num, h]
  | succ k ih =>
    intro n h
    rw [Nat.pow_succ] at h
    rw [big, num_snoc, ih (n / 256) (by omega), UInt8.toNat_ofNat']
    omega
def leafW : List UInt8 := [108, 101, 97, 102]
def encW : List UInt8 := [101, 110, 99]
def macW : List UInt8 := [109, 97, 99]
def encK (s : List UInt8) : List UInt8 := (Hm.mac s (Hm.joined [encW])).take 16
def macK (s : List UInt8) : List UInt8 := Hm.mac s (Hm.joined [macW])
theorem encK_length (s : List UInt8) : (encK s).length = 16 := by rw [encK, List.length_take, Hm.mac_length]; rfl
theorem macK_length (s : List UInt8) : (macK s).length = 32 := Hm.mac_length _ _
def tg (mk : List UInt8) (b : Nat) (raw : List UInt8) : List UInt8 := Hm.mac mk (Hm.joined [leafW, big 4 b, raw])
theorem tg_length (mk : List UInt8) (b : Nat) (raw : List UInt8) : (tg mk b raw).length = 32 := Hm.mac_length _ _
def rw_ (ek : List UInt8) (b v : Nat) (plain : List UInt8) : List UInt8 := big 8 v ++ code ek (nnc b v) plain
theorem rw_length (ek : List UInt8) (b v : Nat) (plain : List UInt8) : (rw_ ek b v plain).length = 8 + plain.length := by rw [rw_, List.length_append, big_length, code_length]
def ver (raw : List UInt8) : Nat := num (raw.take 8)
def pl (ek : List UInt8) (b : Nat) (raw : List UInt8) : List UInt8 := code ek (nnc b (ver raw)) (raw.drop 8)
theorem ver_lt (raw : List UInt8) : ver raw < 2 ^ 64 := by
  have := num_lt (raw.take 8) 8 (by rw [List.length_take]; omega)
  have e : (256 : Nat) ^ 8 = 2 ^ 64 := by decide
  unfold ver
  omega
theorem ver_rw (ek : List UInt8) (b v : Nat) (hv : v < 2 ^ 64) (plain : List UInt8) : ver (rw_ ek b v plain) = v := by
  have e : (256 : Nat) ^ 8 = 2 ^ 64 := by decide
  rw [ver, rw_, List.take_append_of_le_length (by rw [big_length]; omega), List.take_of_length_le (by rw [big_length]; omega), num_big 8 v (by omega)]
theorem pl_rw (ek : List UInt8) (b v : Nat) (hv : v < 2 ^ 64) (plain : List UInt8) : pl ek b (rw_ ek b v plain) = plain := by
  rw [pl, ver_rw ek b v hv, rw_, List.drop_append_of_le_length (by rw [big_length]; omega), List.drop_eq_nil_of_le (by rw [big_length]; omega), List.nil_append, code_code]
theorem pl_length (ek : List UInt8) (b : Nat) (raw : List UInt8) : (pl ek b raw).length = raw.length - 8 := by rw [pl, code_length, List.length_drop]
theorem small3 (b : Nat) (raw : List UInt8) (h : raw.length ≤ 1000) : Hm.Small [leafW, big 4 b, raw] := by
  refine ⟨by simp, fun p hp => ?_⟩
  simp only [List.mem_cons, List.not_mem_nil, or_false] at hp
  rcases hp with rfl | rfl | rfl
  · decide
  · rw [big_length]; omega
  · exact h
theorem smallE : Hm.Small [encW] := ⟨by simp, by decide⟩
theorem smallM : Hm.Small [macW] := ⟨by simp, by decide⟩
theorem nnc_low (d : Int) (D4 u : Nat) (hD4 : (D4 : Int) = d % 4294967296) : nnc D4 u = nnc (nm d) u := by
  have hD := nm_int d
  unfold nnc
  rw [big_congr 4 D4 (nm d) (by have : (256 : Nat) ^ 4 = 4294967296 := by decide
                                rw [this]; omega)]
end Sl
end Go.Proofs.YthbmknpbcgnabaaGreatDoor
namespace Go.Proofs.YthbmknpbcgnabaaGreatDoor
open Go.RowKit
def Here (w : World) (b o : Nat) (cs : List Value) : Prop := w.rangeAt b o cs ∧ w.there b o cs.length
section
variable {w w' : World} {b o : Nat} {cs : List Value}
theorem Here.cell (h : Here w b o cs) {j : Nat} {v : Value} (hj : cs[j]? = some v) : w.cell? ⟨b, o + j, none⟩ = some v := h.1 j v hj
theorem Here.free (h : Here w b o cs) {j : Nat} (hj : j < cs.length) : w.frozen? ⟨b, o + j, none⟩ = false := (h.2 j hj).2
theorem Here.head (h : Here w b 0 cs) {j : Nat} {v : Value} (hj : cs[j]? = some v) : w.cell? ⟨b, j, none⟩ = some v := by have := h.1 j v hj; rwa [Nat.zero_add] at this
theorem Here.headFree (h : Here w b 0 cs) {j : Nat} (hj : j < cs.length) : w.frozen? ⟨b, j, none⟩ = false := by have := (h.2 j hj).2; rwa [Nat.zero_add] at this
theorem Here.lt (h : Here w b o cs) (hp : 0 < cs.length) : b < w.heap.size := by
  have hc := h.1 0 _ (List.getElem?_eq_getElem hp)
  exact World.block_lt_of_cell? w _ hc
theorem Here.part (h : Here w b o cs) (i n : Nat) : Here w b (o + i) ((cs.drop i).take n) := by
  refine ⟨fun j v hv => ?_, fun j hj => ?_⟩
  · rw [Nat.add_assoc]
    refine h.1 _ v ?_
    rw [List.getElem?_take] at hv
    split at hv
    · rwa [List.getElem?_drop] at hv
    · cases hv
  · rw [Nat.add_assoc]
    rw [List.length_take, List.length_drop] at hj
    exact h.2 _ (by omega)
theorem Row.here {g : Nat} {t : TypeId} (h : Row w g t cs) : Here w g 0 cs :=
  ⟨fun j v hv => by rw [Nat.zero_add, h.cell]; exact hv, fun j hj => by rw [Nat.zero_add, h.cell, List.getElem?_eq_getElem hj]; exact ⟨rfl, h.free j⟩⟩
theorem Here.append {ds : List Value} (h : Here w b o cs) (k : Here w b (o + cs.length) ds) : Here w b o (cs ++ ds) := by
  refine ⟨fun j v hv => ?_, fun j hj => ?_⟩
  · rcases Nat.lt_or_ge j cs.length with hl | hl
    · rw [List.getElem?_append_left hl] at hv; exact h.1 j v hv
    · rw [List.getElem?_append_right hl] at hv
      have := k.1 _ v hv
      rwa [show o + cs.length + (j - cs.length) = o + j by omega] at this
  · rw [List.length_append] at hj
    rcases Nat.lt_or_ge j cs.length with hl | hl
    · exact h.2 j hl
    · have := k.2 (j - cs.length) (by omega)
      rwa [show o + cs.length + (j - cs.length) = o + j by omega] at this
theorem Here.left {ds : List Value} (h : Here w b o (cs ++ ds)) : Here w b o cs := by
  have := h.part 0 cs.length
  simpa using this
theorem Here.right {ds : List Value} (h : Here w b o (cs ++ ds)) : Here w b (o + cs.length) ds := by
  have := h.part cs.length ds.length
  simpa using this
end
structure Chg (S : Nat → Nat → Prop) (w w' : World) : Prop where
  os : w'.os = w.os
  tape : w'.tape = w.tape
  output : w'.output = w.output
  size : w.heap.size ≤ w'.heap.size
  block : ∀ k, k < w.heap.size → (∀ o, ¬ S k o) → w'.heap[k]? = w.heap[k]?
  cell : ∀ k o, k < w.heap.size → ¬ S k o → w'.cell? ⟨k, o, none⟩ = w.cell? ⟨k, o, none⟩
  some : ∀ k o, (w.cell? ⟨k, o, none⟩).isSome = true → (w'.cell? ⟨k, o, none⟩).isSome = true
  free : ∀ k o, k < w.heap.size → w'.frozen? ⟨k, o, none⟩ = w.frozen? ⟨k, o, none⟩
section
variable {S T : Nat → Nat → Prop} {a w w' : World}
theorem Chg.refl (S : Nat → Nat → Prop) (w : World) : Chg S w w := ⟨rfl, rfl, rfl, Nat.le_refl _, fun _ _ _ => rfl, fun _ _ _ _ => rfl, fun _ _ h => h, fun _ _ _ => rfl⟩
theorem Chg.trans (h : Chg S a w) (k : Chg T w w') (hT : ∀ b o, b < a.heap.size → T b o → S b o) : Chg S a w' where
  os := k.os.trans h.os
  tape := k.tape.trans h.tape
  output := k.output.trans h.output
  size := Nat.le_trans h.size k.size
  block := fun b hb hn => (k.block b (Nat.lt_of_lt_of_le hb h.size) (fun o ho => hn o (hT b o hb ho))).trans (h.block b hb hn)
  cell := fun b o hb hn => (k.cell b o (Nat.lt_of_lt_of_le hb h.size) (fun ho => hn (hT b o hb ho))).trans (h.cell b o hb hn)
  some := fun b o hs => k.some b o (h.some b o hs)
  free := fun b o hb => (k.free b o (Nat.lt_of_lt_of_le hb h.size)).trans (h.free b o hb)
theorem Chg.then (h : Chg S a w) (k : Chg S w w') : Chg S a w' := h.trans k fun _ _ _ x => x
theorem Chg.mono (h : Chg S w w') (hT : ∀ b o, b < w.heap.size → S b o → T b o) : Chg T w w' := (Chg.refl T w).trans h hT
theorem Chg.below (h : Below w.heap.size w w') (S : Nat → Nat → Prop) : Chg S w w' where
  os := h.os
  tape := h.tape
  output := h.output
  size := h.size
  block := fun b hb _ => h.block b hb
  cell := fun b o hb _ => World.cell?_of_block (w := w) (h.block b hb)
  some := fun b o hs => by
    obtain ⟨u, hu⟩ := Option.isSome_iff_exists.1 hs
    rw [World.cell?_of_block (w := w) (h.block b (World.block_lt_of_cell? w _ hu))]; exact hs
  free := fun b o hb => by
    have := h.block b hb
    simp only [World.frozen?, this]
theorem Chg.drewN (h : Chg S a w) (n : Nat) : Chg S a (w.drewN n) := ⟨h.os, h.tape, h.output, h.size, h.block, h.cell, h.some, h.free⟩
theorem Chg.drew (h : Chg S a w) : Chg S a w.drew := ⟨h.os, h.tape, h.output, h.size, h.block, h.cell, h.some, h.free⟩
theorem Chg.alloc (h : Chg S a w) (ob : Obj) : Chg S a (w.alloc ob) := h.then (Chg.below ((Below.refl _ _).alloc (Nat.le_refl _) _) S)
theorem Chg.setCell (h : Chg S a w) {p : Addr} (hp : p.spot = none) (hS : p.block < a.heap.size → S p.block p.off) (hc : (w.cell? p).isSome = true) (u : Value) : Chg S a (w.setCell p u) := by
  obtain ⟨pb, po, ps⟩ := p
  obtain rfl : ps = none := hp
  refine h.trans (T := fun b o => b = pb ∧ o = po) ⟨rfl, rfl, rfl, by simp [World.setCell], fun k hk hn => ?_, fun k o hk hn => ?_, fun k o hs => ?_, fun k o hk => ?_⟩ ?_
  · exact heap_setCell_other w _ k u (fun e => hn po ⟨e, rfl⟩)
  · exact World.cell?_setCell_other _ _ _ _ (fun e => hn (by injection e with e1 e2; exact ⟨e1.symm, e2.symm⟩))
  · obtain ⟨u0, hu0⟩ := Option.isSome_iff_exists.1 hc
    by_cases e : (⟨pb, po, none⟩ : Addr) = ⟨k, o, none⟩
    · rw [← e, World.cell?_setCell_same _ _ _ hu0]; rfl
    · rw [World.cell?_setCell_other _ _ _ _ e]; exact hs
  · exact World.frozen?_setCell ..
  · rintro b o hb ⟨rfl, rfl⟩; exact hS hb
theorem Chg.setCells (h : Chg S a w) {b o : Nat} {vs : List Value} (hS : ∀ j, j < vs.length → b < a.heap.size → S b (o + j)) (ht : w.there b o vs.length) : Chg S a (w.setCells b o vs) := by
  induction vs generalizing w o with
  | nil => exact h
  | cons v r ih =>
    rw [World.setCells]
    refine ih (h.setCell rfl (fun hb => by have := hS 0 (by simp) hb; rwa [Nat.add_zero] at this) (by have := (ht 0 (by simp)).1; rwa [Nat.add_zero] at this) v) (fun j hj hb => ?_) ?_
    · have := hS (j + 1) (by simp; omega) hb
      rwa [show o + 1 + j = o + (j + 1) by omega]
    · intro j hj
      have h2 := World.there_setCells ht b o [v] (j + 1) (by simp; omega)
      rw [show o + 1 + j = o + (j + 1) by omega]
      exact h2
theorem Here.chg {b o : Nat} {cs : List Value} (h : Here w b o cs) (k : Chg S w w') (hn : ∀ j, j < cs.length → ¬ S b (o + j)) : Here w' b o cs := by
  refine ⟨fun j v hv => ?_, fun j hj => ?_⟩
  · have hj := (List.getElem?_eq_some_iff.1 hv).1
    rw [k.cell b _ (h.lt (by omega)) (hn j hj)]
    exact h.1 j v hv
  · exact ⟨k.some b _ (h.2 j hj).1, by rw [k.free b _ (h.lt (by omega))]; exact (h.2 j hj).2⟩
theorem Here.stay {b o : Nat} {cs : List Value} (h : Here w b o cs) (k : Below w.heap.size w w') : Here w' b o cs := h.chg (Chg.below k fun _ _ => False) fun _ _ x => x
theorem Here.alloc {b o : Nat} {cs : List Value} (h : Here w b o cs) (ob : Obj) : Here (w.alloc ob) b o cs := h.stay ((Below.refl _ _).alloc (Nat.le_refl _) _)
theorem Here.set {b o : Nat} {cs : List Value} (h : Here w b o cs) (vs : List Value) (hl : vs.length = cs.length) : Here (w.setCells b o vs) b o vs :=
  ⟨World.rangeAt_setCells_same w b o vs (by rw [hl]; exact h.2), by rw [hl]; exact World.there_setCells h.2 b o vs⟩
theorem Here.setOff {b o b' o' : Nat} {cs : List Value} (h : Here w b o cs) (vs : List Value) (hap : b ≠ b' ∨ o + cs.length ≤ o' ∨ o' + vs.length ≤ o) : Here (w.setCells b' o' vs) b o cs :=
  ⟨World.rangeAt_setCells_apart h.1 b' o' vs hap, World.there_setCells h.2 b' o' vs⟩
theorem Here.put {b o : Nat} {cs : List Value} (h : Here w b o cs) (j : Nat) (hj : j < cs.length) (v : Value) : Here (w.setCell ⟨b, o + j, none⟩ v) b o (cs.set j v) := by
  refine ⟨fun i u hu => ?_, fun i hi => ?_⟩
  · have hi : i < cs.length := by have := (List.getElem?_eq_some_iff.1 hu).1; simpa using this
    by_cases e : i = j
    · subst e
      rw [List.getElem?_set_self hj] at hu
      injection hu with hu
      subst hu
      exact World.cell?_setCell_same _ _ _ (h.1 i _ (List.getElem?_eq_getElem hj))
    · rw [List.getElem?_set_ne (fun e' => e e'.symm)] at hu
      rw [World.cell?_setCell_other _ _ _ _ (fun e' => by injection e' with _ e2; omega)]
      exact h.1 i u hu
  · rw [List.length_set] at hi
    have := World.there_setCells h.2 b (o + j) [v] i hi
    exact this
theorem Here.putOff {b o : Nat} {cs : List Value} (h : Here w b o cs) {p : Addr} (hp : b ≠ p.block) (v : Value) : Here (w.setCell p v) b o cs := by
  refine ⟨fun i u hu => ?_, fun i hi => ?_⟩
  · rw [World.cell?_setCell_other _ _ _ _ (fun e' => hp (by rw [e'] ))]
    exact h.1 i u hu
  · refine ⟨?_, ?_⟩
    · rw [World.cell?_setCell_other _ _ _ _ (fun e' => hp (by rw [e']))]; exact (h.2 i hi).1
    · rw [World.frozen?_setCell]; exact (h.2 i hi).2
end
namespace Dsk
structure Blk where
  dur : List UInt8
  wr : Option (List UInt8)
  past : List UInt8
def z72 : List UInt8 := List.replicate 72 0
def Blk.zero : Blk := ⟨z72, none, z72⟩
def Blk.dirty (b : Blk) : Bool := b.wr.isSome
def Blk.cur (b : Blk) : List UInt8 := b.wr.getD b.dur
def Blk.write (b : Blk) (c : List UInt8) : Blk := ⟨b.dur, some c, b.cur⟩
def Blk.settle (b : Blk) (k : Bool) : Blk := ⟨if k then b.cur else b.dur, none, b.past⟩
structure Blk.ok (b : Blk) : Prop where
  dur : b.dur.length = 72
  past : b.past.length = 72
  wr : ∀ c, b.wr = some c → c.length = 72
theorem Blk.ok.cur {b : Blk} (h : b.ok) : b.cur.length = 72 := by
  unfold Blk.cur
  cases hw : b.wr with
  | none => exact h.dur
  | some c => exact h.wr c hw
theorem z72_length : z72.length = 72 := by simp [z72]
theorem Blk.zero_ok : Blk.zero.ok := ⟨z72_length, z72_length, fun c hc => by cases hc⟩
theorem Blk.write_ok {b : Blk} (h : b.ok) {c : List UInt8} (hc : c.length = 72) : (b.write c).ok := ⟨h.dur, h.cur, fun c' e => by injection e with e; rw [← e]; exact hc⟩
theorem Blk.settle_ok {b : Blk} (h : b.ok) (k : Bool) : (b.settle k).ok := ⟨by unfold Blk.settle; cases k <;> simp [h.dur, h.cur], h.past, fun c e => by cases e⟩
theorem Blk.settle_clean {b : Blk} (h : b.dirty = false) (k : Bool) : b.settle k = b := by
  obtain ⟨d, w, p⟩ := b
  cases w with
  | some c => cases h
  | none => cases k <;> rfl
def cnt (L : List Blk) : Nat := L.countP Blk.dirty
theorem cnt_snoc {L : List Blk} {i : Nat} {b : Blk} (h : L[i]? = some b) : cnt (L.take (i + 1)) = cnt (L.take i) + if b.dirty then 1 else 0 := by
  obtain ⟨hi, e⟩ := List.getElem?_eq_some_iff.1 h
  rw [List.take_succ_eq_append_getElem hi, cnt, List.countP_append, e]
  simp [cnt, List.countP_cons]
theorem cnt_take_le (L : List Blk) (i : Nat) : cnt (L.take i) ≤ L.length := by
  unfold cnt
  exact Nat.le_trans List.countP_le_length (by rw [List.length_take]; omega)
def crashTo (keep : Nat → Bool) (L : List Blk) (i : Nat) : List Blk := L.mapIdx fun j b => if j < i then b.settle (keep (cnt (L.take j))) else b
def crash (keep : Nat → Bool) (L : List Blk) : List Blk := crashTo keep L L.length
section
variable (keep : Nat → Bool) (L : List Blk)
theorem crashTo_length (i : Nat) : (crashTo keep L i).length = L.length := by simp [crashTo]
theorem crashTo_get (i j : Nat) : (crashTo keep L i)[j]? = L[j]?.map fun b => if j < i then b.settle (keep (cnt (L.take j))) else b := by simp [crashTo]
theorem crashTo_zero : crashTo keep L 0 = L := by
  apply List.ext_getElem?
  intro j
  rw [crashTo_get]
  cases L[j]? <;> simp
theorem crashTo_at (i : Nat) : (crashTo keep L i)[i]? = L[i]? := by
  rw [crashTo_get]
  cases L[i]? <;> simp
theorem crashTo_succ {i : Nat} {b : Blk} (h : L[i]? = some b) : crashTo keep L (i + 1) = (crashTo keep L i).set i (b.settle (keep (cnt (L.take i)))) := by
  obtain ⟨hi, e⟩ := List.getElem?_eq_some_iff.1 h
  apply List.ext_getElem?
  intro j
  rw [crashTo_get, List.getElem?_set, crashTo_length]
  by_cases hj : i = j
  · subst hj
    rw [if_pos rfl, if_pos hi, h]
    simp
  · rw [if_neg hj, crashTo_get]
    cases L[j]? with
    | none => rfl
    | some c =>
      simp only [Option.map_some]
      congr 1
      by_cases h1 : j < i
      · rw [if_pos (by omega), if_pos h1]
      · rw [if_neg (by omega), if_neg h1]
theorem crashTo_skip {i : Nat} {b : Blk} (h : L[i]? = some b) (hd : b.dirty = false) : crashTo keep L (i + 1) = crashTo keep L i := by
  rw [crashTo_succ keep L h, Blk.settle_clean hd]
  have := crashTo_at keep L i
  rw [h] at this
  obtain ⟨hi, e⟩ := List.getElem?_eq_some_iff.1 this
  rw [← e, List.set_getElem_self]
end
end Dsk
end Go.Proofs.YthbmknpbcgnabaaGreatDoor
namespace Go.Proofs.YthbmknpbcgnabaaGreatDoor
open Go.RowKit Dsk
theorem V8_length (l : List UInt8) (n : Nat) (h : l.length = n) : (l.map V8).length = n := by rw [List.length_map, h]
def cellsB (b : Blk) (p : Nat) : List Value := b.dur.map V8 ++ (.pointer (if b.dirty then some ⟨p, 0, none⟩ else none) :: b.past.map V8)
theorem cellsB_length {b : Blk} (h : b.ok) (p : Nat) : (cellsB b p).length = 145 := by simp [cellsB, h.dur, h.past]
structure DiskW (w : World) (F : Nat → Prop) (D g : Nat) (ps : Nat → Nat) (L : List Blk) : Prop where
  head : Here w D 0 [.slice (some ⟨g, 0, none⟩) L.length L.length]
  row : ∀ (i : Nat) (b : Blk), L[i]? = some b → Here w g (i * 145) (cellsB b (ps i))
  wr : ∀ (i : Nat) (b : Blk), L[i]? = some b → b.dirty = true → Here w (ps i) 0 (b.cur.map V8)
  ok : ∀ (i : Nat) (b : Blk), L[i]? = some b → b.ok
  inj : ∀ (i j : Nat) (b c : Blk), L[i]? = some b → L[j]? = some c → b.dirty = true → c.dirty = true → ps i = ps j → i = j
  apart : ∀ (i : Nat) (b : Blk), L[i]? = some b → b.dirty = true → ps i ≠ D ∧ ps i ≠ g ∧ F (ps i)
  dg : D ≠ g
  fD : F D
  fg : F g
  lt : ∀ k, F k → k < w.heap.size
  few : L.length ≤ 512
section
variable {w w' : World} {F : Nat → Prop} {D g : Nat} {ps : Nat → Nat} {L : List Blk}
theorem DiskW.dur (h : DiskW w F D g ps L) {i : Nat} {b : Blk} (hb : L[i]? = some b) : Here w g (i * 145) (b.dur.map V8) := (h.row i b hb).left
theorem DiskW.ptr (h : DiskW w F D g ps L) {i : Nat} {b : Blk} (hb : L[i]? = some b) : Here w g (i * 145 + 72) [.pointer (if b.dirty then some ⟨ps i, 0, none⟩ else none)] := by
  have h1 := (h.row i b hb).right
  rw [V8_length _ 72 (h.ok i b hb).dur] at h1
  exact Here.left (cs := [_]) h1
theorem DiskW.past (h : DiskW w F D g ps L) {i : Nat} {b : Blk} (hb : L[i]? = some b) : Here w g (i * 145 + 73) (b.past.map V8) := by
  have h1 := (h.row i b hb).right
  rw [V8_length _ 72 (h.ok i b hb).dur] at h1
  exact Here.right (cs := [_]) h1
def curAt (g : Nat) (ps : Nat → Nat) (i : Nat) (b : Blk) : Addr := if b.dirty then ⟨ps i, 0, none⟩ else ⟨g, i * 145, none⟩
theorem DiskW.cur (h : DiskW w F D g ps L) {i : Nat} {b : Blk} (hb : L[i]? = some b) : Here w (curAt g ps i b).block (curAt g ps i b).off (b.cur.map V8) := by
  unfold curAt
  by_cases hd : b.dirty = true
  · rw [if_pos hd]; exact h.wr i b hb hd
  · rw [if_neg hd]
    have : b.cur = b.dur := by
      unfold Blk.cur
      cases hw : b.wr with
      | none => rfl
      | some c => exact absurd (by unfold Blk.dirty; rw [hw]; rfl) hd
    rw [this]
    exact h.dur hb
end
set_option maxRecDepth 100000 in
set_option maxHeartbeats 400000 in
theorem DBlocks_any {w : World} {F : Nat → Prop} {D g : Nat} {ps : Nat → Nat} {L : List Blk} (h : DiskW w F D g ps L) :
    Calls Tryz.prog 70 #[.pointer (some ⟨D, 0, none⟩)] w fun e w' => e = .returned (.int .i64 L.length) ∧ w' = w := by
  have hc := h.head.head (j := 0) rfl
  generalize L.length = n at *
  clear h
  go_enter Tryz.func70, Tryz.ntmps70
  go_wp2
  go_ret
  exact ⟨rfl, rfl⟩
set_option maxRecDepth 100000 in
set_option maxHeartbeats 400000 in
theorem Dat_in {w : World} {F : Nat → Prop} {D g : Nat} {ps : Nat → Nat} {L : List Blk} (h : DiskW w F D g ps L) (i : Nat) (hi : i < L.length) :
    Calls Tryz.prog 63 #[.pointer (some ⟨D, 0, none⟩), .int .i64 i] w fun e w' => e = .returned (.pointer (some ⟨g, i * 145, none⟩)) ∧ w' = w := by
  have hc := h.head.head (j := 0) rfl
  have HB := Lib.hid (DBlocks_any h)
  have hf := h.few
  generalize L.length = n at *
  clear h
  go_enter Tryz.func63, Tryz.ntmps63
  go_wp2_with fail
  refine HB.out.mono ?_
  rintro e w1 ⟨rfl, rfl⟩
  clear HB
  go_wp2
  go_ret
  exact ⟨rfl, rfl⟩
set_option maxRecDepth 100000 in
set_option maxHeartbeats 400000 in
theorem Dat_out {w : World} {F : Nat → Prop} {D g : Nat} {ps : Nat → Nat} {L : List Blk} (h : DiskW w F D g ps L) (i : Int) (hi : i < 0 ∨ (L.length : Int) ≤ i) :
    Calls Tryz.prog 63 #[.pointer (some ⟨D, 0, none⟩), .int .i64 i] w fun e w' => e = .returned (.pointer none) ∧ w' = w := by
  have HB := Lib.hid (DBlocks_any h)
  have hf := h.few
  generalize L.length = n at *
  clear h
  go_enter Tryz.func63, Tryz.ntmps63
  rcases Int.lt_or_le i 0 with h0 | h0
  · go_wp2_with fail
    go_ret
    exact ⟨rfl, rfl⟩
  · have h1 : (n : Int) ≤ i := by omega
    clear hi
    go_wp2_with fail
    refine HB.out.mono ?_
    rintro e w1 ⟨rfl, rfl⟩
    clear HB
    go_wp2
    go_ret
    exact ⟨rfl, rfl⟩
set_option maxRecDepth 100000 in
set_option maxHeartbeats 400000 in
theorem Dcur_any (g o : Nat) (d : Bool) (p : Nat) (w : World) (hc : w.cell? ⟨g, o + 72, none⟩ = some (.pointer (if d then some ⟨p, 0, none⟩ else none))) :
    Calls Tryz.prog 64 #[.pointer (some ⟨g, o, none⟩)] w fun e w' => e = .returned (.pointer (some (if d then ⟨p, 0, none⟩ else ⟨g, o, none⟩))) ∧ w' = w := by
  go_enter Tryz.func64, Tryz.ntmps64
  cases d
  · rw [if_neg (by simp)] at hc
    go_wp2
    go_ret
    exact ⟨rfl, rfl⟩
  · rw [if_pos rfl] at hc
    go_wp2
    go_ret
    exact ⟨rfl, rfl⟩
end Go.Proofs.YthbmknpbcgnabaaGreatDoor
namespace Go.Proofs.YthbmknpbcgnabaaGreatDoor
open Go.RowKit Dsk
theorem info72 {cs : List Value} (h : cs.length = 72) : (Tryz.prog.info? 131).map (·.size) = some cs.length := by rw [h]; kernel_rfl
theorem info72a {cs : List Value} (h : cs.length = 72) : (Tryz.prog.info? 131).map (·.size) = some cs.toArray.size := by rw [List.size_toArray, h]; kernel_rfl
set_option maxRecDepth 100000 in
set_option maxHeartbeats 1000000 in
theorem Dbwrite_any (g o : Nat) (d : Bool) (p : Nat) (cb co : Nat) (hcur : (if d then (⟨p, 0, none⟩ : Addr) else ⟨g, o, none⟩) = ⟨cb, co, none⟩) (cs rs ps : List Value) (w : World)
    (hp : Here w g (o + 72) [.pointer (if d then some ⟨p, 0, none⟩ else none)]) (hc : Here w cb co cs) (hq : Here w g (o + 73) ps)
    (l1 : cs.length = 72) (l3 : ps.length = 72) (c1 : cs.toArray.all (·.oneCell') = true) :
    Calls Tryz.prog 122 #[.pointer (some ⟨g, o, none⟩), .agg rs.toArray] w fun e w' => e = .returned (.tuple #[]) ∧
      Here w' w.heap.size 0 rs ∧ Here w' g (o + 72) [.pointer (some ⟨w.heap.size, 0, none⟩)] ∧ Here w' g (o + 73) cs ∧ Chg (fun b j => b = g ∧ o + 72 ≤ j ∧ j < o + 145) w w' := by
  have hg : g < w.heap.size := hp.lt (by simp)
  obtain ⟨w1, hw1⟩ : ∃ w1, w1 = w.alloc (.cells rs.toArray 131) := ⟨_, rfl⟩
  have Hsz : Hid (w1.heap.size = w.heap.size + 1) := by rw [hw1]; show _ = _; simp
  have Hnew : Hid (Here w1 w.heap.size 0 rs) := by rw [hw1]; exact (Row.new w 131 rs).here
  have Hp : Hid (Here w1 g (o + 72) [.pointer (if d then some ⟨p, 0, none⟩ else none)]) := by rw [hw1]; exact hp.alloc _
  have Hc : Hid (Here w1 cb co cs) := by rw [hw1]; exact hc.alloc _
  have Hq : Hid (Here w1 g (o + 73) ps) := by rw [hw1]; exact hq.alloc _
  have HX : Hid (Chg (fun b j => b = g ∧ o + 72 ≤ j ∧ j < o + 145) w w1) := by rw [hw1]; exact (Chg.refl _ w).alloc _
  have HW := Lib.hid hw1
  have i1 := Lib.hid (info72 l1)
  have j1 := Lib.hid (info72a l1)
  have C1 := Lib.hid c1
  have T1 : Hid (w1.there g (o + 73) cs.toArray.size) := by show World.there _ _ _ _; rw [List.size_toArray, l1, ← l3]; exact Hq.out.2
  have hpc := Hp.out.cell (j := 0) rfl
  rw [Nat.add_zero] at hpc
  have HCur := Lib.hid (Dcur_any g o d p w1 hpc)
  have HF : Hid (Here (w1.setCells g (o + 73) cs) g (o + 72) [.pointer (if d then some ⟨p, 0, none⟩ else none)] ∧ Here (w1.setCells g (o + 73) cs) g (o + 73) cs ∧ Here (w1.setCells g (o + 73) cs) w.heap.size 0 rs ∧ Chg (fun b j => b = g ∧ o + 72 ≤ j ∧ j < o + 145) w (w1.setCells g (o + 73) cs)) :=
    ⟨Hp.out.setOff cs (.inr (.inl (by simp))), Hq.out.set cs (by omega), Hnew.out.setOff cs (.inl (by omega)),
      HX.out.setCells (fun j hj _ => ⟨rfl, by omega, by omega⟩) (by rw [l1, ← l3]; exact Hq.out.2)⟩
  rw [hcur] at HCur
  clear hp hc hq l1 l3 c1 hw1 hpc Hp Hq HX Hnew
  go_enter Tryz.func122, Tryz.ntmps122
  go_wp2_with fail
  rw [← HW.out]
  refine HCur.out.mono ?_
  rintro e w2 ⟨rfl, rfl⟩
  obtain ⟨w3, hw3⟩ : ∃ w3, w3 = w2.setCells g (o + 73) cs := ⟨_, rfl⟩
  rw [← hw3] at HF
  have HW3 := Lib.hid hw3
  have hcell : w3.cell? ⟨g, o + 72, none⟩ = some (.pointer (if d then some ⟨p, 0, none⟩ else none)) := by have := HF.out.1.cell (j := 0) rfl; rwa [Nat.add_zero] at this
  have hfree : w3.frozen? ⟨g, o + 72, none⟩ = false := by have := HF.out.1.free (j := 0) (by simp); rwa [Nat.add_zero] at this
  clear hw3 HCur hcur HW
  go_wp2_with (first
    | (refine wpList_load_mid rfl 131 (.tmp 7) rfl cb co rfl cs _ Hc.out.1 Tryz.underlying131 rfl i1.out ?_)
    | (refine wpList_store_mid rfl 131 (.tmp 10) (.tmp 8) rfl g (o + 73) cs.toArray rfl rfl T1.out j1.out C1.out ?_; rw [List.toList_toArray, ← HW3.out]; clear T1 HW3 Hc))
  go_end0
  refine ⟨rfl, HF.out.2.2.1.putOff (by simp; omega) _, ?_, ?_, HF.out.2.2.2.setCell rfl (fun _ => ⟨rfl, by simp, by simp⟩) (by rw [hcell]; rfl) _⟩
  · exact HF.out.1.put 0 (by simp) _
  · have := HF.out.2.1.setOff (b' := g) (o' := o + 72) [.pointer (some ⟨w.heap.size, 0, none⟩)] (.inr (.inr (by simp)))
    exact this
set_option maxRecDepth 100000 in
set_option maxHeartbeats 1000000 in
theorem Dsettle_any (g o p : Nat) (k : Bool) (cs ds : List Value) (w : World)
    (hp : Here w g (o + 72) [.pointer (some ⟨p, 0, none⟩)]) (hc : Here w p 0 cs) (hd : Here w g o ds)
    (l1 : cs.length = 72) (l2 : ds.length = 72) (c1 : cs.toArray.all (·.oneCell') = true) :
    Calls Tryz.prog 67 #[.pointer (some ⟨g, o, none⟩), .bool k] w fun e w' => e = .returned (.tuple #[]) ∧
      Here w' g (o + 72) [.pointer none] ∧ Here w' g o (if k then cs else ds) ∧ Chg (fun b j => b = g ∧ o ≤ j ∧ j < o + 73) w w' := by
  have HP := Lib.hid hp
  have i1 := Lib.hid (info72 l1)
  have j1 := Lib.hid (info72a l1)
  have C1 := Lib.hid c1
  have HC := Lib.hid hc.1
  have T1 : Hid (w.there g o cs.toArray.size) := by show World.there _ _ _ _; rw [List.size_toArray, l1, ← l2]; exact hd.2
  have HF : Hid (Here (w.setCells g o cs) g (o + 72) [.pointer (some ⟨p, 0, none⟩)] ∧ Here (w.setCells g o cs) g o cs ∧ Chg (fun b j => b = g ∧ o ≤ j ∧ j < o + 73) w (w.setCells g o cs)) :=
    ⟨hp.setOff cs (.inr (.inr (by omega))), hd.set cs (by omega), (Chg.refl _ w).setCells (fun j hj _ => ⟨rfl, by omega, by omega⟩) (by rw [l1, ← l2]; exact hd.2)⟩
  have HD := Lib.hid hd
  have L2 := Lib.hid l2
  have L1 := Lib.hid l1
  have hcell : w.cell? ⟨g, o + 72, none⟩ = some (.pointer (some ⟨p, 0, none⟩)) := by have := hp.cell (j := 0) rfl; rwa [Nat.add_zero] at this
  have hfree : w.frozen? ⟨g, o + 72, none⟩ = false := by have := hp.free (j := 0) (by simp); rwa [Nat.add_zero] at this
  clear hp hc hd l1 l2 c1
  go_enter Tryz.func67, Tryz.ntmps67
  cases k
  · go_wp2
    go_end0
    refine ⟨rfl, HP.out.put 0 (by simp) _, HD.out.setOff (b' := g) (o' := o + 72) [.pointer none] (.inr (.inl (by rw [L2.out]; exact Nat.le_refl _))), (Chg.refl _ w).setCell rfl (fun _ => ⟨rfl, by simp, by simp⟩) (by rw [hcell]; rfl) _⟩
  · obtain ⟨w3, hw3⟩ : ∃ w3, w3 = w.setCells g o cs := ⟨_, rfl⟩
    rw [← hw3] at HF
    have HW3 := Lib.hid hw3
    have hcell3 : w3.cell? ⟨g, o + 72, none⟩ = some (.pointer (some ⟨p, 0, none⟩)) := by have := HF.out.1.cell (j := 0) rfl; rwa [Nat.add_zero] at this
    have hfree3 : w3.frozen? ⟨g, o + 72, none⟩ = false := by have := HF.out.1.free (j := 0) (by simp); rwa [Nat.add_zero] at this
    clear hw3
    go_wp2_with (first
      | (refine wpList_load_mid rfl 131 (.tmp 10) rfl p 0 rfl cs _ HC.out Tryz.underlying131 rfl i1.out ?_)
      | (refine wpList_store_mid rfl 131 (.tmp 13) (.tmp 11) rfl g o cs.toArray rfl rfl T1.out j1.out C1.out ?_; rw [List.toList_toArray, ← HW3.out]; clear T1 HW3 HC))
    go_end0
    refine ⟨rfl, HF.out.1.put 0 (by simp) _, HF.out.2.1.setOff (b' := g) (o' := o + 72) [.pointer none] (.inr (.inl (by rw [L1.out]; exact Nat.le_refl _))), HF.out.2.2.setCell rfl (fun _ => ⟨rfl, by simp, by simp⟩) (by rw [hcell3]; rfl) _⟩
end Go.Proofs.YthbmknpbcgnabaaGreatDoor
