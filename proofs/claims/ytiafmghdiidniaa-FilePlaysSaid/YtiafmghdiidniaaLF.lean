/-
  PLAIN (no program): a store's blocks, the numbers and the bytes of files in it; what the law's apart counts.
-/
import Derived.Test.YtiafmghdiidniaaLB
import Derived.Test.YtiafmghdiidniaaFBA
namespace Go.Proofs.Ytiafmghdiidniaa
open Cdc
namespace Fil
open Inn

/-- A block. -/
def blk (bl : List (List UInt8)) (i : Nat) : List UInt8 := bl.getD i []
/-- The numbers that an inode names itself, as many as it needs. -/
def direct (x : Ino) : List Nat := ([x.b0, x.b1, x.b2, x.b3].map Int.toNat).take (data x.b)
/-- The numbers in its indirect block, as many as it needs. -/
def further (x : Ino) (bl : List (List UInt8)) : List Nat := if 4 < data x.b then ((blk bl x.d.toNat).take (data x.b - 4)).map UInt8.toNat else []
/-- The blocks of its bytes, in order. -/
def numsOf (x : Ino) (bl : List (List UInt8)) : List Nat := direct x ++ further x bl
/-- All its blocks. -/
def allOf (x : Ino) (bl : List (List UInt8)) : List Nat := direct x ++ (if 4 < data x.b then [x.d.toNat] else []) ++ further x bl
/-- Its bytes. -/
def content (x : Ino) (bl : List (List UInt8)) : List UInt8 := ((numsOf x bl).flatMap (blk bl)).take x.b.toNat
/-- All that is taken: what lies below the first block of files, and all files' blocks. -/
def taken (g : Geo) (l : List Ino) (bl : List (List UInt8)) : List Nat := List.range (gfirst g) ++ l.flatMap fun x => allOf x bl
/-- Files have blocks of their own; these are taken, and no others. -/
structure Apart (g : Geo) (l : List Ino) (bl : List (List UInt8)) : Prop where
  may : ∀ x ∈ l, Inn.may x = true
  one : (taken g l bl).Nodup
  lt : ∀ i ∈ taken g l bl, (i : Int) < g.n
  bits : ∀ i, i < 512 → Bm.tb (blk bl 0) i = decide (i ∈ taken g l bl)
  many : (bl.length : Int) = g.n
  len : ∀ b ∈ bl, b.length = 64
theorem taken_snoc (g : Geo) (l : List Ino) (x : Ino) (bl : List (List UInt8)) : taken g (l ++ [x]) bl = taken g l bl ++ allOf x bl := by
  simp [taken, List.append_assoc]
theorem Apart.count {g : Geo} {l : List Ino} {bl : List (List UInt8)} (h : Apart g l bl) (i : Nat) : (taken g l bl).count i = if i ∈ taken g l bl then 1 else 0 := by
  by_cases hi : i ∈ taken g l bl
  · rw [if_pos hi]; exact h.one.count (a := i) |>.trans (if_pos hi)
  · rw [if_neg hi]; exact List.count_eq_zero.2 hi
theorem Apart.blen {g : Geo} {l : List Ino} {bl : List (List UInt8)} (h : Apart g l bl) {i : Nat} (hi : (i : Int) < g.n) : (blk bl i).length = 64 := by
  unfold blk
  have := h.many
  rw [List.getD_eq_getElem?_getD, List.getElem?_eq_getElem (by omega), Option.getD_some]
  exact h.len _ (List.getElem_mem _)
/-- A valid inode's own numbers: those that are above 0. -/
theorem direct_pos {x : Ino} (h : Inn.may x = true) (hk : x.k ≠ 0) (i : Nat) (hi : i < 4) : (0 < [x.b0, x.b1, x.b2, x.b3].getD i 0) ↔ i < data x.b := by
  have h4 := ((may_used hk).1 h).2.2.2 (i + 2) (by omega) (by omega)
  have := (okAt_iff.1 h4).2.2.1
  rw [needed, if_pos (by omega)] at this
  have e : x.l.getD (i + 2) 0 = [x.b0, x.b1, x.b2, x.b3].getD i 0 := by
    match i, hi with
    | 0, _ => rfl
    | 1, _ => rfl
    | 2, _ => rfl
    | 3, _ => rfl
  rw [e] at this
  have := decide_eq_decide.1 this
  omega
theorem ind_pos {x : Ino} (h : Inn.may x = true) (hk : x.k ≠ 0) : (0 < x.d) ↔ 4 < data x.b := by
  have h4 := ((may_used hk).1 h).2.2.2 6 (by omega) (by omega)
  have := (okAt_iff.1 h4).2.2.1
  rw [needed, if_neg (by omega)] at this
  have e : x.l.getD 6 0 = x.d := rfl
  rw [e] at this
  exact decide_eq_decide.1 this
/-- How many blocks a file has: as many as it needs. -/
theorem direct_length (x : Ino) : (direct x).length = min (data x.b) 4 := by simp [direct]
theorem allOf_length {g : Geo} {l : List Ino} {bl : List (List UInt8)} (h : Apart g l bl) {x : Ino} (hx : x ∈ l) : (allOf x bl).length = need x.b := by
  have hb := may_bounds (h.may x hx)
  have hd := data_le hb.2.2.2.1
  unfold allOf further need
  by_cases h4 : 4 < data x.b
  · have hm : x.d.toNat ∈ taken g l bl := by
      unfold taken
      refine List.mem_append_right _ (List.mem_flatMap.2 ⟨x, hx, ?_⟩)
      unfold allOf
      rw [if_pos h4]
      simp
    have := h.blen (h.lt _ hm)
    simp only [if_pos h4, List.length_append, direct_length, List.length_map, List.length_take, List.length_singleton, this]
    omega
  · simp only [if_neg h4, List.length_append, direct_length, List.length_nil]
    omega
theorem taken_length {g : Geo} {l : List Ino} {bl : List (List UInt8)} (h : Apart g l bl) : (taken g l bl).length = gfirst g + (l.map fun x => need x.b).sum := by
  unfold taken
  rw [List.length_append, List.length_range, List.length_flatMap]
  congr 2
  apply List.map_congr_left
  intro x hx
  exact allOf_length h hx
theorem cnt_filter (p : Nat → Bool) (n : Nat) : Bm.cnt p n = ((List.range n).filter p).length := by
  induction n with
  | zero => rfl
  | succ n ih =>
    rw [Bm.cnt, ih, List.range_succ, List.filter_append, List.length_append]
    congr 1
    by_cases h : p n = true
    · rw [if_pos h]; simp [h]
    · rw [if_neg h]; simp [h]
/-- How many blocks from the first one on are not taken. -/
def freeN (g : Geo) (bl : List (List UInt8)) : Int := g.n - gfirst g - Bm.count (blk bl 0) (gfirst g) g.n
/-- The numbers of all files. -/
def filed (l : List Ino) (bl : List (List UInt8)) : List Nat := l.flatMap fun x => allOf x bl
theorem filed_count {g : Geo} {l : List Ino} {bl : List (List UInt8)} (h : Apart g l bl) (hg : gmay g = true) : Bm.count (blk bl 0) (gfirst g) g.n = (filed l bl).length := by
  obtain ⟨g1, g2, _, _, g5⟩ := gmay_iff.1 hg
  have hb0 : (blk bl 0).length = 64 := h.blen (i := 0) (by omega)
  unfold Bm.count
  rw [hb0, cnt_filter]
  have hnd : (List.range (gfirst g) ++ filed l bl).Nodup := h.one
  rw [List.nodup_append] at hnd
  apply List.Perm.length_eq
  refine (List.perm_ext_iff_of_nodup (List.Pairwise.filter _ List.nodup_range) hnd.2.1).2 fun i => ?_
  rw [List.mem_filter, List.mem_range]
  constructor
  · rintro ⟨hi, hp⟩
    simp only [Bm.setP, Bm.inR, Bool.and_eq_true, decide_eq_true_eq] at hp
    rw [h.bits i (by omega), decide_eq_true_eq] at hp
    rcases List.mem_append.1 hp.1 with hm | hm
    · have := List.mem_range.1 hm
      omega
    · exact hm
  · intro hm
    have hmt : i ∈ taken g l bl := List.mem_append_right _ hm
    have hlt := h.lt i hmt
    refine ⟨by omega, ?_⟩
    simp only [Bm.setP, Bm.inR, Bool.and_eq_true, decide_eq_true_eq]
    refine ⟨?_, ?_, hlt⟩
    · rw [h.bits i (by omega), decide_eq_true_eq]; exact hmt
    · have : ¬ i < gfirst g := fun hlt => hnd.2.2 i (List.mem_range.2 hlt) i hm rfl
      omega
theorem filed_length {g : Geo} {l : List Ino} {bl : List (List UInt8)} (h : Apart g l bl) : (filed l bl).length = (l.map fun x => need x.b).sum := by
  unfold filed
  rw [List.length_flatMap]
  congr 1
  apply List.map_congr_left
  intro x hx
  exact allOf_length h hx
/-- What is left is what the document says. -/
theorem free_left {g : Geo} {l : List Ino} {bl : List (List UInt8)} (h : Apart g l bl) (hg : gmay g = true) (fs : List (List UInt8)) (hl : l.map (fun x => x.b) = fs.map (fun s => (s.length : Int))) : freeN g bl = gleft g fs := by
  unfold freeN gleft needs
  rw [filed_count h hg, filed_length h]
  have e : (l.map fun x => need x.b) = fs.map fun s => need s.length := by
    have := congrArg (List.map need) hl
    rwa [List.map_map, List.map_map] at this
  rw [e]
theorem taken_split (g : Geo) (l : List Ino) (bl : List (List UInt8)) {q : Nat} {x : Ino} (hx : l[q]? = some x) : taken g l bl = taken g (l.take q) bl ++ allOf x bl ++ filed (l.drop (q + 1)) bl := by
  obtain ⟨hq, hxe⟩ := List.getElem?_eq_some_iff.1 hx
  have e : l = l.take q ++ x :: l.drop (q + 1) := by
    have := (List.take_append_drop q l).symm
    rwa [List.drop_eq_getElem_cons hq, hxe] at this
  conv => lhs; rw [e]
  simp [taken, filed, List.append_assoc]
theorem taken_succ (g : Geo) (l : List Ino) (bl : List (List UInt8)) {q : Nat} {x : Ino} (hx : l[q]? = some x) : taken g (l.take (q + 1)) bl = taken g (l.take q) bl ++ allOf x bl := by
  obtain ⟨hq, hxe⟩ := List.getElem?_eq_some_iff.1 hx
  rw [← taken_snoc, List.take_succ_eq_append_getElem hq, hxe]
/-- What was met so far holds each number once at most. -/
theorem count_pre {g : Geo} {l : List Ino} {bl : List (List UInt8)} (h : Apart g l bl) {q : Nat} {x : Ino} (hx : l[q]? = some x) (Y Z : List Nat) (hY : allOf x bl = Y ++ Z) (a : Nat) : (taken g (l.take q) bl ++ Y).count a ≤ 1 := by
  have h1 := h.count a
  rw [taken_split g l bl hx, hY] at h1
  have h2 : (taken g (l.take q) bl ++ (Y ++ Z) ++ filed (l.drop (q + 1)) bl).count a = (taken g (l.take q) bl ++ Y).count a + (Z.count a + (filed (l.drop (q + 1)) bl).count a) := by
    simp only [List.count_append]; omega
  rw [h2] at h1
  split at h1 <;> omega
theorem mem_lt {g : Geo} {l : List Ino} {bl : List (List UInt8)} (h : Apart g l bl) {q : Nat} {x : Ino} (hx : l[q]? = some x) {a : Nat} (ha : a ∈ allOf x bl) : (a : Int) < g.n := by
  refine h.lt a ?_
  rw [taken_split g l bl hx]
  exact List.mem_append_left _ (List.mem_append_right _ ha)
/-- Number kk of an inode's own: is it needed, and then which of its blocks is it? -/
theorem direct_at {x : Ino} (h : Inn.may x = true) (hk : x.k ≠ 0) (kk : Nat) (hkk : kk < 4) :
    0 ≤ x.l.getD (2 + kk) 0 ∧ x.l.getD (2 + kk) 0 ≤ 127 ∧ ((kk < data x.b ∧ 0 < x.l.getD (2 + kk) 0 ∧ (direct x).take (kk + 1) = (direct x).take kk ++ [(x.l.getD (2 + kk) 0).toNat]) ∨ (¬ kk < data x.b ∧ ¬ 0 < x.l.getD (2 + kk) 0 ∧ (direct x).take (kk + 1) = (direct x).take kk)) := by
  have hb := may_bounds h
  have hp := direct_pos h hk kk hkk
  have e : x.l.getD (2 + kk) 0 = [x.b0, x.b1, x.b2, x.b3].getD kk 0 := by
    match kk, hkk with
    | 0, _ => rfl
    | 1, _ => rfl
    | 2, _ => rfl
    | 3, _ => rfl
  have hbd : 0 ≤ [x.b0, x.b1, x.b2, x.b3].getD kk 0 ∧ [x.b0, x.b1, x.b2, x.b3].getD kk 0 ≤ 127 := by
    match kk, hkk with
    | 0, _ => exact ⟨hb.2.2.2.2.1, hb.2.2.2.2.2.1⟩
    | 1, _ => exact ⟨hb.2.2.2.2.2.2.1, hb.2.2.2.2.2.2.2.1⟩
    | 2, _ => exact ⟨hb.2.2.2.2.2.2.2.2.1, hb.2.2.2.2.2.2.2.2.2.1⟩
    | 3, _ => exact ⟨hb.2.2.2.2.2.2.2.2.2.2.1, hb.2.2.2.2.2.2.2.2.2.2.2.1⟩
  rw [e]
  refine ⟨hbd.1, hbd.2, ?_⟩
  have hlen := direct_length x
  by_cases hd : kk < data x.b
  · refine .inl ⟨hd, hp.2 hd, ?_⟩
    have hlt : kk < (direct x).length := by omega
    rw [List.take_succ_eq_append_getElem hlt]
    congr 2
    have h4 : kk < ([x.b0, x.b1, x.b2, x.b3].map Int.toNat).length := by simpa using hkk
    have : (direct x)[kk] = ([x.b0, x.b1, x.b2, x.b3].map Int.toNat)[kk] := by simp [direct]
    rw [this, List.getElem_map, List.getD_eq_getElem?_getD, List.getElem?_eq_getElem (by simpa using hkk)]
    rfl
  · refine .inr ⟨hd, fun h0 => hd (hp.1 h0), ?_⟩
    rw [List.take_of_length_le (by omega), List.take_of_length_le (by omega)]
end Fil
end Go.Proofs.Ytiafmghdiidniaa
