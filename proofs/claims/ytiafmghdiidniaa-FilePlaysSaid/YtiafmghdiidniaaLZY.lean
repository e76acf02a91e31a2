/-
  2 texts in one (LZX, LZY): each says at its own head what it holds.
-/
import Derived.Test.YtiafmghdiidniaaLZW

section
/-
  PLAIN: files behind a draft that is saved; what is read of them.
-/
namespace Go.Proofs.Ytiafmghdiidniaa
set_option maxRecDepth 100000
set_option maxHeartbeats 1000000
open Go.RowKit Cdc Inn Fil

namespace Fil
section
variable {g : Geo} {O : List Nat} {bl : List (List UInt8)} {d e : Dr}
theorem over_nil (r : List UInt8) (o : Nat) : over r o [] = r := by simp [over]
theorem over_over (r : List UInt8) (o : Nat) (a b : List UInt8) (h : o + a.length + b.length ≤ r.length) : over (over r o a) (o + a.length) b = over r o (a ++ b) := by
  have hlt : (r.take o).length = o := by rw [List.length_take]; omega
  unfold over
  have e1 : (r.take o ++ a ++ r.drop (o + a.length)).take (o + a.length) = r.take o ++ a := by
    rw [List.take_append_of_le_length (by rw [List.length_append, hlt]; exact Nat.le_refl _), List.take_of_length_le (by rw [List.length_append, hlt]; exact Nat.le_refl _)]
  have e2 : (r.take o ++ a ++ r.drop (o + a.length)).drop (o + a.length + b.length) = r.drop (o + (a ++ b).length) := by
    have : (r.take o ++ a).length = o + a.length := by rw [List.length_append, hlt]
    rw [← this, List.drop_length_add_append, this, List.drop_drop, List.length_append]
    congr 1
    omega
  rw [e1, e2]
  simp [List.append_assoc]
theorem fill_inv (hf : Fix g O bl) : ∀ (n : Nat) {d : Dr} {off : Nat} {b : List UInt8}, Inv g O bl d → b.length ≤ n → off + b.length ≤ 64 * (dn d.nums).length →
    ∃ f, d.fill bl n off b = some f ∧ Inv g O bl f ∧ f.nums = d.nums ∧ f.z = d.z ∧ flat (f.V bl) d.nums = over (flat (d.V bl) d.nums) off b ∧ (IndOk (d.V bl) d.nums → IndOk (f.V bl) d.nums)
  | 0, d, off, b, h, hn, _ => by
    have hb : b = [] := List.eq_nil_of_length_eq_zero (by omega)
    subst hb
    exact ⟨d, rfl, h, rfl, rfl, by rw [over_nil], fun x => x⟩
  | n + 1, d, off, b, h, hn, hq => by
    by_cases hb : b = []
    · subst hb
      exact ⟨d, fill_nil _ _ _ _, h, rfl, rfl, by rw [over_nil], fun x => x⟩
    · have hbp : 0 < b.length := List.length_pos_iff.2 hb
      obtain ⟨e, h1, h2, h3, h4, h5, h6, h7, h8, h9⟩ := over_inv h hf (off := off) (by omega) (cs := b.take (64 - off % 64)) (by rw [List.length_take]; omega)
      have hcl : (b.take (64 - off % 64)).length = min (64 - off % 64) b.length := List.length_take
      have hdl : (b.drop (64 - off % 64)).length = b.length - (64 - off % 64) := List.length_drop
      have hn3 : (e.put (numAt d.nums off) (over (e.row (numAt d.nums off)) (off % 64) (b.take (64 - off % 64)))).nums = d.nums := h3
      obtain ⟨f, f1, f2, f3, f4, f5, f6⟩ := fill_inv hf n (off := off + min (64 - off % 64) b.length) (b := b.drop (64 - off % 64)) h6 (by omega) (by rw [hn3, hdl]; omega)
      rw [hn3] at f3 f5 f6
      refine ⟨f, ?_, f2, f3, f4.trans h4, ?_, fun hI => f6 (h9 hI)⟩
      · rw [Dr.fill, if_neg hb, h1]; exact f1
      · have hfl := flat_len h (l := d.nums) (fun _ x => x)
        rw [f5, h7, ← hcl, over_over _ _ _ _ (by rw [hcl, hdl, hfl]; omega), List.take_append_drop]
theorem rd_len (l : List Nat) : ∀ (k off e : Nat) {r : List UInt8}, rd bl l k off e = some r → r.length ≤ e - off
  | 0, off, e, r, h => by rw [rd] at h; injection h with h; subst h; simp
  | k + 1, off, e, r, h => by
    rw [rd] at h
    split at h
    · split at h
      · rw [Option.map_eq_some_iff] at h
        obtain ⟨s, hs, rfl⟩ := h
        have := rd_len l k _ _ hs
        have hp : (partOf bl l off e).length ≤ min (64 - off % 64) (e - off) := by unfold partOf; rw [List.length_take]; omega
        rw [List.length_append]; omega
      · cases h
    · injection h with h; subst h; simp
theorem rd_spec (l : List Nat) (hnd : (dn l).Nodup) (hl : ∀ i ∈ dn l, (blk bl i).length = 64 ∧ i < bl.length) : ∀ (k off e : Nat), e - off ≤ k → e ≤ 64 * (dn l).length → rd bl l k off e = some (((flat (blk bl) l).drop off).take (e - off))
  | 0, off, e, hk, _ => by rw [rd, show e - off = 0 by omega, List.take_zero]
  | k + 1, off, e, hk, he => by
    rw [rd]
    by_cases hlt : off < e
    · rw [if_pos hlt]
      have hq : off / 64 < (dn l).length := by omega
      have hm : (dn l).getD (off / 64) 0 ∈ dn l := getD_mem hq
      rw [numAt_dn, if_pos (hl _ hm).2, rd_spec l hnd hl k _ _ (by omega) he, Option.map_some]
      congr 1
      obtain ⟨A, C, h1, -, h3⟩ := fm_row (W := blk bl) (V := blk bl) hnd (fun i hi => (hl i hi).1) hq (b := blk bl ((dn l).getD (off / 64) 0)) (fun j => by split <;> simp_all)
      have h64 := (hl _ hm).1
      unfold partOf flat
      rw [numAt_dn, h1]
      generalize blk bl ((dn l).getD (off / 64) 0) = Rw at *
      obtain ⟨kk, hkk⟩ : ∃ kk, kk = min (64 - off % 64) (e - off) := ⟨_, rfl⟩
      rw [← hkk]
      have hoff : off = A.length + off % 64 := by omega
      have ed : (A ++ (Rw ++ C)).drop off = Rw.drop (off % 64) ++ C := by
        rw [hoff, List.drop_length_add_append, ← hoff, List.drop_append_of_le_length (by omega)]
      have ed2 : (A ++ (Rw ++ C)).drop (off + kk) = (Rw.drop (off % 64) ++ C).drop kk := by rw [← ed, List.drop_drop]
      rw [ed2, ed]
      have et : (Rw.drop (off % 64) ++ C).take (e - off) = (Rw.drop (off % 64) ++ C).take kk ++ ((Rw.drop (off % 64) ++ C).drop kk).take (e - (off + kk)) := by
        rw [show e - off = kk + (e - (off + kk)) by omega, List.take_add]
      rw [et, List.take_append_of_le_length (by rw [List.length_drop]; omega)]
    · rw [if_neg hlt, show e - off = 0 by omega, List.take_zero]
theorem dn_all (x : Ino) : dn (allOf x bl) = numsOf x bl := by
  have hdl := direct_length x
  unfold dn allOf numsOf
  by_cases h4 : 4 < data x.b
  · rw [if_pos h4, List.append_assoc, List.take_append_of_le_length (by omega), List.take_of_length_le (by omega)]
    congr 1
    rw [List.drop_append, List.drop_of_length_le (by omega), List.nil_append, show 5 - (direct x).length = 1 by omega]
    rfl
  · have hfr : further x bl = [] := by unfold further; rw [if_neg h4]
    rw [if_neg h4, hfr, List.append_nil, List.append_nil, List.take_of_length_le (by omega), List.drop_of_length_le (by omega), List.append_nil]
end
section
variable {g : Geo} {l : List Ino} {bl : List (List UInt8)} {fs : List (List UInt8)} {f : Nat} {x : Ino}
/-- All that is taken but for one file. -/
def others (g : Geo) (l : List Ino) (bl : List (List UInt8)) (f : Nat) : List Nat := taken g (l.take f) bl ++ filed (l.drop (f + 1)) bl
theorem others_perm (hx : l[f]? = some x) : (taken g l bl).Perm (others g l bl f ++ allOf x bl) := by
  rw [taken_split g l bl hx]
  unfold others
  rw [List.append_assoc, List.append_assoc]
  exact List.Perm.append_left _ List.perm_append_comm
theorem others_fix (hg : gmay g = true) (h : Apart g l bl) : Fix g (others g l bl f) bl :=
  ⟨hg, h.many, fun i hi => by unfold others taken; exact List.mem_append_left _ (List.mem_append_left _ (List.mem_range.2 hi))⟩
theorem draft_inv (h : Apart g l bl) (hx : l[f]? = some x) : Inv g (others g l bl f) bl (draft0 x bl) := by
  have hp := others_perm (g := g) (bl := bl) hx
  have hmany := h.many
  refine ⟨?_, fun n hn => ?_, fun _ _ _ => rfl, fun i hi => ?_, fun i hi => ?_, fun i hi => by cases hi⟩
  · exact hp.nodup_iff.1 h.one
  · have := h.lt n (hp.mem_iff.2 hn); omega
  · show Bm.tb (blk bl 0) i = _
    rw [h.bits i hi, decide_eq_decide]
    exact hp.mem_iff
  · exact h.blen (by omega)
theorem draft_zeroE (hg : gmay g = true) (h : Apart g l bl) (hx : l[f]? = some x) : numsE x bl = 0 ∧ IndOk ((draft0 x bl).V bl) (allOf x bl) := by
  have hI := draft_inv h hx
  have hfix := others_fix (f := f) hg h
  have hb := hfix.b128
  have hnum : ∀ n ∈ allOf x bl, 1 ≤ n ∧ n < bl.length := fun n hn => ⟨by have := (hI.nzero hfix hn).1; omega, hI.lt n (List.mem_append_right _ hn)⟩
  constructor
  · unfold numsE
    by_cases h4 : 4 < data x.b
    · have hm : x.d.toNat ∈ allOf x bl := by rw [allOf_many h4]; simp [five]
      rw [if_pos h4, if_pos (hnum _ hm).2, if_pos]
      rw [List.all_eq_true]
      intro n hn
      have := hnum n (by rw [allOf_many h4]; exact List.mem_append_right _ hn)
      unfold numOk
      simp only [Bool.and_eq_true, decide_eq_true_eq]
      omega
    · rw [if_neg h4]
  · intro hlen
    have h4 : 4 < data x.b := by
      refine Classical.byContradiction fun h4 => ?_
      rw [allOf_few h4, List.length_take] at hlen
      unfold need at hlen
      rw [if_neg h4] at hlen
      omega
    have hfur : further x bl = ((blk bl x.d.toNat).take (data x.b - 4)).map UInt8.toNat := by unfold further; rw [if_pos h4]
    rw [allOf_many h4]
    show (blk bl x.d.toNat).take _ = _
    have hd5 : (five x ++ further x bl).drop 5 = further x bl := rfl
    rw [hd5, hfur, List.map_map]
    have hid : (UInt8.ofNat ∘ UInt8.toNat) = id := by funext y; simp
    rw [hid, List.map_id]
    have h64 : (blk bl x.d.toNat).length = 64 := h.blen (by
      have hm : x.d.toNat ∈ allOf x bl := by rw [allOf_many h4]; simp [five]
      have := (hnum _ hm).2; have := h.many; omega)
    have hd36 := data_le (may_bounds (h.may x (List.mem_of_getElem? hx))).2.2.2.1
    have hfl : (five x ++ List.map UInt8.toNat (List.take (data x.b - 4) (blk bl x.d.toNat))).length - 5 = data x.b - 4 := by
      rw [List.length_append, List.length_map, List.length_take, h64]
      show 5 + _ - 5 = _
      omega
    rw [hfl]
theorem saved_length (d : Dr) : (d.saved bl).length = bl.length := by simp [Dr.saved]
theorem saved_blk (d : Dr) {i : Nat} (h : i < bl.length) : blk (d.saved bl) i = d.V bl i := by
  unfold blk Dr.saved Dr.V
  rw [List.getD_eq_getElem?_getD, List.getElem?_map, List.getElem?_range h]; rfl
theorem ino_direct {k : Int} {d : Dr} (hl : d.nums.length = need d.z) : direct (d.ino k) = d.nums.take 4 := by
  have h4 : ∀ L : List Nat, ([L.getD 0 0, L.getD 1 0, L.getD 2 0, L.getD 3 0] : List Nat).take (min 4 L.length) = L.take 4 := fun L => by
    match L with
    | [] => rfl
    | [a] => rfl
    | [a, b] => rfl
    | [a, b, c] => rfl
    | a :: b :: c :: e :: r =>
      have : min 4 (a :: b :: c :: e :: r).length = 4 := by simp only [List.length_cons]; omega
      rw [this]; rfl
  have h5 := h4 d.nums
  unfold direct
  show ([d.nums.getD 0 0, d.nums.getD 1 0, d.nums.getD 2 0, d.nums.getD 3 0] : List Nat).take (data d.z) = _
  rw [← h5]
  have : data d.z ≤ 4 ∧ d.nums.length = data d.z ∨ 4 < data d.z ∧ 4 < d.nums.length := by
    rw [hl]; unfold need; split <;> omega
  rcases this with ⟨h1, h2⟩ | ⟨h1, h2⟩
  · rw [h2, Nat.min_eq_right h1]
  · rw [Nat.min_eq_left (by omega), List.take_of_length_le (by show 4 ≤ _; omega)]; rfl
section
variable {O : List Nat} {e : Dr} {k : Int}
theorem ino_all (h : Inv g O bl e) (hf : Fix g O bl) (hi : IndOk (e.V bl) e.nums) (hl : e.nums.length = need e.z) : allOf (e.ino k) (e.saved bl) = e.nums := by
  have hb := hf.b128
  unfold allOf
  rw [ino_direct hl]
  show _ ++ (if 4 < data e.z then [e.nums.getD 4 0] else []) ++ further (e.ino k) (e.saved bl) = e.nums
  have hfu : further (e.ino k) (e.saved bl) = if 4 < data e.z then ((blk (e.saved bl) (e.nums.getD 4 0)).take (data e.z - 4)).map UInt8.toNat else [] := rfl
  rw [hfu]
  by_cases h4 : 4 < data e.z
  · have hnl : e.nums.length = data e.z + 1 := by rw [hl]; unfold need; rw [if_pos h4]
    have hm : e.nums.getD 4 0 ∈ e.nums := getD_mem (by omega)
    rw [if_pos h4, if_pos h4, saved_blk e (h.lt _ (List.mem_append_right _ hm)), show data e.z - 4 = e.nums.length - 5 by omega, hi (by omega), List.map_map]
    have hid : (e.nums.drop 5).map (UInt8.toNat ∘ UInt8.ofNat) = e.nums.drop 5 := by
      conv => rhs; rw [← List.map_id (e.nums.drop 5)]
      refine List.map_congr_left fun a ha => ?_
      have := h.lt a (List.mem_append_right _ (List.mem_of_mem_drop ha))
      show (UInt8.ofNat a).toNat = a
      rw [UInt8.toNat_ofNat', Nat.mod_eq_of_lt (by omega)]
    rw [hid, List.append_assoc]
    conv => rhs; rw [← List.take_append_drop 4 e.nums]
    rw [List.drop_eq_getElem_cons (show 4 < e.nums.length by omega), List.getD_eq_getElem?_getD, List.getElem?_eq_getElem (by omega)]
    rfl
  · have hnl : e.nums.length = data e.z := by rw [hl]; unfold need; rw [if_neg h4]
    rw [if_neg h4, if_neg h4, List.append_nil, List.append_nil, List.take_of_length_le (by omega)]
theorem ino_may (h : Inv g O bl e) (hf : Fix g O bl) (hO : e.Ok) (hl : e.nums.length = need e.z) (hk : k = 1 ∨ k = 2) : Inn.may (e.ino k) = true := by
  have hb := hf.b128
  rw [may_serve (x := e.ino k) hk]
  have h1 : decide (0 ≤ (e.ino k).b) = true := decide_eq_true hO.z0
  have h2 : decide ((e.ino k).b ≤ 2304) = true := decide_eq_true hO.z1
  rw [h1, h2]
  show serveL (nm (e.ino k)) (need e.z) = true
  rw [← hl, serveL_iff]
  intro i hi
  have hg : ∀ j, j < 5 → (nm (e.ino k)).getD j 0 = ((e.nums.getD j 0 : Nat) : Int) := fun j hj => by
    match j, hj with
    | 0, _ => rfl
    | 1, _ => rfl
    | 2, _ => rfl
    | 3, _ => rfl
    | 4, _ => rfl
  unfold okS
  rw [hg i hi]
  by_cases hil : e.nums.length ≤ i
  · rw [if_pos hil, List.getD_eq_getElem?_getD, List.getElem?_eq_none hil]; rfl
  · rw [if_neg hil]
    have hm : e.nums.getD i 0 ∈ e.nums := getD_mem (by omega)
    have h0 := (h.nzero hf hm).1
    have hlt := h.lt _ (List.mem_append_right _ hm)
    rw [decide_eq_true (by omega), decide_eq_true (by omega)]
    have hnm : ¬ ((e.nums.getD i 0 : Nat) : Int) ∈ (nm (e.ino k)).take i := by
      rw [mem_take_iff _ _ (by rw [nm_len]; omega)]
      rintro ⟨j, hj, hx⟩
      rw [hg j (by omega)] at hx
      have hx' : e.nums.getD j 0 = e.nums.getD i 0 := by omega
      rw [List.getD_eq_getElem?_getD, List.getD_eq_getElem?_getD, List.getElem?_eq_getElem (by omega), List.getElem?_eq_getElem (by omega)] at hx'
      exact List.pairwise_iff_getElem.1 (List.nodup_append.1 h.nd).2.1 j i (by omega) (by omega) hj hx'
    rw [decide_eq_false hnm]; rfl
theorem others_same {y : Ino} {j : Nat} (ha : Apart g l bl) (hy : l[j]? = some y) (hjf : j ≠ f) (hx : l[f]? = some x) (h : Inv g (others g l bl f) bl e) : allOf y (e.saved bl) = allOf y bl ∧ content y (e.saved bl) = content y bl := by
  have hfl := (List.getElem?_eq_some_iff.1 hx).1
  have hjl := (List.getElem?_eq_some_iff.1 hy).1
  have hsub : ∀ n ∈ allOf y bl, n ∈ others g l bl f := fun n hn => by
    unfold others
    by_cases hlt : j < f
    · refine List.mem_append_left _ (List.mem_append_right _ (List.mem_flatMap.2 ⟨y, ?_, hn⟩))
      exact List.mem_of_getElem? (i := j) (by rw [List.getElem?_take, if_pos hlt]; exact hy)
    · refine List.mem_append_right _ (List.mem_flatMap.2 ⟨y, ?_, hn⟩)
      exact List.mem_of_getElem? (i := j - (f + 1)) (by rw [List.getElem?_drop, show f + 1 + (j - (f + 1)) = j by omega]; exact hy)
  have hne : ∀ n ∈ allOf y bl, n ≠ 0 := fun n hn e0 => by
    have hnd := ha.one
    rw [taken_split g l bl hy, List.append_assoc, List.nodup_append] at hnd
    refine hnd.2.2 0 ?_ n (List.mem_append_left _ hn) e0.symm
    unfold taken
    exact List.mem_append_left _ (List.mem_range.2 (gfirst_pos g))
  have hblk : ∀ n ∈ allOf y bl, blk (e.saved bl) n = blk bl n := fun n hn => by
    rw [saved_blk e (h.lt n (List.mem_append_left _ (hsub n hn)))]
    unfold Dr.V
    rw [h.out n (hsub n hn) (hne n hn)]; rfl
  have hfur : further y (e.saved bl) = further y bl := by
    unfold further
    by_cases h4 : 4 < data y.b
    · rw [if_pos h4, if_pos h4, hblk _ (by rw [allOf_many h4]; simp [five])]
    · rw [if_neg h4, if_neg h4]
  refine ⟨by unfold allOf; rw [hfur], ?_⟩
  unfold content numsOf
  rw [hfur, List.flatMap_def, List.flatMap_def]
  congr 2
  refine List.map_congr_left fun n hn => hblk n ?_
  unfold allOf
  rcases List.mem_append.1 hn with hn | hn
  · exact List.mem_append_left _ (List.mem_append_left _ hn)
  · exact List.mem_append_right _ hn
theorem files_set (hg : gmay g = true) (hF : Files g l bl fs) (hx : l[f]? = some x) (h : Inv g (others g l bl f) bl e) (hi : IndOk (e.V bl) e.nums) (hO : e.Ok) (hl : e.nums.length = need e.z) :
    Files g (l.set f (e.ino x.k)) (e.saved bl) (fs.set f ((flat (e.V bl) e.nums).take e.z.toNat)) := by
  have ha := hF.apart
  have hfix := others_fix (f := f) hg ha
  have hb := hfix.b128
  have hfl := (List.getElem?_eq_some_iff.1 hx).1
  have hxm := List.mem_of_getElem? hx
  have hxk : x.k = 1 ∨ x.k = 2 := ((may_used (hF.kind x hxm)).1 (ha.may x hxm)).1
  have hall := ino_all (k := x.k) h hfix hi hl
  have hrs : (l.set f (e.ino x.k))[f]? = some (e.ino x.k) := by rw [List.getElem?_set_self hfl]
  have hsame : ∀ (j : Nat) (y : Ino), j ≠ f → l[j]? = some y → allOf y (e.saved bl) = allOf y bl ∧ content y (e.saved bl) = content y bl := fun j y hj hy => others_same ha hy hj hx h
  have htake : (l.set f (e.ino x.k)).take f = l.take f := by rw [List.take_set_of_le (Nat.le_refl _)]
  have hdrop : (l.set f (e.ino x.k)).drop (f + 1) = l.drop (f + 1) := by rw [List.drop_set_of_lt (by omega)]
  have hfm : ∀ (m : List Ino), (∀ y ∈ m, allOf y (e.saved bl) = allOf y bl) → m.flatMap (fun y => allOf y (e.saved bl)) = m.flatMap (fun y => allOf y bl) := fun m hm => by
    rw [List.flatMap_def, List.flatMap_def]
    congr 1
    exact List.map_congr_left hm
  have ht1 : taken g (l.take f) (e.saved bl) = taken g (l.take f) bl := by
    unfold taken
    rw [hfm _ fun y hy => ?_]
    obtain ⟨j, hj, rfl⟩ := List.getElem_of_mem hy
    rw [List.length_take] at hj
    exact (hsame j _ (by omega) (by rw [List.getElem_take, List.getElem?_eq_getElem])).1
  have ht2 : filed (l.drop (f + 1)) (e.saved bl) = filed (l.drop (f + 1)) bl := by
    unfold filed
    rw [hfm _ fun y hy => ?_]
    obtain ⟨j, hj, rfl⟩ := List.getElem_of_mem hy
    rw [List.length_drop] at hj
    exact (hsame (f + 1 + j) _ (by omega) (by rw [List.getElem_drop, List.getElem?_eq_getElem])).1
  have hperm : (taken g (l.set f (e.ino x.k)) (e.saved bl)).Perm (others g l bl f ++ e.nums) := by
    have hp := others_perm (g := g) (bl := e.saved bl) hrs
    unfold others at hp ⊢
    rw [htake, hdrop, ht1, ht2, hall] at hp
    exact hp
  have hcont : content (e.ino x.k) (e.saved bl) = (flat (e.V bl) e.nums).take e.z.toNat := by
    unfold content
    rw [← dn_all, hall]
    show ((dn e.nums).flatMap (blk (e.saved bl))).take e.z.toNat = _
    unfold flat
    congr 1
    rw [List.flatMap_def, List.flatMap_def]
    congr 1
    exact List.map_congr_left fun i hi' => saved_blk e (h.lt i (List.mem_append_right _ (dn_sub hi')))
  have hmemset : ∀ y ∈ l.set f (e.ino x.k), y = e.ino x.k ∨ y ∈ l := fun y hy => by
    rcases List.mem_or_eq_of_mem_set hy with h1 | h1
    · exact .inr h1
    · exact .inl h1
  refine ⟨⟨fun y hy => ?_, hperm.nodup_iff.2 h.nd, fun i hi' => ?_, fun i hi' => ?_, by rw [saved_length]; exact ha.many, fun b hb' => ?_⟩, fun y hy => ?_, ?_⟩
  · rcases hmemset y hy with rfl | h1
    · exact ino_may h hfix hO hl hxk
    · exact ha.may y h1
  · have := h.lt i (hperm.mem_iff.1 hi'); have := ha.many; omega
  · rw [saved_blk e (by omega), h.bits i hi', decide_eq_decide]
    exact hperm.mem_iff.symm
  · obtain ⟨i, hi', rfl⟩ := List.getElem_of_mem hb'
    rw [saved_length] at hi'
    have h1 := h.len i hi'
    rw [← saved_blk e hi', blk, List.getD_eq_getElem?_getD, List.getElem?_eq_getElem (by rw [saved_length]; exact hi')] at h1
    exact h1
  · rcases hmemset y hy with rfl | h1
    · show x.k ≠ 0; exact hF.kind x hxm
    · exact hF.kind y h1
  · rw [← hF.bytes]
    apply List.ext_getElem?
    intro j
    rw [List.getElem?_map, List.getElem?_set, List.getElem?_set, List.length_map, List.getElem?_map]
    by_cases hj : f = j
    · subst hj
      rw [if_pos rfl, if_pos rfl, if_pos hfl, if_pos hfl, ← hcont]; rfl
    · rw [if_neg hj, if_neg hj]
      rcases hy : l[j]? with _ | y
      · rfl
      · exact congrArg some (hsame j y (fun e => hj e.symm) hy).2
end
end
end Fil
end Go.Proofs.Ytiafmghdiidniaa
end

section
/-
  PLAIN: what the landed calls hand back is what is wanted of them.
-/
namespace Go.Proofs.Ytiafmghdiidniaa
set_option maxRecDepth 100000
set_option maxHeartbeats 1000000
open Go.RowKit Cdc Inn Fil

namespace Fil
theorem zero_fits : zero.fits := by
  intro z hz
  simp only [zero, Ino.l, List.mem_cons, List.not_mem_nil, or_false] at hz
  rcases hz with rfl | rfl | rfl | rfl | rfl | rfl | rfl <;> exact ⟨by decide, by decide⟩
theorem getD_lt {l : List Nat} (h : ∀ n ∈ l, n < 128) (i : Nat) : l.getD i 0 < 128 := by
  rw [List.getD_eq_getElem?_getD]
  rcases hq : l[i]? with _ | y
  · exact Nat.succ_pos _
  · exact h y (List.mem_of_getElem? hq)
theorem ino_fits {d : Dr} (hO : d.Ok) {k : Int} (hk : Inn.In64 k) : (d.ino k).fits := by
  have hg := getD_lt hO.num
  have z0 := hO.z0
  have z1 := hO.z1
  intro z hz
  simp only [Dr.ino, Ino.l, List.mem_cons, List.not_mem_nil, or_false] at hz
  have h0 := hg 0
  have h1 := hg 1
  have h2 := hg 2
  have h3 := hg 3
  have h4 := hg 4
  rcases hz with rfl | rfl | rfl | rfl | rfl | rfl | rfl
  · exact hk
  all_goals exact ⟨by omega, by omega⟩
theorem fits_k {x : Ino} (h : x.fits) : Inn.In64 x.k := h x.k (by simp [Ino.l])
theorem numsE_64 (x : Ino) (bl : List (List UInt8)) : numsE x bl = 0 ∨ numsE x bl = 1 ∨ numsE x bl = 10 := by
  unfold numsE
  split
  · split
    · split
      · exact .inl rfl
      · exact .inr (.inr rfl)
    · exact .inr (.inl rfl)
  · exact .inl rfl
theorem saveE_64 (bl : List (List UInt8)) (d : Dr) : d.saveE bl = 0 ∨ d.saveE bl = 1 := by
  unfold Dr.saveE; split
  · exact .inr rfl
  · exact .inl rfl
/-- What is the same of every change. -/
theorem edit_same {x : Ino} {bl : List (List UInt8)} {RR : Except Int Dr} {r : Ino} {h : Int} {bl' : List (List UInt8)} (hP : EditP x bl RR r h bl') (hx : x.fits) (hErr : ∀ er, RR = .error er → er = 1 ∨ er = 7) (hOk : numsE x bl = 0 → ∀ d, RR = .ok d → d.Ok) :
    bl'.length = bl.length ∧ r.fits ∧ Inn.In64 h ∧ (h ≠ 0 → r = zero) ∧ (h = 0 → ∃ d, numsE x bl = 0 ∧ RR = .ok d ∧ r = d.ino x.k ∧ bl' = d.saved bl) := by
  unfold EditP at hP
  by_cases hE : numsE x bl ≠ 0
  · rw [if_pos hE] at hP
    obtain ⟨rfl, rfl, rfl⟩ := hP
    refine ⟨rfl, zero_fits, ?_, fun _ => rfl, fun h => absurd h hE⟩
    rcases numsE_64 x bl' with e | e | e <;> rw [e] <;> exact ⟨by decide, by decide⟩
  · rw [if_neg hE] at hP
    rcases hR : RR with er | d
    · rw [hR] at hP
      obtain ⟨rfl, rfl, rfl⟩ := hP
      have := hErr h hR
      exact ⟨rfl, zero_fits, ⟨by omega, by omega⟩, fun _ => rfl, fun h => by omega⟩
    · rw [hR] at hP
      obtain ⟨rfl, rfl, rfl⟩ := hP
      have h0 : numsE x bl = 0 := Classical.byContradiction hE
      have hO := hOk h0 d hR
      refine ⟨saved_length d, ?_, ?_, fun h => if_neg h, fun h => ⟨d, h0, rfl, if_pos h, rfl⟩⟩
      · split
        · exact ino_fits hO (fits_k hx)
        · exact zero_fits
      · rcases saveE_64 bl d with e | e <;> rw [e] <;> exact ⟨by decide, by decide⟩
theorem save_ok {g : Geo} {O : List Nat} {bl : List (List UInt8)} {d : Dr} (h : Inv g O bl d) : d.saveE bl = 0 := by
  unfold Dr.saveE
  rw [if_neg]
  intro hx
  obtain ⟨i, h1, h2, h3⟩ := (saveE_iff bl d).1 hx
  have := h.ch i h3
  omega
section
variable {g : Geo} {l : List Ino} {bl : List (List UInt8)} {fs : List (List UInt8)} {f : Nat} {x : Ino}
theorem files_b (hF : Files g l bl fs) : l.map (fun x => x.b) = fs.map (fun s => (s.length : Int)) := by
  rw [← hF.bytes, List.map_map]
  exact List.map_congr_left fun x hx => (content_length hF.apart hx).symm
theorem files_room (hF : Files g l bl fs) (hx : l[f]? = some x) : ((others g l bl f ++ allOf x bl).length : Int) = g.n - gleft g fs := by
  have hp := (others_perm (g := g) (bl := bl) hx).length_eq
  have ht := taken_length hF.apart
  have hn : needs fs = (l.map fun x => need x.b).sum := by
    unfold needs
    have := congrArg (List.map need) (files_b hF)
    rw [List.map_map, List.map_map] at this
    exact congrArg List.sum this.symm
  unfold gleft
  rw [hn]
  omega
theorem draft_flat (x : Ino) (bl : List (List UInt8)) : (flat ((draft0 x bl).V bl) (draft0 x bl).nums).take x.b.toNat = content x bl := by
  unfold content flat
  show ((dn (allOf x bl)).flatMap _).take _ = _
  rw [dn_all]
  rfl
theorem resized_bytes {FL : List UInt8} {b z : Int} (hb : 0 ≤ b) (hz0 : 0 ≤ z) (hl : FL.length = 64 * data b) :
    ((if b < z then FL.take b.toNat ++ List.replicate (64 * data z - b.toNat) 0 else FL.take (64 * data z)).take z.toNat) = sized (FL.take b.toNat) z.toNat := by
  obtain ⟨b1, b2⟩ := data_eq hb
  obtain ⟨z1, z2⟩ := data_eq hz0
  have hlt : (FL.take b.toNat).length = b.toNat := by rw [List.length_take]; omega
  split
  · rename_i hlt'
    rw [sized_long (by omega), List.take_append, hlt, List.take_of_length_le (l := FL.take b.toNat) (by omega), List.take_replicate]
    congr 2
    omega
  · rw [sized_short (by omega), List.take_take, List.take_take, Nat.min_eq_left (by omega), Nat.min_eq_left (by omega)]
end
theorem resize_does {g : Geo} {x : Ino} {z : Int} {bl : List (List UInt8)} {r : Ino} {h : Int} {bl' : List (List UInt8)} (hx : x.fits) (hs : ∀ i, i < bl.length → (blk bl i).length = 64) (hS' : Sixty bl') (hP : ResP g x z bl r h bl') : ResizeDoes g x z bl r h bl' := by
  by_cases hA : gmay g = false ∨ odd x = true ∨ z < 0
  · unfold ResP at hP
    rw [if_pos hA] at hP
    obtain ⟨rfl, rfl, rfl⟩ := hP
    refine ⟨rfl, hS', zero_fits, (show (-9223372036854775808 : Int) ≤ 1 ∧ (1 : Int) ≤ 9223372036854775807 from ⟨by decide, by decide⟩), (fun _ => rfl), (fun h => by cases h), (fun _ => ⟨rfl, rfl⟩), (fun l f fs hg hF hl => ?_)⟩
    have hxm := List.mem_of_getElem? hl
    have hod := odd_of (hF.apart.may x hxm) (hF.kind x hxm)
    have hz : z < 0 := by
      rcases hA with h | h | h
      · rw [hg] at h; cases h
      · rw [hod] at h; cases h
      · exact h
    exact ⟨(by unfold resizeE; rw [if_pos hz]), (fun _ => rfl), (fun h => by cases h)⟩
  · by_cases hB : 2304 < z
    · unfold ResP at hP
      rw [if_neg hA, if_pos hB] at hP
      obtain ⟨rfl, rfl, rfl⟩ := hP
      refine ⟨rfl, hS', zero_fits, (show (-9223372036854775808 : Int) ≤ 9 ∧ (9 : Int) ≤ 9223372036854775807 from ⟨by decide, by decide⟩), (fun _ => rfl), (fun h => by cases h), (fun h => absurd h hA), (fun l f fs hg hF hl => ?_)⟩
      exact ⟨(by unfold resizeE; rw [if_neg (by omega), if_pos hB]), (fun _ => rfl), (fun h => by cases h)⟩
    · unfold ResP at hP
      rw [if_neg hA, if_neg hB] at hP
      have hz0 : 0 ≤ z := by
        refine Classical.byContradiction fun h => hA (.inr (.inr (by omega)))
      have hgm : gmay g = true := by
        refine Classical.byContradiction fun h => hA (.inl (by simpa using h))
      have hod : odd x = false := by
        refine Classical.byContradiction fun h => hA (.inr (.inl (by simpa using h)))
      obtain ⟨s1, s2, s3, s4, s5⟩ := edit_same hP hx (fun er he => resize_err he) (fun h0 d hd => (resize_ok hgm (draft_ok hod h0 hs).1 hz0 (by omega) hd).1)
      refine ⟨s1, hS', s2, s3, s4, fun h0 => ?_, fun h => absurd h hA, fun l f fs _ hF hl => ?_⟩
      · obtain ⟨d, h1, h2, rfl, h4⟩ := s5 h0
        exact (resize_ok hgm (draft_ok hod h1 hs).1 hz0 (by omega) h2).2.2
      · have hxm := List.mem_of_getElem? hl
        obtain ⟨hE, hInd⟩ := draft_zeroE hgm hF.apart hl
        obtain ⟨hO, hlen⟩ := draft_ok hod hE hs
        have hI := draft_inv hF.apart hl
        have hfix := others_fix (f := f) hgm hF.apart
        have hroom := files_room hF hl
        obtain ⟨hc, hcl⟩ := hF.at_ hl
        have hlen' : (allOf x bl).length = need x.b := hlen
        have hmany := hF.apart.many
        unfold EditP at hP
        rw [if_neg (by rw [hE]; decide)] at hP
        have hneed : need (((fs.getD f []).length : Nat) : Int) = need x.b := by rw [hcl]
        rcases resize_inv (z := z) hI hfix hO hlen hInd (by omega) with ⟨c1, c2⟩ | ⟨c1, e, c2, c3, c4, c5⟩
        · rw [c2] at hP
          obtain ⟨rfl, rfl, rfl⟩ := hP
          have c1' : bl'.length + (allOf x bl').length < (others g l bl' f ++ allOf x bl').length + need z := c1
          refine ⟨?_, fun _ => rfl, fun h => by cases h⟩
          unfold resizeE
          rw [if_neg (by omega), if_neg (by omega), if_pos (by rw [hneed]; omega)]
        · rw [c2] at hP
          obtain ⟨rfl, rfl, rfl⟩ := hP
          obtain ⟨o1, o2, o3⟩ := resize_ok hgm hO hz0 (by omega) c2
          have c1' : (others g l bl f ++ allOf x bl).length + need z ≤ bl.length + (allOf x bl).length := c1
          have hsv := save_ok c3
          rw [hsv, if_pos rfl]
          refine ⟨?_, fun h => absurd rfl h, fun _ => ?_⟩
          · unfold resizeE
            rw [if_neg (by omega), if_neg (by omega), if_neg (by rw [hneed]; omega)]
          · have := files_set hgm hF hl c3 c4 o1 o2
            unfold resizeF
            have hfl : (flat ((draft0 x bl).V bl) (draft0 x bl).nums).length = 64 * data x.b := by
              rw [flat_len hI (fun _ h => h), dn_len hlen]; rfl
            have hbytes := resized_bytes (FL := flat ((draft0 x bl).V bl) (draft0 x bl).nums) hO.z0 hz0 hfl
            rw [hc, ← draft_flat x bl]
            rw [o3, c5] at this
            exact hbytes ▸ this
theorem over_take {r : List UInt8} {o z : Nat} {b : List UInt8} (h1 : o + b.length ≤ z) (h2 : z ≤ r.length) : (over r o b).take z = over (r.take z) o b := by
  have hlt : (r.take o ++ b).length = o + b.length := by rw [List.length_append, List.length_take]; omega
  unfold over
  rw [List.take_append, hlt, List.take_of_length_le (l := r.take o ++ b) (by omega), List.take_take, Nat.min_eq_left (by omega), List.drop_take]
theorem wrote_over (s : List UInt8) (o : Nat) (b : List UInt8) : wrote s o b = over (sized s (max (o + b.length) s.length)) o b := rfl
theorem write_does {g : Geo} {x : Ino} {off : Int} {b : List UInt8} {bl : List (List UInt8)} {r : Ino} {h : Int} {bl' : List (List UInt8)} (hx : x.fits) (hs : ∀ i, i < bl.length → (blk bl i).length = 64) (hS' : Sixty bl') (hP : WriP g x off b bl r h bl') : WriteDoes g x off b bl r h bl' := by
  by_cases hA : gmay g = false ∨ odd x = true ∨ off < 0
  · unfold WriP at hP
    rw [if_pos hA] at hP
    obtain ⟨rfl, rfl, rfl⟩ := hP
    refine ⟨rfl, hS', zero_fits, (show (-9223372036854775808 : Int) ≤ 1 ∧ (1 : Int) ≤ 9223372036854775807 from ⟨by decide, by decide⟩), (fun _ => rfl), (fun h => by cases h), (fun _ => ⟨rfl, rfl⟩), (fun l f fs hg hF hl => ?_)⟩
    have hxm := List.mem_of_getElem? hl
    have hod := odd_of (hF.apart.may x hxm) (hF.kind x hxm)
    have hz : off < 0 := by
      rcases hA with h | h | h
      · rw [hg] at h; cases h
      · rw [hod] at h; cases h
      · exact h
    exact ⟨(by unfold writeE; rw [if_pos hz]), (fun _ => rfl), (fun h => by cases h)⟩
  · have hz0 : 0 ≤ off := by
      refine Classical.byContradiction fun h => hA (.inr (.inr (by omega)))
    by_cases hn : b = []
    · unfold WriP at hP
      rw [if_neg hA, if_pos hn] at hP
      obtain ⟨rfl, rfl, rfl⟩ := hP
      refine ⟨rfl, hS', hx, (show (-9223372036854775808 : Int) ≤ 0 ∧ (0 : Int) ≤ 9223372036854775807 from ⟨by decide, by decide⟩), (fun h => absurd rfl h), (fun _ => Int.le_refl _), (fun h => absurd h hA), (fun l f fs hg hF hl => ?_)⟩
      refine ⟨(by unfold writeE; rw [if_neg (by omega), if_pos hn]), (fun h => absurd rfl h), (fun _ => ?_)⟩
      unfold writeF
      rw [if_pos hn]
      have hset : l.set f r = l := by
        refine List.ext_getElem? fun j => ?_
        rw [List.getElem?_set]
        split
        · rename_i hj; subst hj; rw [hl, if_pos (List.getElem?_eq_some_iff.1 hl).1]
        · rfl
      rw [hset]; exact hF
    by_cases hB : 2304 < off + b.length
    · unfold WriP at hP
      rw [if_neg hA, if_neg hn, if_pos hB] at hP
      obtain ⟨rfl, rfl, rfl⟩ := hP
      refine ⟨rfl, hS', zero_fits, (show (-9223372036854775808 : Int) ≤ 9 ∧ (9 : Int) ≤ 9223372036854775807 from ⟨by decide, by decide⟩), (fun _ => rfl), (fun h => by cases h), (fun h => absurd h hA), (fun l f fs hg hF hl => ?_)⟩
      exact ⟨(by unfold writeE; rw [if_neg (by omega), if_neg hn, if_pos (.inr hB)]), (fun _ => rfl), (fun h => by cases h)⟩
    · unfold WriP at hP
      rw [if_neg hA, if_neg hn, if_neg hB] at hP
      have hgm : gmay g = true := by
        refine Classical.byContradiction fun h => hA (.inl (by simpa using h))
      have hod : odd x = false := by
        refine Classical.byContradiction fun h => hA (.inr (.inl (by simpa using h)))
      have hoff : off.toNat + b.length ≤ 2304 := by omega
      have hbp : 0 < b.length := List.length_pos_iff.2 hn
      obtain ⟨s1, s2, s3, s4, s5⟩ := edit_same hP hx (fun er he => write_err he) (fun h0 d hd => (write_ok hgm (draft_ok hod h0 hs).1 hoff hd).1)
      refine ⟨s1, hS', s2, s3, s4, (fun h0 => ?_), (fun h => absurd h hA), (fun l f fs _ hF hl => ?_)⟩
      · obtain ⟨d, h1, h2, rfl, h4⟩ := s5 h0
        have := (write_ok hgm (draft_ok hod h1 hs).1 hoff h2).2
        show x.b ≤ d.z
        rw [this]
        show x.b ≤ max x.b _
        omega
      · have hxm := List.mem_of_getElem? hl
        obtain ⟨hE, hInd⟩ := draft_zeroE hgm hF.apart hl
        obtain ⟨hO, hlen⟩ := draft_ok hod hE hs
        have hI := draft_inv hF.apart hl
        have hfix := others_fix (f := f) hgm hF.apart
        have hroom := files_room hF hl
        obtain ⟨hc, hcl⟩ := hF.at_ hl
        have hlen' : (allOf x bl).length = need x.b := hlen
        have hmany := hF.apart.many
        have hxb0 : 0 ≤ x.b := hO.z0
        have hxb1 : x.b ≤ 2304 := hO.z1
        unfold EditP at hP
        rw [if_neg (by rw [hE]; decide)] at hP
        have hneed : need (((fs.getD f []).length : Nat) : Int) = need x.b := by rw [hcl]
        have hend : endOf fs f off b = max x.b (off + b.length) := by unfold endOf; rw [hcl]; omega
        have hwz : max (draft0 x bl).z (((off.toNat : Nat) : Int) + b.length) = max x.b (off + b.length) := by
          show max x.b _ = _; omega
        unfold Dr.write at hP
        rw [hwz] at hP
        obtain ⟨z, hzz⟩ : ∃ z, z = max x.b (off + b.length) := ⟨_, rfl⟩
        rw [← hzz] at hP hend
        have hzle : z ≤ 2304 := by omega
        have hzx : x.b ≤ z := by omega
        have hzo : off + b.length ≤ z := by omega
        have hz0' : 0 ≤ z := by omega
        rcases resize_inv (z := z) hI hfix hO hlen hInd hzle with ⟨c1, c2⟩ | ⟨c1, e, c2, c3, c4, c5⟩
        · rw [c2] at hP
          obtain ⟨rfl, rfl, rfl⟩ := hP
          have c1' : bl'.length + (allOf x bl').length < (others g l bl' f ++ allOf x bl').length + need z := c1
          refine ⟨?_, (fun _ => rfl), (fun h => by cases h)⟩
          unfold writeE
          rw [if_neg (by omega), if_neg hn, if_neg (by omega), hend]
          unfold resizeE
          rw [if_neg (by omega), if_neg (by omega), if_pos (by rw [hneed]; omega)]
        · rw [c2] at hP
          simp only at hP
          obtain ⟨o1, o2, o3⟩ := resize_ok hgm hO hz0' hzle c2
          obtain ⟨y1, y2⟩ := data_eq hz0'
          have hdn : (dn e.nums).length = data z := by rw [dn_len o2, o3]
          obtain ⟨e2, f1, f2, f3, f4, f5, f6⟩ := fill_inv hfix b.length c3 (Nat.le_refl _) (off := off.toNat) (by rw [hdn]; omega)
          rw [f1] at hP
          simp only at hP
          obtain ⟨rfl, rfl, rfl⟩ := hP
          have c1' : (others g l bl f ++ allOf x bl).length + need z ≤ bl.length + (allOf x bl).length := c1
          have hsv := save_ok f2
          rw [hsv, if_pos rfl]
          refine ⟨?_, (fun h => absurd rfl h), (fun _ => ?_)⟩
          · unfold writeE
            rw [if_neg (by omega), if_neg hn, if_neg (by omega), hend]
            unfold resizeE
            rw [if_neg (by omega), if_neg (by omega), if_neg (by rw [hneed]; omega)]
          · have h4 : e2.z = z := f4.trans o3
            have hO2 : e2.Ok := ⟨by rw [f3]; exact o1.num, by rw [f3]; exact o1.len, by rw [h4]; omega, by rw [h4]; exact hzle⟩
            have := files_set hgm hF hl f2 (by rw [f3]; exact f6 c4) hO2 (by rw [f3, o2, o3, h4])
            unfold writeF
            rw [if_neg hn]
            have hfl : (flat ((draft0 x bl).V bl) (draft0 x bl).nums).length = 64 * data x.b := by
              rw [flat_len hI (fun _ h => h), dn_len hlen]; rfl
            have hbytes := resized_bytes (FL := flat ((draft0 x bl).V bl) (draft0 x bl).nums) hO.z0 hz0' hfl
            have hel : (flat (e.V bl) e.nums).length = 64 * data z := by rw [flat_len c3 (fun _ h => h), hdn]
            have hcl' : (content x bl).length = x.b.toNat := by rw [← hc]; omega
            rw [hc, wrote_over, hcl', show max (off.toNat + b.length) x.b.toNat = z.toNat by omega]
            rw [h4, f3, f5, over_take (by omega) (by rw [hel]; omega), c5] at this
            have h2 : content x bl = (flat ((draft0 x bl).V bl) (draft0 x bl).nums).take (draft0 x bl).z.toNat := (draft_flat x bl).symm
            rw [hbytes, ← h2] at this
            exact this
theorem rd_bytes {g : Geo} {l : List Ino} {bl : List (List UInt8)} {fs : List (List UInt8)} {f : Nat} {x : Ino} (hF : Files g l bl fs) (hl : l[f]? = some x) : (dn (allOf x bl)).Nodup ∧ (∀ i ∈ dn (allOf x bl), (blk bl i).length = 64 ∧ i < bl.length) ∧ (dn (allOf x bl)).length = data x.b := by
  have hI := draft_inv hF.apart hl
  have hxm := List.mem_of_getElem? hl
  have hnd := (List.nodup_append.1 hI.nd).2.1
  have hdnd : (dn (allOf x bl)).Nodup := by
    have hs : ((allOf x bl).take 4 ++ (allOf x bl).drop 4).Nodup := by rw [List.take_append_drop]; exact hnd
    rw [List.nodup_append] at hs
    unfold dn
    rw [List.nodup_append]
    have hsub : (allOf x bl).drop 5 = ((allOf x bl).drop 4).drop 1 := by rw [List.drop_drop]
    rw [hsub]
    exact ⟨hs.1, hs.2.1.sublist (List.drop_sublist _ _), fun a ha b hb => hs.2.2 a ha b (List.mem_of_mem_drop hb)⟩
  have hlt : ∀ i ∈ dn (allOf x bl), i < bl.length := fun i hi => hI.lt i (List.mem_append_right _ (dn_sub hi))
  refine ⟨hdnd, (fun i hi => ⟨hI.len i (hlt i hi), hlt i hi⟩), ?_⟩
  exact dn_len (allOf_length hF.apart hxm)
theorem numsE_zero {g : Geo} {l : List Ino} {bl : List (List UInt8)} {f : Nat} {x : Ino} (hfew : bl.length ≤ 128) (ha : Apart g l bl) (hl : l[f]? = some x) : numsE x bl = 0 := by
  have hI := draft_inv ha hl
  have hnum : ∀ n ∈ allOf x bl, 1 ≤ n ∧ n < bl.length := fun n hn => by
    refine ⟨Nat.pos_of_ne_zero fun e0 => ?_, hI.lt n (List.mem_append_right _ hn)⟩
    have h0 : 0 ∈ others g l bl f := by
      unfold others taken
      exact List.mem_append_left _ (List.mem_append_left _ (List.mem_range.2 (gfirst_pos g)))
    exact (List.nodup_append.1 hI.nd).2.2 0 h0 n hn e0.symm
  unfold numsE
  by_cases h4 : 4 < data x.b
  · have hm : x.d.toNat ∈ allOf x bl := by rw [allOf_many h4]; simp [five]
    rw [if_pos h4, if_pos (hnum _ hm).2, if_pos]
    rw [List.all_eq_true]
    intro n hn
    have := hnum n (by rw [allOf_many h4]; exact List.mem_append_right _ hn)
    unfold numOk
    simp only [Bool.and_eq_true, decide_eq_true_eq]
    omega
  · rw [if_neg h4]
theorem read_does {x : Ino} {off n : Int} {bl : List (List UInt8)} {bs : List UInt8} {h : Int} (hfew : bl.length ≤ 128) (hP : ReadP x off n bl bs h) : ReadDoes x off n bl bs h := by
  unfold ReadP at hP
  by_cases hA : odd x = true ∨ off < 0 ∨ n < 0
  · rw [if_pos hA] at hP
    obtain ⟨rfl, rfl⟩ := hP
    refine ⟨(fun _ => rfl), (fun h => by cases h), (fun _ => rfl), (fun g l f fs hF hl h0 h1 => ?_)⟩
    have hxm := List.mem_of_getElem? hl
    have hod := odd_of (hF.apart.may x hxm) (hF.kind x hxm)
    rcases hA with h | h | h
    · rw [hod] at h; cases h
    · omega
    · omega
  · rw [if_neg hA] at hP
    have hod : odd x = false := by
      refine Classical.byContradiction fun h => hA (.inl (by simpa using h))
    have hb := may_bounds (odd_no hod).1
    by_cases hE : numsE x bl ≠ 0
    · rw [if_pos hE] at hP
      obtain ⟨rfl, rfl⟩ := hP
      refine ⟨(fun _ => rfl), (fun h => absurd h hE), (fun h => absurd h hA), (fun g l f fs hF hl h0 h1 => ?_)⟩
      exact absurd (numsE_zero hfew hF.apart hl) hE
    · rw [if_neg hE] at hP
      have hn0 : 0 ≤ n := by refine Classical.byContradiction fun h => hA (.inr (.inr (by omega)))
      have ho0 : 0 ≤ off := by refine Classical.byContradiction fun h => hA (.inr (.inl (by omega)))
      rcases hR : rd bl (allOf x bl) ((endR x off n).toNat - off.toNat) off.toNat (endR x off n).toNat with _ | s
      · rw [hR] at hP
        obtain ⟨rfl, rfl⟩ := hP
        refine ⟨(fun _ => rfl), (fun h => by cases h), (fun h => absurd h hA), (fun g l f fs hF hl h0 h1 => ?_)⟩
        obtain ⟨d1, d2, d3⟩ := rd_bytes hF hl
        obtain ⟨b1, b2⟩ := data_eq hb.2.2.1
        have := rd_spec (bl := bl) (allOf x bl) d1 d2 _ off.toNat (endR x off n).toNat (Nat.le_refl _) (by rw [d3]; unfold endR; omega)
        rw [hR] at this; cases this
      · rw [hR] at hP
        obtain ⟨rfl, rfl⟩ := hP
        refine ⟨(fun h => absurd rfl h), (fun _ => ?_), (fun h => absurd h hA), (fun g l f fs hF hl h0 h1 => ⟨rfl, ?_⟩)⟩
        · have := rd_len _ _ _ _ hR
          have hxb : 0 ≤ x.b := hb.2.2.1
          unfold endR at this
          omega
        · obtain ⟨d1, d2, d3⟩ := rd_bytes hF hl
          obtain ⟨b1, b2⟩ := data_eq hb.2.2.1
          have := rd_spec (bl := bl) (allOf x bl) d1 d2 _ off.toNat (endR x off n).toNat (Nat.le_refl _) (by rw [d3]; unfold endR; omega)
          rw [hR] at this
          injection this with this
          rw [this]
          obtain ⟨hc, hcl⟩ := hF.at_ hl
          have hfl : (flat (blk bl) (allOf x bl)).length = 64 * data x.b := by
            rw [← d3]; exact fm_len fun i hi => (d2 i hi).1
          unfold piece
          rw [hc, ← draft_flat x bl]
          show _ = (((flat (blk bl) (allOf x bl)).take x.b.toNat).drop off.toNat).take n.toNat
          rw [List.drop_take, List.take_take]
          unfold endR
          by_cases hle : off ≤ x.b
          · congr 1
            omega
          · rw [show (off + min n (x.b - off)).toNat - off.toNat = 0 by omega, show min n.toNat (x.b.toNat - off.toNat) = 0 by omega]
theorem left_does {g : Geo} {bl : List (List UInt8)} {n h : Int} (h64 : (blk bl 0).length = 64) (hP : LeftP g bl n h) : LeftDoes g bl n h := by
  unfold LeftP at hP
  by_cases hg : gmay g = true
  · rw [if_pos hg] at hP
    obtain ⟨rfl, rfl⟩ := hP
    refine ⟨⟨?_, (show (-9223372036854775808 : Int) ≤ 0 ∧ (0 : Int) ≤ 9223372036854775807 from ⟨by decide, by decide⟩)⟩, (fun h => by rw [hg] at h; cases h), (fun l fs _ hF => ⟨rfl, hF.left hg⟩)⟩
    obtain ⟨g1, g2, g3, g4, g5⟩ := gmay_iff.1 hg
    have hf5 := gfirst_le g4
    have hcl : Bm.count (blk bl 0) (gfirst g) g.n ≤ 512 := by
      have := Bm.count_le (blk bl 0) (gfirst g) g.n
      omega
    unfold freeN
    exact ⟨by omega, by omega⟩
  · rw [if_neg hg] at hP
    obtain ⟨rfl, rfl⟩ := hP
    exact ⟨⟨⟨by decide, by decide⟩, ⟨by decide, by decide⟩⟩, (fun _ => rfl), (fun l fs h => absurd h hg)⟩
end Fil
end Go.Proofs.Ytiafmghdiidniaa
end
