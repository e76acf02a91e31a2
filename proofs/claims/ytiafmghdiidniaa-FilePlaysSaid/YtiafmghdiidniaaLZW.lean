/-
  PLAIN: a draft over a store in which files lie: what each step turns.
-/
import Derived.Test.YtiafmghdiidniaaLZU
namespace Go.Proofs.Ytiafmghdiidniaa
set_option maxRecDepth 100000
set_option maxHeartbeats 1000000
open Go.RowKit Cdc Inn Fil

namespace Fil
theorem length_le_of_sub : ∀ (l m : List Nat), l.Nodup → (∀ a ∈ l, a ∈ m) → l.length ≤ m.length
  | [], m, _, _ => Nat.zero_le _
  | a :: l, m, hn, hs => by
    rw [List.nodup_cons] at hn
    have ha := hs a (by simp)
    have := length_le_of_sub l (m.erase a) hn.2 fun b hb => by
      have hne : b ≠ a := fun e => hn.1 (e ▸ hb)
      exact (List.mem_erase_of_ne hne).2 (hs b (by simp [hb]))
    rw [List.length_erase_of_mem ha] at this
    have := List.length_pos_of_mem ha
    simp only [List.length_cons]; omega
/-- A block as the draft has it. -/
def Dr.V (bl : List (List UInt8)) (d : Dr) (i : Nat) : List UInt8 := (d.ch i).getD (blk bl i)
/-- The numbers of the blocks of bytes. -/
def dn (l : List Nat) : List Nat := l.take 4 ++ l.drop 5
def flat (V : Nat → List UInt8) (l : List Nat) : List UInt8 := (dn l).flatMap V
structure Inv (g : Geo) (O : List Nat) (bl : List (List UInt8)) (d : Dr) : Prop where
  nd : (O ++ d.nums).Nodup
  lt : ∀ n ∈ O ++ d.nums, n < bl.length
  out : ∀ i, i ∈ O → i ≠ 0 → d.ch i = none
  bits : ∀ i, i < 512 → Bm.tb (d.V bl 0) i = decide (i ∈ O ++ d.nums)
  len : ∀ i, i < bl.length → (d.V bl i).length = 64
  ch : ∀ i, (d.ch i).isSome = true → i < bl.length
/-- What is fixed. -/
structure Fix (g : Geo) (O : List Nat) (bl : List (List UInt8)) : Prop where
  may : gmay g = true
  many : (bl.length : Int) = g.n
  low : ∀ i, i < gfirst g → i ∈ O
section
variable {g : Geo} {O : List Nat} {bl : List (List UInt8)} {d e : Dr}
theorem Fix.zero (h : Fix g O bl) : 0 ∈ O := h.low 0 (by have := gfirst_pos g; omega)
theorem Fix.b128 (h : Fix g O bl) : bl.length ≤ 128 ∧ 8 ≤ bl.length := by obtain ⟨g1, g2, _⟩ := gmay_iff.1 h.may; have := h.many; omega
theorem Inv.nzero (h : Inv g O bl d) (hf : Fix g O bl) {i : Nat} (hi : i ∈ d.nums) : i ≠ 0 ∧ i ∉ O := by
  have := (List.nodup_append.1 h.nd).2.2
  refine ⟨fun e => this 0 hf.zero i hi e.symm, fun hO => this i hO i hi rfl⟩
theorem load_inv (h : Inv g O bl d) (hf : Fix g O bl) {i : Nat} (hi : i = 0 ∨ i ∈ d.nums) : ∃ e, d.load bl i = some e ∧ Inv g O bl e ∧ (∀ j, e.V bl j = d.V bl j) ∧ e.nums = d.nums ∧ e.z = d.z ∧ e.ch i = some (d.V bl i) := by
  have hil : i < bl.length := by
    rcases hi with rfl | hi
    · have := hf.b128; omega
    · exact h.lt i (List.mem_append_right _ hi)
  unfold Dr.load
  rcases hc : d.ch i with _ | b
  · rw [if_neg (by simp), if_pos hil]
    have hV : ∀ j, (d.put i (blk bl i)).V bl j = d.V bl j := fun j => by
      unfold Dr.V Dr.put
      by_cases ej : j = i
      · subst ej; simp [hc]
      · simp [ej]
    refine ⟨_, rfl, ⟨h.nd, h.lt, fun j hj hj0 => ?_, fun j hj => by rw [hV]; exact h.bits j hj, fun j hj => by rw [hV]; exact h.len j hj, fun j hj => ?_⟩, hV, rfl, rfl, ?_⟩
    · have hne : j ≠ i := by
        rintro rfl
        rcases hi with rfl | hi
        · exact hj0 rfl
        · exact (h.nzero hf hi).2 hj
      simp only [Dr.put, if_neg hne]; exact h.out j hj hj0
    · by_cases ej : j = i
      · rw [ej]; exact hil
      · simp only [Dr.put, if_neg ej] at hj; exact h.ch j hj
    · simp [Dr.put, Dr.V, hc]
  · rw [if_pos (by simp)]
    exact ⟨d, rfl, h, fun _ => rfl, rfl, rfl, by simp [Dr.V, hc]⟩
theorem put_inv (h : Inv g O bl d) (hf : Fix g O bl) {i : Nat} (hi : i ∈ d.nums) {b : List UInt8} (hb : b.length = 64) : Inv g O bl (d.put i b) ∧ ∀ j, (d.put i b).V bl j = if j = i then b else d.V bl j := by
  have hV : ∀ j, (d.put i b).V bl j = if j = i then b else d.V bl j := fun j => by
    unfold Dr.V Dr.put
    by_cases ej : j = i
    · simp [ej]
    · simp [ej]
  obtain ⟨h0, hO⟩ := h.nzero hf hi
  refine ⟨⟨h.nd, h.lt, fun j hj hj0 => ?_, fun j hj => ?_, fun j hj => ?_, fun j hj => ?_⟩, hV⟩
  · have hne : j ≠ i := fun e => hO (e ▸ hj)
    simp only [Dr.put, if_neg hne]; exact h.out j hj hj0
  · rw [hV, if_neg (fun e => h0 e.symm)]; exact h.bits j hj
  · rw [hV]; split
    · exact hb
    · exact h.len j hj
  · by_cases ej : j = i
    · rw [ej]; exact h.lt i (List.mem_append_right _ hi)
    · simp only [Dr.put, if_neg ej] at hj; exact h.ch j hj
/-- The size is not looked at. -/
theorem Inv.size (h : Inv g O bl d) (z : Int) : Inv g O bl { d with z := z } := ⟨h.nd, h.lt, h.out, h.bits, h.len, h.ch⟩
/-- Some are given back. -/
theorem free_spec (kept : List Nat) : ∀ (l : List Nat) (d : Dr), (d.ch 0).isSome = true → (d.row 0).length = 64 → (∀ i ∈ l, i < 512) →
    ((Dr.free kept l d).ch 0).isSome = true ∧ ((Dr.free kept l d).row 0).length = 64 ∧ (∀ j, j ≠ 0 → (Dr.free kept l d).ch j = d.ch j) ∧
    ∀ i, i < 512 → Bm.tb ((Dr.free kept l d).row 0) i = (Bm.tb (d.row 0) i && !decide (i ∈ l ∧ i ∉ kept))
  | [], d, h, hl, _ => ⟨h, hl, fun _ _ => rfl, fun i _ => by simp [Dr.free]⟩
  | a :: r, d, h, hl, hs => by
    have ha := hs a (by simp)
    rw [Dr.free]
    by_cases hk : a ∈ kept
    · rw [if_pos hk]
      obtain ⟨h1, h2, h3, h4⟩ := free_spec kept r d h hl (fun i hi => hs i (by simp [hi]))
      refine ⟨h1, h2, h3, fun i hi => ?_⟩
      rw [h4 i hi]
      congr 2
      rw [decide_eq_decide, List.mem_cons]
      constructor
      · rintro ⟨x, y⟩; exact ⟨.inr x, y⟩
      · rintro ⟨rfl | x, y⟩
        · exact absurd hk y
        · exact ⟨x, y⟩
    · rw [if_neg hk]
      have hrow : (d.mark a false).row 0 = Bm.setB (d.row 0) a false := by unfold Dr.row; rw [mark_zero]; rfl
      obtain ⟨h1, h2, h3, h4⟩ := free_spec kept r (d.mark a false) (by rw [mark_zero]; rfl) (by rw [hrow, Bm.setB_length]; exact hl) (fun i hi => hs i (by simp [hi]))
      refine ⟨h1, h2, fun j hj => by rw [h3 j hj]; simp [Dr.mark, Dr.put, hj], fun i hi => ?_⟩
      rw [h4 i hi, hrow, Bm.tb_setB (d.row 0) a false (by omega) i]
      by_cases e : i = a
      · subst e; simp [hk]
      · rw [if_neg e]
        congr 2
        rw [decide_eq_decide, List.mem_cons]
        constructor
        · rintro ⟨x, y⟩; exact ⟨.inr x, y⟩
        · rintro ⟨x | x, y⟩
          · exact absurd x e
          · exact ⟨x, y⟩
theorem V_row {i : Nat} (h : (d.ch i).isSome = true) : d.V bl i = d.row i := by
  obtain ⟨b, hb⟩ := Option.isSome_iff_exists.1 h
  simp [Dr.V, Dr.row, hb]
theorem release_inv (h : Inv g O bl d) (hf : Fix g O bl) (h0 : (d.ch 0).isSome = true) (k : Nat) : Inv g O bl (d.release k) ∧ (∀ j, j ≠ 0 → (d.release k).V bl j = d.V bl j) ∧ ((d.release k).ch 0).isSome = true := by
  have hb := hf.b128
  have hnn := (List.nodup_append.1 h.nd)
  have hsplit : d.nums = d.nums.take k ++ d.nums.drop k := (List.take_append_drop k _).symm
  have hnd2 := hnn.2.1
  rw [hsplit, List.nodup_append] at hnd2
  obtain ⟨h1, h2, h3, h4⟩ := free_spec (d.nums.take k) (d.nums.drop k) d h0 (by rw [← V_row h0]; exact h.len 0 (by omega)) (fun i hi => by have := h.lt i (List.mem_append_right _ (List.mem_of_mem_drop hi)); omega)
  have hrow : (d.release k).row 0 = (Dr.free (d.nums.take k) (d.nums.drop k) d).row 0 := rfl
  have hV : ∀ j, j ≠ 0 → (d.release k).V bl j = d.V bl j := fun j hj => by
    unfold Dr.V
    show ((Dr.free _ _ d).ch j).getD _ = _
    rw [h3 j hj]
  have hV0 : (d.release k).V bl 0 = (Dr.free (d.nums.take k) (d.nums.drop k) d).row 0 := by rw [V_row (show ((d.release k).ch 0).isSome = true from h1), hrow]
  refine ⟨⟨?_, fun n hn => ?_, fun i hi hi0 => ?_, fun i hi => ?_, fun i hi => ?_, fun i hi => ?_⟩, hV, h1⟩
  · rw [release_nums, List.nodup_append]
    exact ⟨hnn.1, hnd2.1, fun a ha b hb2 => hnn.2.2 a ha b (List.mem_of_mem_take hb2)⟩
  · rw [release_nums, List.mem_append] at hn
    rcases hn with hn | hn
    · exact h.lt n (List.mem_append_left _ hn)
    · exact h.lt n (List.mem_append_right _ (List.mem_of_mem_take hn))
  · show (Dr.free _ _ d).ch i = none
    rw [h3 i hi0]; exact h.out i hi hi0
  · rw [hV0, h4 i hi, ← V_row (bl := bl) h0, h.bits i hi, release_nums, Bool.eq_iff_iff]
    simp only [Bool.and_eq_true, decide_eq_true_eq, Bool.not_eq_true', decide_eq_false_iff_not, List.mem_append]
    constructor
    · rintro ⟨hO | hN, hx⟩
      · exact .inl hO
      · right
        rw [hsplit, List.mem_append] at hN
        rcases hN with hN | hN
        · exact hN
        · exact Classical.byContradiction fun hk => hx ⟨hN, hk⟩
    · rintro (hO | hN)
      · refine ⟨.inl hO, fun ⟨hx, _⟩ => ?_⟩
        exact hnn.2.2 i hO i (List.mem_of_mem_drop hx) rfl
      · exact ⟨.inr (List.mem_of_mem_take hN), fun ⟨_, hk⟩ => hk hN⟩
  · by_cases e : i = 0
    · rw [e, hV0]; exact h2
    · rw [hV i e]; exact h.len i hi
  · by_cases e : i = 0
    · omega
    · have : (Dr.free (d.nums.take k) (d.nums.drop k) d).ch i = d.ch i := h3 i e
      have hi' : ((Dr.free (d.nums.take k) (d.nums.drop k) d).ch i).isSome = true := hi
      rw [this] at hi'; exact h.ch i hi'
/-- A block is taken, or none is left. -/
theorem take_inv (h : Inv g O bl d) (hf : Fix g O bl) (h0 : (d.ch 0).isSome = true) :
    (d.take g = none ∧ bl.length ≤ (O ++ d.nums).length) ∨ ∃ e n, d.take g = some e ∧ (O ++ d.nums).length < bl.length ∧ e.nums = d.nums ++ [n] ∧ n ∉ d.nums ∧ n ≠ 0 ∧ Inv g O bl e ∧ e.V bl n = zeros64 ∧ (∀ j, j ≠ 0 → j ≠ n → e.V bl j = d.V bl j) ∧ (e.ch 0).isSome = true := by
  obtain ⟨g1, g2, g3, g4, g5⟩ := gmay_iff.1 hf.may
  have hb := hf.b128
  have hmany := hf.many
  have hrow := V_row (bl := bl) h0
  have hl64 : (d.row 0).length = 64 := by rw [← hrow]; exact h.len 0 (by omega)
  unfold Dr.take
  by_cases hfst : Bm.first (d.row 0) (gfirst g) g.n < 0
  · left
    rw [if_pos hfst]
    refine ⟨rfl, ?_⟩
    have := length_le_of_sub (List.range bl.length) (O ++ d.nums) List.nodup_range (fun i hi => ?_)
    · rwa [List.length_range] at this
    · rw [List.mem_range] at hi
      by_cases hlow : i < gfirst g
      · exact List.mem_append_left _ (hf.low i hlow)
      · unfold Bm.first at hfst
        rcases Bm.fst_cases (Bm.freeP (d.row 0) (gfirst g) g.n) (8 * (d.row 0).length) with ⟨_, hn⟩ | ⟨k, _, e, _⟩
        · have hp := hn i (by omega)
          unfold Bm.freeP Bm.inR at hp
          have h1 : decide ((gfirst g : Int) ≤ i) = true := decide_eq_true (by omega)
          have h2 : decide ((i : Int) < g.n) = true := decide_eq_true (by omega)
          rw [h1, h2] at hp
          have ht : Bm.tb (d.row 0) i = true := by simpa using hp
          rw [← hrow, h.bits i (by omega)] at ht
          exact of_decide_eq_true ht
        · rw [e] at hfst; omega
  · right
    rw [if_neg hfst]
    obtain ⟨f1, f2, f3, f4⟩ := first_lt hfst
    obtain ⟨n, hn⟩ : ∃ n, n = (Bm.first (d.row 0) (gfirst g) g.n).toNat := ⟨_, rfl⟩
    rw [← hn] at f4 ⊢
    have hnl : n < bl.length := by omega
    have hnt : n ∉ O ++ d.nums := by
      rw [← hrow, h.bits n (by omega)] at f4
      exact of_decide_eq_false f4
    have hn0 : n ≠ 0 := fun e => hnt (List.mem_append_left _ (e ▸ hf.zero))
    have hnn : n ∉ d.nums := fun hx => hnt (List.mem_append_right _ hx)
    have hnO : n ∉ O := fun hx => hnt (List.mem_append_left _ hx)
    have hcap : (O ++ d.nums).length < bl.length := by
      have := length_le_of_sub (n :: (O ++ d.nums)) (List.range bl.length) (List.nodup_cons.2 ⟨hnt, h.nd⟩) (fun i hi => by
        rw [List.mem_range]
        rcases List.mem_cons.1 hi with rfl | hi
        · exact hnl
        · exact h.lt i hi)
      rw [List.length_range, List.length_cons] at this
      omega
    have hch : ∀ j, (({ d.mark n true with nums := d.nums ++ [n] } : Dr).put n zeros64).ch j = if j = n then some zeros64 else if j = 0 then some (Bm.setB (d.row 0) n true) else d.ch j := fun j => by
      simp only [Dr.put, Dr.mark]
    have hV : ∀ j, j ≠ 0 → j ≠ n → (({ d.mark n true with nums := d.nums ++ [n] } : Dr).put n zeros64).V bl j = d.V bl j := fun j hj hjn => by
      unfold Dr.V; rw [hch, if_neg hjn, if_neg hj]
    have hV0 : (({ d.mark n true with nums := d.nums ++ [n] } : Dr).put n zeros64).V bl 0 = Bm.setB (d.row 0) n true := by
      unfold Dr.V; rw [hch, if_neg (fun e => hn0 e.symm), if_pos rfl]; rfl
    have hVn : (({ d.mark n true with nums := d.nums ++ [n] } : Dr).put n zeros64).V bl n = zeros64 := by
      unfold Dr.V; rw [hch, if_pos rfl]; rfl
    have hnums : (({ d.mark n true with nums := d.nums ++ [n] } : Dr).put n zeros64).nums = d.nums ++ [n] := rfl
    refine ⟨_, n, rfl, hcap, hnums, hnn, hn0, ⟨?_, fun i hi => ?_, fun i hi hi0 => ?_, fun i hi => ?_, fun i hi => ?_, fun i hi => ?_⟩, hVn, hV, ?_⟩
    · rw [hnums, ← List.append_assoc, List.nodup_append]
      exact ⟨h.nd, by simp, fun a ha b hb2 e => by rw [List.mem_singleton] at hb2; exact hnt (by rw [← hb2, ← e]; exact ha)⟩
    · rw [hnums, ← List.append_assoc, List.mem_append, List.mem_singleton] at hi
      rcases hi with hi | rfl
      · exact h.lt i hi
      · exact hnl
    · rw [hch, if_neg (fun e : i = n => hnO (by rw [← e]; exact hi)), if_neg hi0]; exact h.out i hi hi0
    · rw [hV0, Bm.tb_setB (d.row 0) n true (by omega) i, hnums, ← List.append_assoc]
      by_cases e : i = n
      · rw [if_pos e, e]; simp
      · rw [if_neg e, ← hrow, h.bits i hi]; simp [e]
    · by_cases e0 : i = 0
      · rw [e0, hV0, Bm.setB_length]; exact hl64
      · by_cases en : i = n
        · rw [en, hVn]; rfl
        · rw [hV i e0 en]; exact h.len i hi
    · rw [hch] at hi
      by_cases en : i = n
      · rw [en]; exact hnl
      · rw [if_neg en] at hi
        by_cases e0 : i = 0
        · omega
        · rw [if_neg e0] at hi; exact h.ch i hi
    · rw [hch, if_neg (fun e => hn0 e.symm), if_pos rfl]; rfl
theorem grow_inv (hf : Fix g O bl) : ∀ (k : Nat) {d : Dr}, Inv g O bl d → (d.ch 0).isSome = true →
    (bl.length < (O ++ d.nums).length + k ∧ (O ++ d.nums).length ≤ bl.length ∧ Dr.grow g k d = none) ∨ ∃ e l, (O ++ d.nums).length + k ≤ bl.length ∧ Dr.grow g k d = some e ∧ e.nums = d.nums ++ l ∧ l.length = k ∧ Inv g O bl e ∧ (∀ n ∈ l, e.V bl n = zeros64 ∧ n ∉ d.nums) ∧ (∀ j, j ≠ 0 → j ∉ l → e.V bl j = d.V bl j) ∧ (e.ch 0).isSome = true
  | 0, d, h, h0 => by
    right
    have hle : (O ++ d.nums).length ≤ bl.length := by
      have := length_le_of_sub (O ++ d.nums) (List.range bl.length) h.nd (fun i hi => List.mem_range.2 (h.lt i hi))
      rwa [List.length_range] at this
    exact ⟨d, [], by omega, rfl, by simp, rfl, h, fun n hn => by simp at hn, fun _ _ _ => rfl, h0⟩
  | k + 1, d, h, h0 => by
    have hle : (O ++ d.nums).length ≤ bl.length := by
      have := length_le_of_sub (O ++ d.nums) (List.range bl.length) h.nd (fun i hi => List.mem_range.2 (h.lt i hi))
      rwa [List.length_range] at this
    rcases take_inv h hf h0 with ⟨ht, hl⟩ | ⟨e, n, ht, hlt, hen, hnn, hn0, hI, hVn, hV, he0⟩
    · left
      exact ⟨by omega, hle, by rw [Dr.grow, ht]; rfl⟩
    · have hel : (O ++ e.nums).length = (O ++ d.nums).length + 1 := by rw [hen, ← List.append_assoc, List.length_append]; rfl
      rcases grow_inv hf k hI he0 with ⟨a1, a2, a3⟩ | ⟨f, l, a1, a2, a3, a4, a5, a6, a7, a8⟩
      · left
        exact ⟨by omega, hle, by rw [Dr.grow, ht]; exact a3⟩
      · right
        have hnl : n ∉ l := fun hx => (a6 n hx).2 (by rw [hen]; simp)
        refine ⟨f, n :: l, by omega, by rw [Dr.grow, ht]; exact a2, by rw [a3, hen]; simp, by rw [List.length_cons, a4], a5, fun q hq => ?_, fun j hj hjl => ?_, a8⟩
        · rcases List.mem_cons.1 hq with rfl | hq
          · exact ⟨by rw [a7 q hn0 hnl]; exact hVn, hnn⟩
          · obtain ⟨b1, b2⟩ := a6 q hq
            exact ⟨b1, fun hx => b2 (by rw [hen]; exact List.mem_append_left _ hx)⟩
        · rw [List.mem_cons, not_or] at hjl
          rw [a7 j hj hjl.2, hV j hj hjl.1]
/-- The indirect block names the further ones. -/
def IndOk (V : Nat → List UInt8) (l : List Nat) : Prop := 4 < l.length → (V (l.getD 4 0)).take (l.length - 5) = (l.drop 5).map UInt8.ofNat
theorem getD_mem {l : List Nat} {i : Nat} (h : i < l.length) : l.getD i 0 ∈ l := by
  rw [List.getD_eq_getElem?_getD, List.getElem?_eq_getElem h]; exact List.getElem_mem _
theorem dn_nodup {l : List Nat} (h : l.Nodup) (h4 : 4 < l.length) : l.getD 4 0 ∉ dn l := by
  have e : l = l.take 4 ++ l.getD 4 0 :: l.drop 5 := by
    conv => lhs; rw [← List.take_append_drop 4 l]
    rw [List.drop_eq_getElem_cons h4, List.getD_eq_getElem?_getD, List.getElem?_eq_getElem h4]; rfl
  rw [e] at h
  rw [List.nodup_append, List.nodup_cons] at h
  unfold dn
  rw [List.mem_append, not_or]
  exact ⟨fun hx => h.2.2 _ hx _ (by simp) rfl, h.2.1.1⟩
theorem dn_sub {l : List Nat} {i : Nat} (h : i ∈ dn l) : i ∈ l := by
  unfold dn at h
  rcases List.mem_append.1 h with h | h
  · exact List.mem_of_mem_take h
  · exact List.mem_of_mem_drop h
theorem flat_congr {V W : Nat → List UInt8} {l : List Nat} (h : ∀ i ∈ dn l, V i = W i) : flat V l = flat W l := by
  unfold flat
  rw [List.flatMap_def, List.flatMap_def]
  congr 1
  exact List.map_congr_left h
theorem name_inv (h : Inv g O bl d) (hf : Fix g O bl) (hl : d.nums.length ≤ 37) : Inv g O bl d.name ∧ d.name.nums = d.nums ∧ d.name.z = d.z ∧ flat (d.name.V bl) d.nums = flat (d.V bl) d.nums ∧ IndOk (d.name.V bl) d.nums ∧ (∀ j, j ∉ d.nums → d.name.V bl j = d.V bl j) := by
  unfold Dr.name
  by_cases h4 : d.nums.length ≤ 4
  · rw [if_pos h4]
    exact ⟨h, rfl, rfl, rfl, fun hx => by omega, fun _ _ => rfl⟩
  · rw [if_neg h4]
    have hm : d.nums.getD 4 0 ∈ d.nums := getD_mem (by omega)
    have hlen : (named (d.nums.drop 5)).length = 64 := by
      unfold named
      rw [List.length_append, List.length_map, List.length_replicate, List.length_drop]; omega
    obtain ⟨h1, h2⟩ := put_inv h hf hm hlen
    refine ⟨h1, rfl, rfl, flat_congr fun i hi => ?_, fun _ => ?_, fun j hj => ?_⟩
    · rw [h2, if_neg]
      rintro rfl
      exact dn_nodup (List.nodup_append.1 h.nd).2.1 (by omega) hi
    · rw [h2, if_pos rfl]
      unfold named
      rw [List.take_append_of_le_length (by rw [List.length_map, List.length_drop]; exact Nat.le_refl _)]
      exact List.take_of_length_le (by rw [List.length_map, List.length_drop]; exact Nat.le_refl _)
    · rw [h2, if_neg (fun e : j = d.nums.getD 4 0 => hj (by rw [e]; exact hm))]
theorem numAt_dn (l : List Nat) (off : Nat) : numAt l off = (dn l).getD (off / 64) 0 := by
  unfold numAt dn placeOf
  rw [List.getD_eq_getElem?_getD, List.getD_eq_getElem?_getD, List.getElem?_append, List.length_take]
  by_cases h : 4 ≤ off / 64
  · rw [if_pos h]
    by_cases h4 : 4 ≤ l.length
    · rw [if_neg (by omega), List.getElem?_drop, show 5 + (off / 64 - min 4 l.length) = off / 64 + 1 by omega]
    · rw [if_neg (by omega), List.getElem?_drop, List.getElem?_eq_none (by omega), List.getElem?_eq_none (by omega)]
  · rw [if_neg h]
    by_cases h2 : off / 64 < min 4 l.length
    · rw [if_pos h2, List.getElem?_take, if_pos (by omega)]
    · rw [if_neg h2, List.getElem?_drop, List.getElem?_eq_none (by omega), List.getElem?_eq_none (by omega)]
theorem dn_len {l : List Nat} {z : Int} (h : l.length = need z) : (dn l).length = data z := by
  unfold dn
  rw [List.length_append, List.length_take, List.length_drop, h]
  unfold need
  split <;> omega
theorem fm_len {V : Nat → List UInt8} : ∀ {m : List Nat}, (∀ i ∈ m, (V i).length = 64) → (m.flatMap V).length = 64 * m.length
  | [], _ => rfl
  | a :: m, h => by
    rw [List.flatMap_cons, List.length_append, h a (by simp), fm_len (fun i hi => h i (by simp [hi])), List.length_cons]
    omega
theorem fm_row {V W : Nat → List UInt8} {m : List Nat} (hnd : m.Nodup) (hl : ∀ i ∈ m, (V i).length = 64) {q : Nat} (hq : q < m.length) {b : List UInt8} (hW : ∀ j, W j = if j = m.getD q 0 then b else V j) :
    ∃ A C, m.flatMap V = A ++ (V (m.getD q 0) ++ C) ∧ m.flatMap W = A ++ (b ++ C) ∧ A.length = 64 * q := by
  have hn : m.getD q 0 = m[q] := by rw [List.getD_eq_getElem?_getD, List.getElem?_eq_getElem hq]; rfl
  rw [hn] at hW ⊢
  have e : m = m.take q ++ m[q] :: m.drop (q + 1) := by
    have h1 := (List.take_append_drop q m).symm
    rwa [List.drop_eq_getElem_cons hq] at h1
  have hnd' := hnd
  rw [e, List.nodup_append, List.nodup_cons] at hnd'
  have h1 : (m.take q).flatMap W = (m.take q).flatMap V := by
    rw [List.flatMap_def, List.flatMap_def]
    congr 1
    refine List.map_congr_left fun i hi => ?_
    rw [hW, if_neg]
    intro hx
    exact hnd'.2.2 i hi i (by rw [hx]; exact List.mem_cons_self) rfl
  have h2 : (m.drop (q + 1)).flatMap W = (m.drop (q + 1)).flatMap V := by
    rw [List.flatMap_def, List.flatMap_def]
    congr 1
    refine List.map_congr_left fun i hi => ?_
    rw [hW, if_neg]
    intro hx
    exact hnd'.2.1.1 (by rw [← hx]; exact hi)
  refine ⟨(m.take q).flatMap V, (m.drop (q + 1)).flatMap V, ?_, ?_, ?_⟩
  · have := congrArg (List.flatMap V) e
    rwa [List.flatMap_append, List.flatMap_cons] at this
  · have := congrArg (List.flatMap W) e
    rwa [List.flatMap_append, List.flatMap_cons, h1, h2, hW m[q], if_pos rfl] at this
  · rw [fm_len (fun i hi => hl i (List.mem_of_mem_take hi)), List.length_take, Nat.min_eq_left (by omega)]
theorem over_length {r : List UInt8} {o : Nat} {b : List UInt8} (h : o + b.length ≤ r.length) : (over r o b).length = r.length := by
  unfold over; simp; omega
/-- A piece of one block is written over. -/
theorem over_row {V W : Nat → List UInt8} {m : List Nat} (hnd : m.Nodup) (hl : ∀ i ∈ m, (V i).length = 64) {off : Nat} (hq : off / 64 < m.length) {cs : List UInt8} (hc : off % 64 + cs.length ≤ 64)
    (hW : ∀ j, W j = if j = m.getD (off / 64) 0 then over (V (m.getD (off / 64) 0)) (off % 64) cs else V j) : m.flatMap W = over (m.flatMap V) off cs := by
  have hm : m.getD (off / 64) 0 ∈ m := getD_mem hq
  have hVq := hl _ hm
  obtain ⟨A, C, h1, h2, h3⟩ := fm_row hnd hl hq hW
  rw [h1, h2]
  generalize V (m.getD (off / 64) 0) = R at *
  have hoff : off = A.length + off % 64 := by omega
  unfold over
  have e1 : (A ++ (R ++ C)).take off = A ++ R.take (off % 64) := by
    rw [hoff, List.take_length_add_append, ← hoff, List.take_append_of_le_length (by omega)]
  have e2 : (A ++ (R ++ C)).drop (off + cs.length) = R.drop (off % 64 + cs.length) ++ C := by
    rw [show off + cs.length = A.length + (off % 64 + cs.length) by omega, List.drop_length_add_append, List.drop_append_of_le_length (by omega)]
  rw [e1, e2]
  simp [List.append_assoc]
/-- A draft whose block of byte off is loaded, and written over. -/
theorem over_inv (h : Inv g O bl d) (hf : Fix g O bl) {off : Nat} (hq : off / 64 < (dn d.nums).length) {cs : List UInt8} (hc : off % 64 + cs.length ≤ 64) :
    ∃ e, d.load bl (numAt d.nums off) = some e ∧ e.row (numAt d.nums off) = d.V bl (numAt d.nums off) ∧ e.nums = d.nums ∧ e.z = d.z ∧ (d.V bl (numAt d.nums off)).length = 64 ∧
      Inv g O bl (e.put (numAt d.nums off) (over (e.row (numAt d.nums off)) (off % 64) cs)) ∧
      flat ((e.put (numAt d.nums off) (over (e.row (numAt d.nums off)) (off % 64) cs)).V bl) d.nums = over (flat (d.V bl) d.nums) off cs ∧
      (∀ j, j ∉ d.nums → (e.put (numAt d.nums off) (over (e.row (numAt d.nums off)) (off % 64) cs)).V bl j = d.V bl j) ∧
      (IndOk (d.V bl) d.nums → IndOk ((e.put (numAt d.nums off) (over (e.row (numAt d.nums off)) (off % 64) cs)).V bl) d.nums) := by
  have hnA := numAt_dn d.nums off
  have hmd : numAt d.nums off ∈ dn d.nums := by rw [hnA]; exact getD_mem hq
  have hmn := dn_sub hmd
  obtain ⟨e, h1, h2, h3, h4, h5, h6⟩ := load_inv h hf (.inr hmn)
  have hrow : e.row (numAt d.nums off) = d.V bl (numAt d.nums off) := by unfold Dr.row; rw [h6]; rfl
  have hl64 := h.len _ (h.lt _ (List.mem_append_right _ hmn))
  refine ⟨e, ?_⟩
  rw [hrow]
  have hmn' : numAt d.nums off ∈ e.nums := by rw [h4]; exact hmn
  obtain ⟨p1, p2⟩ := put_inv h2 hf hmn' (b := over (d.V bl (numAt d.nums off)) (off % 64) cs) (by rw [over_length (by omega)]; exact hl64)
  have hW : ∀ j, (e.put (numAt d.nums off) (over (d.V bl (numAt d.nums off)) (off % 64) cs)).V bl j = if j = numAt d.nums off then over (d.V bl (numAt d.nums off)) (off % 64) cs else d.V bl j := fun j => by rw [p2, h3]
  have hnd := (List.nodup_append.1 h.nd).2.1
  have hdnd : (dn d.nums).Nodup := by
    have hs : (d.nums.take 4 ++ d.nums.drop 4).Nodup := by rw [List.take_append_drop]; exact hnd
    rw [List.nodup_append] at hs
    unfold dn
    rw [List.nodup_append]
    have hsub : d.nums.drop 5 = (d.nums.drop 4).drop 1 := by rw [List.drop_drop]
    rw [hsub]
    exact ⟨hs.1, hs.2.1.sublist (List.drop_sublist _ _), fun a ha b hb => hs.2.2 a ha b (List.mem_of_mem_drop hb)⟩
  refine ⟨h1, rfl, h4, h5, hl64, p1, ?_, fun j hj => ?_, fun hI h4' => ?_⟩
  · refine over_row hdnd (fun i hi => h.len i (h.lt i (List.mem_append_right _ (dn_sub hi)))) hq hc fun j => ?_
    rw [hW, hnA]
  · rw [hW, if_neg (fun e : j = numAt d.nums off => hj (by rw [e]; exact hmn))]
  · rw [hW, if_neg (fun e => dn_nodup hnd h4' (by rw [e]; exact hmd))]
    exact hI h4'
theorem flat_len (h : Inv g O bl d) {l : List Nat} (hl : ∀ i ∈ l, i ∈ d.nums) : (flat (d.V bl) l).length = 64 * (dn l).length :=
  fm_len fun i hi => h.len i (h.lt i (List.mem_append_right _ (hl i (dn_sub hi))))
theorem data_eq {z : Int} (h0 : 0 ≤ z) : (z.toNat : Nat) ≤ 64 * data z ∧ 64 * data z < z.toNat + 64 := by unfold data; omega
theorem clear_inv (h : Inv g O bl d) (hf : Fix g O bl) (hz0 : 0 ≤ d.z) (hlen : d.nums.length = need d.z) :
    ∃ e, d.clearTail bl = some e ∧ Inv g O bl e ∧ e.nums = d.nums ∧ e.z = d.z ∧ flat (e.V bl) d.nums = (flat (d.V bl) d.nums).take d.z.toNat ++ List.replicate (64 * data d.z - d.z.toNat) 0 ∧ (IndOk (d.V bl) d.nums → IndOk (e.V bl) d.nums) := by
  have hdl := dn_len hlen
  have hfl := flat_len h (l := d.nums) (fun _ x => x)
  rw [hdl] at hfl
  obtain ⟨b1, b2⟩ := data_eq hz0
  unfold Dr.clearTail
  by_cases hz : d.z.toNat % 64 = 0
  · rw [if_pos hz]
    have hd : 64 * data d.z = d.z.toNat := by omega
    exact ⟨d, rfl, h, rfl, rfl, by rw [List.take_of_length_le (by omega), hd, Nat.sub_self, List.replicate_zero, List.append_nil], fun x => x⟩
  · rw [if_neg hz]
    have hq : d.z.toNat / 64 < (dn d.nums).length := by rw [hdl]; unfold data; omega
    obtain ⟨e, h1, h2, h3, h4, h5, h6, h7, h8, h9⟩ := over_inv h hf hq (cs := List.replicate (64 - d.z.toNat % 64) 0) (by rw [List.length_replicate]; omega)
    have hov : over (e.row (numAt d.nums d.z.toNat)) (d.z.toNat % 64) (List.replicate (64 - d.z.toNat % 64) 0) = (e.row (numAt d.nums d.z.toNat)).take (d.z.toNat % 64) ++ List.replicate (64 - d.z.toNat % 64) 0 := by
      unfold over
      rw [List.length_replicate, List.drop_of_length_le (by rw [h2, h5]; omega), List.append_nil]
    rw [hov] at h6 h7 h8 h9
    refine ⟨_, by rw [h1]; rfl, h6, h3, h4, ?_, h9⟩
    rw [h7]
    unfold over
    rw [List.length_replicate, List.drop_of_length_le (by omega), List.append_nil]
    congr 2
    omega
theorem dn_take (l : List Nat) (k : Nat) (hk : k ≠ 5) : dn (l.take k) = (dn l).take (if 5 < k then k - 1 else k) := by
  unfold dn
  by_cases h5 : 5 < k
  · rw [if_pos h5, List.take_take, List.drop_take, Nat.min_eq_left (by omega), List.take_append]
    by_cases h4 : 4 ≤ l.length
    · rw [List.length_take, Nat.min_eq_left h4, List.take_of_length_le (l := l.take 4) (by rw [List.length_take]; omega), show k - 1 - 4 = k - 5 by omega]
    · rw [List.take_of_length_le (l := l.take 4) (by rw [List.length_take]; omega), List.drop_of_length_le (by omega)]; simp
  · rw [if_neg h5, List.take_take, List.drop_of_length_le (by rw [List.length_take]; omega), List.append_nil, List.take_append]
    by_cases h4 : 4 ≤ l.length
    · rw [List.length_take, Nat.min_eq_left h4, show k - 4 = 0 by omega, List.take_zero, List.append_nil, List.take_take, Nat.min_comm]
    · rw [List.drop_of_length_le (by omega), List.take_nil, List.append_nil, List.take_take, Nat.min_comm]
theorem dn_append (a l : List Nat) : ∃ x, dn (a ++ l) = dn a ++ x ∧ ∀ i ∈ x, i ∈ l := by
  unfold dn
  by_cases h : 5 ≤ a.length
  · exact ⟨l, by rw [List.take_append_of_le_length (by omega), List.drop_append_of_le_length h, List.append_assoc], fun _ x => x⟩
  · refine ⟨l.take (4 - a.length) ++ l.drop (5 - a.length), ?_, fun i hi => ?_⟩
    · rw [List.take_append, List.drop_append, List.take_of_length_le (l := a) (by omega), List.drop_of_length_le (l := a) (by omega), List.append_nil, List.nil_append, List.append_assoc]
    · rcases List.mem_append.1 hi with hi | hi
      · exact List.mem_of_mem_take hi
      · exact List.mem_of_mem_drop hi
theorem fm_zero {V : Nat → List UInt8} : ∀ {m : List Nat}, (∀ i ∈ m, V i = zeros64) → m.flatMap V = List.replicate (64 * m.length) 0
  | [], _ => rfl
  | a :: m, h => by
    rw [List.flatMap_cons, h a (by simp), fm_zero (fun i hi => h i (by simp [hi])), zeros64, List.replicate_append_replicate, List.length_cons]
    congr 1
    omega
theorem need_data {y z : Int} (h : need y = need z) : data y = data z := by unfold need at h; split at h <;> split at h <;> omega
theorem need_lt {y z : Int} (h : need y < need z) : y < z := by
  rcases Int.lt_or_le y z with h1 | h1
  · exact h1
  · have := need_mono h1; omega
theorem resize_inv (h : Inv g O bl d) (hf : Fix g O bl) (hd : d.Ok) (hlen : d.nums.length = need d.z) (hI : IndOk (d.V bl) d.nums) {z : Int} (hz : z ≤ 2304) :
    (bl.length + d.nums.length < (O ++ d.nums).length + need z ∧ d.resize bl g z = .error 7) ∨
    ((O ++ d.nums).length + need z ≤ bl.length + d.nums.length ∧ ∃ e, d.resize bl g z = .ok e ∧ Inv g O bl e ∧ IndOk (e.V bl) e.nums ∧
      flat (e.V bl) e.nums = if d.z < z then (flat (d.V bl) d.nums).take d.z.toNat ++ List.replicate (64 * data z - d.z.toNat) 0 else (flat (d.V bl) d.nums).take (64 * data z)) := by
  have hcap : (O ++ d.nums).length ≤ bl.length := by
    have := length_le_of_sub (O ++ d.nums) (List.range bl.length) h.nd (fun i hi => List.mem_range.2 (h.lt i hi))
    rwa [List.length_range] at this
  have hdl := dn_len hlen
  have hfl := flat_len h (l := d.nums) (fun _ x => x)
  rw [hdl] at hfl
  obtain ⟨b1, b2⟩ := data_eq hd.z0
  -- the tail
  obtain ⟨d1, hc, i1, n1, z1, f1, I1⟩ : ∃ d1, (if d.z < z then d.clearTail bl else some d) = some d1 ∧ Inv g O bl d1 ∧ d1.nums = d.nums ∧ d1.z = d.z ∧ flat (d1.V bl) d.nums = (if d.z < z then (flat (d.V bl) d.nums).take d.z.toNat ++ List.replicate (64 * data d.z - d.z.toNat) 0 else flat (d.V bl) d.nums) ∧ IndOk (d1.V bl) d.nums := by
    by_cases hlt : d.z < z
    · rw [if_pos hlt, if_pos hlt]
      obtain ⟨e, h1, h2, h3, h4, h5, h6⟩ := clear_inv h hf hd.z0 hlen
      exact ⟨e, h1, h2, h3, h4, h5, h6 hI⟩
    · rw [if_neg hlt, if_neg hlt]
      exact ⟨d, rfl, h, rfl, rfl, rfl, hI⟩
  unfold Dr.resize
  rw [hc]
  simp only
  have i2 := i1.size z
  have hV2 : ∀ j, ({ d1 with z := z } : Dr).V bl j = d1.V bl j := fun _ => rfl
  unfold Dr.resize2
  by_cases hn : need z = d.nums.length
  · right
    refine ⟨by omega, ?_⟩
    rw [if_pos (by show need z = d1.nums.length; rw [n1]; exact hn)]
    refine ⟨_, rfl, i2, by show IndOk (d1.V bl) d1.nums; rw [n1]; exact I1, ?_⟩
    show flat (d1.V bl) d1.nums = _
    rw [n1, f1]
    have hdd : data d.z = data z := need_data (by omega)
    split
    · rw [hdd]
    · rw [List.take_of_length_le (by omega)]
  · rw [if_neg (by show ¬ need z = d1.nums.length; rw [n1]; exact hn)]
    obtain ⟨e2, l1, l2, l3, l4, l5, l6⟩ := load_inv i2 hf (i := 0) (.inl rfl)
    rw [l1]
    simp only
    have l4' : e2.nums = d.nums := by rw [l4]; exact n1
    have hs2 : (e2.ch 0).isSome = true := by rw [l6]; rfl
    obtain ⟨r1, r2, r3⟩ := release_inv l2 hf hs2 (min (need z) e2.nums.length)
    have hrn : (e2.release (min (need z) e2.nums.length)).nums = d.nums.take (min (need z) d.nums.length) := by rw [release_nums, l4']
    have hrl : (e2.release (min (need z) e2.nums.length)).nums.length = min (need z) d.nums.length := by rw [hrn, List.length_take]; omega
    have hVr : ∀ j, j ∈ d.nums → (e2.release (min (need z) e2.nums.length)).V bl j = d1.V bl j := fun j hj => by
      rw [r2 j (h.nzero hf hj).1, l3]; exact hV2 j
    rw [show need ({ d1 with z := z } : Dr).z = need z from rfl, hrl]
    by_cases hlt : need z < d.nums.length
    · -- fewer blocks
      right
      refine ⟨by omega, ?_⟩
      have hnz : ¬ d.z < z := fun hx => by
        have := need_mono (show d.z ≤ z by omega); omega
      rw [show need z - min (need z) d.nums.length = 0 by omega, Dr.grow]
      simp only
      have hle37 : (e2.release (min (need z) e2.nums.length)).nums.length ≤ 37 := by rw [hrl]; have := hd.len; omega
      obtain ⟨m1, m2, m3, m4, m5, m6⟩ := name_inv r1 hf hle37
      refine ⟨_, rfl, m1, by rw [m2]; exact m5, ?_⟩
      have hmn : min (need z) d.nums.length = need z := Nat.min_eq_left (by omega)
      rw [hmn] at hrn
      rw [m2, m4, if_neg hnz, hrn]
      rw [flat_congr (W := d1.V bl) (fun i hi => hVr i (List.mem_of_mem_take (dn_sub hi)))]
      rw [if_neg hnz] at f1
      rw [← f1]
      unfold flat
      rw [dn_take _ _ (need_five z)]
      have hk : (if 5 < need z then need z - 1 else need z) = data z := by
        unfold need; split <;> split <;> omega
      rw [hk]
      have hd2 : data z ≤ (dn d.nums).length := by
        rw [hdl]; unfold need at hlt hlen; split at hlt <;> split at hlen <;> omega
      have hsp : (dn d.nums).flatMap (d1.V bl) = ((dn d.nums).take (data z)).flatMap (d1.V bl) ++ ((dn d.nums).drop (data z)).flatMap (d1.V bl) := by
        rw [← List.flatMap_append, List.take_append_drop]
      have hl1 : (((dn d.nums).take (data z)).flatMap (d1.V bl)).length = 64 * data z := by
        rw [fm_len (fun i hi => i1.len i (i1.lt i (List.mem_append_right _ (by rw [n1]; exact dn_sub (List.mem_of_mem_take hi))))), List.length_take, Nat.min_eq_left hd2]
      rw [hsp, ← hl1, List.take_left]
    · -- more blocks
      have hgt : d.nums.length < need z := by omega
      have hzlt : d.z < z := need_lt (by omega)
      rw [if_pos hzlt] at f1 ⊢
      have hmin : min (need z) d.nums.length = d.nums.length := by omega
      rw [hmin, List.take_length] at hrn
      rw [hmin]
      rcases grow_inv hf (need z - d.nums.length) r1 r3 with ⟨a1, a2, a3⟩ | ⟨e, l, a1, a2, a3, a4, a5, a6, a7, a8⟩
      · left
        rw [hrn] at a1
        exact ⟨by omega, by rw [a3]⟩
      · right
        rw [hrn] at a1 a3 a6
        refine ⟨by omega, ?_⟩
        rw [a2]
        simp only
        have hel : e.nums.length = need z := by rw [a3, List.length_append, a4]; omega
        obtain ⟨m1, m2, m3, m4, m5, m6⟩ := name_inv a5 hf (by rw [hel]; exact need_le hz)
        refine ⟨_, rfl, m1, by rw [m2]; exact m5, ?_⟩
        rw [m2, m4]
        obtain ⟨x, x1, x2⟩ := dn_append d.nums l
        have hel2 : (dn e.nums).length = data z := dn_len hel
        unfold flat
        rw [a3, x1, List.flatMap_append] at *
        have hx : x.flatMap (e.V bl) = List.replicate (64 * x.length) 0 := fm_zero fun i hi => (a6 i (x2 i hi)).1
        have hxl : x.length = data z - data d.z := by rw [List.length_append, hdl] at hel2; omega
        have hfl2 : (dn d.nums).flatMap (e.V bl) = (dn d.nums).flatMap (d1.V bl) := by
          have := flat_congr (V := e.V bl) (W := d1.V bl) (l := d.nums) (fun i hi => by
            have hin := dn_sub hi
            rw [a7 i (h.nzero hf hin).1 (fun hl => (a6 i hl).2 hin)]
            exact hVr i hin)
          exact this
        have hmono := data_mono (show d.z ≤ z by omega)
        unfold flat at f1
        rw [hx, hxl, hfl2, f1, List.append_assoc, List.replicate_append_replicate]
        congr 2
        omega
end
end Fil
end Go.Proofs.Ytiafmghdiidniaa
