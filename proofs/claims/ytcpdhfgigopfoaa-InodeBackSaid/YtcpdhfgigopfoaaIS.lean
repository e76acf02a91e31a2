/-
  PLAIN: which numbers serve; THE WALKS of the program's Need, widths, and of slices.Index and Contains of ints.
-/
import Derived.Test.YtcpdhfgigopfoaaIC
import Derived.Test.YtcpdhfgigopfoaaID
import Derived.Test.YtcpdhfgigopfoaaKE
import Derived.Test.YtcpdhfgigopfoaaKF
namespace Go.Proofs.Ytcpdhfgigopfoaa
open Go.RowKit Cdc Inn

namespace Inn
/-- The numbers of an inode's blocks, the indirect one behind them. -/
def nm (x : Ino) : List Int := [x.b0, x.b1, x.b2, x.b3, x.d]
theorem nm_len (x : Ino) : (nm x).length = 5 := rfl
theorem nm_l (x : Ino) (i : Nat) : (nm x).getD i 0 = x.l.getD (i + 2) 0 := rfl
/-- Does number i serve? -/
def okS (l : List Int) (n i : Nat) : Bool :=
  if n ≤ i then decide (l.getD i 0 = 0) else decide (1 ≤ l.getD i 0) && decide (l.getD i 0 ≤ 127) && !decide (l.getD i 0 ∈ l.take i)
/-- Do all of them? -/
def serveL (l : List Int) (n : Nat) : Bool := (List.range 5).all fun i => okS l n i
theorem serveL_iff {l : List Int} {n : Nat} : serveL l n = true ↔ ∀ i, i < 5 → okS l n i = true := by
  simp only [serveL, List.all_eq_true, List.mem_range]
theorem serveL_no {l : List Int} {n i : Nat} (hi : i < 5) (h : okS l n i = false) : serveL l n = false := by
  rw [← Bool.not_eq_true]
  intro hs
  rw [serveL_iff.1 hs i hi] at h
  cases h
theorem mem_take_iff (l : List Int) (i : Nat) (hi : i ≤ l.length) (y : Int) : y ∈ l.take i ↔ ∃ j, j < i ∧ l.getD j 0 = y := by
  constructor
  · intro h
    obtain ⟨j, hj, e⟩ := List.getElem_of_mem h
    rw [List.length_take] at hj
    refine ⟨j, by omega, ?_⟩
    rw [List.getElem_take] at e
    rw [List.getD_eq_getElem?_getD, List.getElem?_eq_getElem (by omega), Option.getD_some, e]
  · rintro ⟨j, hj, e⟩
    rw [List.getD_eq_getElem?_getD, List.getElem?_eq_getElem (by omega), Option.getD_some] at e
    rw [← e]
    exact List.mem_iff_getElem.2 ⟨j, by rw [List.length_take]; omega, by rw [List.getElem_take]⟩
theorem okS_okAt (x : Ino) (i : Nat) (hi : i < 5) : okS (nm x) (need x.b) i = okAt x.l (data x.b) (i + 2) := by
  have hn : (need x.b ≤ i) ↔ ¬ (needed (data x.b) (i + 2) = true) := by
    unfold need needed
    by_cases h4 : 4 < data x.b
    · rw [if_pos h4]
      by_cases h6 : i + 2 < 6
      · rw [if_pos h6, decide_eq_true_iff]; omega
      · rw [if_neg h6, decide_eq_true_iff]; omega
    · rw [if_neg h4]
      by_cases h6 : i + 2 < 6
      · rw [if_pos h6, decide_eq_true_iff]; omega
      · rw [if_neg h6, decide_eq_true_iff]; omega
  rw [Bool.eq_iff_iff, okAt_iff]
  rw [← nm_l x i]
  have hm := mem_take_iff (nm x) i (by rw [nm_len]; omega) ((nm x).getD i 0)
  unfold okS
  by_cases h : need x.b ≤ i
  · rw [if_pos h, decide_eq_true_iff]
    have h2 := hn.1 h
    rw [Bool.not_eq_true] at h2
    rw [h2]
    constructor
    · intro e
      rw [e]
      exact ⟨by omega, by omega, by decide, fun j _ _ hh => by have := hh.2; omega⟩
    · rintro ⟨h3, h4, h5, _⟩
      rw [decide_eq_false_iff_not] at h5
      omega
  · rw [if_neg h]
    have h2 : needed (data x.b) (i + 2) = true := by
      rcases hb : needed (data x.b) (i + 2) with _ | _
      · exact absurd (hn.2 (by rw [hb]; decide)) h
      · rfl
    rw [h2, Bool.and_eq_true, Bool.and_eq_true, decide_eq_true_iff, decide_eq_true_iff, Bool.not_eq_true', decide_eq_false_iff_not, hm]
    constructor
    · rintro ⟨⟨h3, h4⟩, h5⟩
      refine ⟨by omega, h4, decide_eq_true (by omega), fun j hj2 hj hh => h5 ⟨j - 2, by omega, ?_⟩⟩
      rw [nm_l, show j - 2 + 2 = j by omega]
      exact hh.1
    · rintro ⟨h3, h4, h5, h6⟩
      have h7 := of_decide_eq_true h5
      refine ⟨⟨by omega, h4⟩, ?_⟩
      rintro ⟨j, hj, e⟩
      refine h6 (j + 2) (by omega) (by omega) ⟨?_, h7⟩
      rw [← nm_l]
      exact e
theorem may_serve {x : Ino} (hk : x.k = 1 ∨ x.k = 2) : may x = (decide (0 ≤ x.b) && decide (x.b ≤ 2304) && serveL (nm x) (need x.b)) := by
  rw [Bool.eq_iff_iff, may_used (by omega), Bool.and_eq_true, Bool.and_eq_true, decide_eq_true_iff, decide_eq_true_iff, serveL_iff]
  constructor
  · rintro ⟨_, h1, h2, h3⟩
    exact ⟨⟨h1, h2⟩, fun i hi => by rw [okS_okAt x i hi]; exact h3 (i + 2) (by omega) (by omega)⟩
  · rintro ⟨⟨h1, h2⟩, h3⟩
    refine ⟨hk, h1, h2, fun i h2 h7 => ?_⟩
    have := h3 (i - 2) (by omega)
    rwa [okS_okAt x (i - 2) (by omega), show i - 2 + 2 = i by omega] at this
theorem may_other {x : Ino} (h0 : x.k ≠ 0) (h1 : x.k ≠ 1) (h2 : x.k ≠ 2) : may x = false := by
  rw [← Bool.not_eq_true]
  intro h
  rcases ((may_used h0).1 h).1 with h | h
  · exact h1 h
  · exact h2 h
/-- The first place of a number, or -1. -/
def idx (l : List Int) (y : Int) : Int := if y ∈ l then (l.findIdx (· == y) : Nat) else -1
theorem idx_at (l : List Int) (y : Int) (k : Nat) (hk : k < l.length) (h : ∀ j, j < k → l.getD j 0 ≠ y) (e : l.getD k 0 = y) : idx l y = k := by
  have hg : ∀ j (hj : j < l.length), l.getD j 0 = l[j] := fun j hj => by rw [List.getD_eq_getElem?_getD, List.getElem?_eq_getElem hj, Option.getD_some]
  rw [hg k hk] at e
  unfold idx
  rw [if_pos (by rw [← e]; exact List.getElem_mem _)]
  have : l.findIdx (· == y) = k := by
    rw [List.findIdx_eq hk]
    refine ⟨by rw [e]; exact beq_self_eq_true _, fun j hj => ?_⟩
    have := h j hj
    rw [hg j (by omega)] at this
    exact beq_eq_false_iff_ne.2 this
  rw [this]
theorem idx_no (l : List Int) (y : Int) (h : ∀ j, j < l.length → l.getD j 0 ≠ y) : idx l y = -1 := by
  unfold idx
  rw [if_neg]
  intro hm
  obtain ⟨j, hj, e⟩ := List.getElem_of_mem hm
  refine h j hj ?_
  rw [List.getD_eq_getElem?_getD, List.getElem?_eq_getElem hj, Option.getD_some, e]
theorem idx_has (l : List Int) (y : Int) : decide (0 ≤ idx l y) = decide (y ∈ l) := by
  unfold idx
  by_cases h : y ∈ l
  · rw [if_pos h, decide_eq_true h]; exact decide_eq_true (by omega)
  · rw [if_neg h, decide_eq_false h]; exact decide_eq_false (by omega)
theorem idx_le (l : List Int) (y : Int) : -1 ≤ idx l y ∧ idx l y ≤ l.length := by
  unfold idx
  split
  · have := List.findIdx_le_length (xs := l) (p := (· == y)); omega
  · omega
end Inn

set_option maxRecDepth 100000 in
set_option maxHeartbeats 400000 in
theorem InNeed_any (n : Int) (hi : In64 n) (w : World) : Calls Try.prog 9 #[.int .i64 n] w fun e w' => e = .returned (.int .i64 (need n)) ∧ w' = w := by
  obtain ⟨h1, h2⟩ := hi
  by_cases h0 : n < 1
  · have hz : need n = 0 := by
      have : data n = 0 := by unfold data; omega
      unfold need; rw [this]; rfl
    rw [hz]
    go_enter Try.func9, Try.ntmps9
    go_wp2
    go_ret
    exact ⟨rfl, rfl⟩
  · obtain ⟨q, hq⟩ : ∃ q, q = (n - 1) / 64 := ⟨_, rfl⟩
    have hd : (data n : Int) = q + 1 := by rw [hq]; unfold data; omega
    have hq0 : 0 ≤ q := by omega
    have hqb : q ≤ 200000000000000000 := by omega
    by_cases h4 : 4 < q + 1
    · have hz : Hid (((need n : Nat) : Int) = q + 1 + 1) := by
        show _ = _
        unfold need; rw [if_pos (by omega)]; omega
      rw [hz.out]
      have HQ := Lib.hid hq
      clear hd hz
      go_enter Try.func9, Try.ntmps9
      go_wp2
      go_ret
      exact ⟨rfl, rfl⟩
    · have hz : Hid (((need n : Nat) : Int) = q + 1) := by
        show _ = _
        unfold need; rw [if_neg (by omega)]; omega
      rw [hz.out]
      clear hd hz
      go_enter Try.func9, Try.ntmps9
      go_wp2
      go_ret
      exact ⟨rfl, rfl⟩

def widthsL : List Int := [1, 2, 1, 1, 1, 1, 1]
set_option maxRecDepth 100000 in
set_option maxHeartbeats 400000 in
theorem InWidths_any (w : World) : Calls Try.prog 16 #[] w fun e w' => ∃ v, e = .returned v ∧ Hid (From w' v (widthsL.map VI)) ∧ Below w.heap.size w w' := by
  go_enter Try.func16, Try.ntmps16
  go_wp2
  go_ret
  refine ⟨_, rfl, ?_, (Below.refl _ _).alloc (Nat.le_refl _) _⟩
  exact (Own.lit w w.heap.size 3 (widthsL.map VI) (Nat.le_refl _) (by decide)).from_

set_option maxRecDepth 100000 in
set_option maxHeartbeats 400000 in
theorem QIdxI_any (l : List Int) (hl : l.length ≤ 1000000) (y : Int) (v : Value) (w : World) (h : From w v (l.map VI)) :
    Calls Try.prog 27 #[v, .int .i64 y] w fun e w' => e = .returned (.int .i64 (idx l y)) ∧ w' = w := by
  obtain ⟨A, cap, rfl, hs⟩ := h.parts
  rw [List.length_map] at hs ⊢
  obtain ⟨n, hn⟩ : ∃ n, n = l.length := ⟨_, rfl⟩
  rw [← hn] at hs hl ⊢
  have HS := Lib.hid hs
  have HN := Lib.hid hn
  clear hs hn h
  go_enter Try.func27, Try.ntmps27
  go_wp2
  go_loop [8] (fun i => ∃ k : Nat, k ≤ n ∧ i = .int .i64 k ∧ Hid (∀ j, j < k → l.getD j 0 ≠ y)) (fun i => n - (intOf i).toNat)
  case atStart => exact ⟨0, by omega, rfl, fun j hj => by omega⟩
  case round =>
    obtain ⟨k, hk, rfl, Hno⟩ := hrel
    by_cases hlt : k < n
    · obtain ⟨b, o, rfl, hb, hsee⟩ := HS.out (by omega)
      have hx := atI hsee k (by rw [← HN.out]; exact hlt)
      have Hat := Lib.hid (idx_at l y k (by rw [← HN.out]; exact hlt) Hno.out)
      have Hne : Hid (l.getD k 0 ≠ y → ∀ j, j < k + 1 → l.getD j 0 ≠ y) := fun h j hj => by
        by_cases e : j = k
        · rw [e]; exact h
        · exact Hno.out j (by omega)
      clear hsee HS Hno
      generalize l.getD k 0 = z at *
      by_cases hz : z = y
      · subst hz
        have H := Lib.hid (Hat.out rfl)
        go_wp2
        go_ret
        rw [H.out]
        exact ⟨rfl, rfl⟩
      · have hyz : (y == z) = false := beq_eq_false_iff_ne.2 fun h => hz h.symm
        have H := Lib.hid (Hne.out hz)
        go_wp2
        go_round
        case rel => exact ⟨k + 1, by omega, by go_num, H⟩
        case measure => simp [intOf] <;> omega
    · obtain rfl : k = n := by omega
      have H := Lib.hid (idx_no l y (by rw [← HN.out]; exact Hno.out))
      go_wp2
      go_ret
      rw [H.out]
      exact ⟨rfl, rfl⟩

set_option maxRecDepth 100000 in
set_option maxHeartbeats 400000 in
theorem QContI_any (l : List Int) (hl : l.length ≤ 1000000) (y : Int) (v : Value) (w : World) (h : From w v (l.map VI)) :
    Calls Try.prog 24 #[v, .int .i64 y] w fun e w' => e = .returned (.bool (decide (y ∈ l))) ∧ w' = w := by
  have HI := Lib.hid (QIdxI_any l hl y v w h)
  have hb := idx_le l y
  have HH := Lib.hid (idx_has l y)
  rw [← HH.out]
  generalize idx l y = z at *
  obtain ⟨h1, h2⟩ := hb
  clear HH h
  go_enter Try.func24, Try.ntmps24
  go_wp2_with fail
  refine HI.out.mono ?_
  rintro e w1 ⟨rfl, rfl⟩
  go_wp2
  go_ret
  exact ⟨rfl, rfl⟩
end Go.Proofs.Ytcpdhfgigopfoaa
