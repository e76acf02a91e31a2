/-
  3 texts in one (ISA, IT, IU): each says at its own head what it holds.
-/
import Derived.Test.YtiafmghdiidniaaID
import Derived.Test.YtiafmghdiidniaaKA

section
/-
  PLAIN: which numbers serve; THE WALKS of the program's Need, and of slices.Index and Contains of ints.
-/
namespace Go.Proofs.Ytiafmghdiidniaa
open Go.RowKit Cdc Inn

namespace Inn
/-- The numbers of an inode's blocks, the indirect one behind them. -/
def nm (x : Ino) : List Int := [x.b0, x.b1, x.b2, x.b3, x.d]
theorem nm_len (x : Ino) : (nm x).length = 5 := rfl
theorem nm_l (x : Ino) (i : Nat) : (nm x).getD i 0 = x.l.getD (i + 2) 0 := rfl
/-- Does number i serve? -/
def okS (l : List Int) (n i : Nat) : Bool :=
  if n ≤ i then decide (l.getD i 0 = 0) else decide (1 ≤ l.getD i 0) && decide (l.getD i 0 ≤ 127) && !decide (l.getD i 0 ∈ l.take i)
/-- Do all of them? -/
def serveL (l : List Int) (n : Nat) : Bool := (List.range 5).all fun i => okS l n i
theorem serveL_iff {l : List Int} {n : Nat} : serveL l n = true ↔ ∀ i, i < 5 → okS l n i = true := by
  simp only [serveL, List.all_eq_true, List.mem_range]
theorem serveL_no {l : List Int} {n i : Nat} (hi : i < 5) (h : okS l n i = false) : serveL l n = false := by
  rw [← Bool.not_eq_true]
  intro hs
  rw [serveL_iff.1 hs i hi] at h
  cases h
theorem mem_take_iff (l : List Int) (i : Nat) (hi : i ≤ l.length) (y : Int) : y ∈ l.take i ↔ ∃ j, j < i ∧ l.getD j 0 = y := by
  constructor
  · intro h
    obtain ⟨j, hj, e⟩ := List.getElem_of_mem h
    rw [List.length_take] at hj
    refine ⟨j, by omega, ?_⟩
    rw [List.getElem_take] at e
    rw [List.getD_eq_getElem?_getD, List.getElem?_eq_getElem (by omega), Option.getD_some, e]
  · rintro ⟨j, hj, e⟩
    rw [List.getD_eq_getElem?_getD, List.getElem?_eq_getElem (by omega), Option.getD_some] at e
    rw [← e]
    exact List.mem_iff_getElem.2 ⟨j, by rw [List.length_take]; omega, by rw [List.getElem_take]⟩
theorem okS_okAt (x : Ino) (i : Nat) (hi : i < 5) : okS (nm x) (need x.b) i = okAt x.l (data x.b) (i + 2) := by
  have hn : (need x.b ≤ i) ↔ ¬ (needed (data x.b) (i + 2) = true) := by
    unfold need needed
    by_cases h4 : 4 < data x.b
    · rw [if_pos h4]
      by_cases h6 : i + 2 < 6
      · rw [if_pos h6, decide_eq_true_iff]; omega
      · rw [if_neg h6, decide_eq_true_iff]; omega
    · rw [if_neg h4]
      by_cases h6 : i + 2 < 6
      · rw [if_pos h6, decide_eq_true_iff]; omega
      · rw [if_neg h6, decide_eq_true_iff]; omega
  rw [Bool.eq_iff_iff, okAt_iff]
  rw [← nm_l x i]
  have hm := mem_take_iff (nm x) i (by rw [nm_len]; omega) ((nm x).getD i 0)
  unfold okS
  by_cases h : need x.b ≤ i
  · rw [if_pos h, decide_eq_true_iff]
    have h2 := hn.1 h
    rw [Bool.not_eq_true] at h2
    rw [h2]
    constructor
    · intro e
      rw [e]
      exact ⟨by omega, by omega, by decide, fun j _ _ hh => by have := hh.2; omega⟩
    · rintro ⟨h3, h4, h5, _⟩
      rw [decide_eq_false_iff_not] at h5
      omega
  · rw [if_neg h]
    have h2 : needed (data x.b) (i + 2) = true := by
      rcases hb : needed (data x.b) (i + 2) with _ | _
      · exact absurd (hn.2 (by rw [hb]; decide)) h
      · rfl
    rw [h2, Bool.and_eq_true, Bool.and_eq_true, decide_eq_true_iff, decide_eq_true_iff, Bool.not_eq_true', decide_eq_false_iff_not, hm]
    constructor
    · rintro ⟨⟨h3, h4⟩, h5⟩
      refine ⟨by omega, h4, decide_eq_true (by omega), fun j hj2 hj hh => h5 ⟨j - 2, by omega, ?_⟩⟩
      rw [nm_l, show j - 2 + 2 = j by omega]
      exact hh.1
    · rintro ⟨h3, h4, h5, h6⟩
      have h7 := of_decide_eq_true h5
      refine ⟨⟨by omega, h4⟩, ?_⟩
      rintro ⟨j, hj, e⟩
      refine h6 (j + 2) (by omega) (by omega) ⟨?_, h7⟩
      rw [← nm_l]
      exact e
theorem may_serve {x : Ino} (hk : x.k = 1 ∨ x.k = 2) : may x = (decide (0 ≤ x.b) && decide (x.b ≤ 2304) && serveL (nm x) (need x.b)) := by
  rw [Bool.eq_iff_iff, may_used (by omega), Bool.and_eq_true, Bool.and_eq_true, decide_eq_true_iff, decide_eq_true_iff, serveL_iff]
  constructor
  · rintro ⟨_, h1, h2, h3⟩
    exact ⟨⟨h1, h2⟩, fun i hi => by rw [okS_okAt x i hi]; exact h3 (i + 2) (by omega) (by omega)⟩
  · rintro ⟨⟨h1, h2⟩, h3⟩
    refine ⟨hk, h1, h2, fun i h2 h7 => ?_⟩
    have := h3 (i - 2) (by omega)
    rwa [okS_okAt x (i - 2) (by omega), show i - 2 + 2 = i by omega] at this
theorem may_other {x : Ino} (h0 : x.k ≠ 0) (h1 : x.k ≠ 1) (h2 : x.k ≠ 2) : may x = false := by
  rw [← Bool.not_eq_true]
  intro h
  rcases ((may_used h0).1 h).1 with h | h
  · exact h1 h
  · exact h2 h
/-- The first place of a number, or -1. -/
def idx (l : List Int) (y : Int) : Int := if y ∈ l then (l.findIdx (· == y) : Nat) else -1
theorem idx_at (l : List Int) (y : Int) (k : Nat) (hk : k < l.length) (h : ∀ j, j < k → l.getD j 0 ≠ y) (e : l.getD k 0 = y) : idx l y = k := by
  have hg : ∀ j (hj : j < l.length), l.getD j 0 = l[j] := fun j hj => by rw [List.getD_eq_getElem?_getD, List.getElem?_eq_getElem hj, Option.getD_some]
  rw [hg k hk] at e
  unfold idx
  rw [if_pos (by rw [← e]; exact List.getElem_mem _)]
  have : l.findIdx (· == y) = k := by
    rw [List.findIdx_eq hk]
    refine ⟨by rw [e]; exact beq_self_eq_true _, fun j hj => ?_⟩
    have := h j hj
    rw [hg j (by omega)] at this
    exact beq_eq_false_iff_ne.2 this
  rw [this]
theorem idx_no (l : List Int) (y : Int) (h : ∀ j, j < l.length → l.getD j 0 ≠ y) : idx l y = -1 := by
  unfold idx
  rw [if_neg]
  intro hm
  obtain ⟨j, hj, e⟩ := List.getElem_of_mem hm
  refine h j hj ?_
  rw [List.getD_eq_getElem?_getD, List.getElem?_eq_getElem hj, Option.getD_some, e]
theorem idx_has (l : List Int) (y : Int) : decide (0 ≤ idx l y) = decide (y ∈ l) := by
  unfold idx
  by_cases h : y ∈ l
  · rw [if_pos h, decide_eq_true h]; exact decide_eq_true (by omega)
  · rw [if_neg h, decide_eq_false h]; exact decide_eq_false (by omega)
theorem idx_le (l : List Int) (y : Int) : -1 ≤ idx l y ∧ idx l y ≤ l.length := by
  unfold idx
  split
  · have := List.findIdx_le_length (xs := l) (p := (· == y)); omega
  · omega
end Inn

set_option maxRecDepth 100000 in
set_option maxHeartbeats 400000 in
theorem InNeed_any (n : Int) (hi : In64 n) (w : World) : Calls Try.prog 50 #[.int .i64 n] w fun e w' => e = .returned (.int .i64 (need n)) ∧ w' = w := by
  obtain ⟨h1, h2⟩ := hi
  by_cases h0 : n < 1
  · have hz : need n = 0 := by
      have : data n = 0 := by unfold data; omega
      unfold need; rw [this]; rfl
    rw [hz]
    go_enter Try.func50, Try.ntmps50
    go_wp2
    go_ret
    exact ⟨rfl, rfl⟩
  · obtain ⟨q, hq⟩ : ∃ q, q = (n - 1) / 64 := ⟨_, rfl⟩
    have hd : (data n : Int) = q + 1 := by rw [hq]; unfold data; omega
    have hq0 : 0 ≤ q := by omega
    have hqb : q ≤ 200000000000000000 := by omega
    by_cases h4 : 4 < q + 1
    · have hz : Hid (((need n : Nat) : Int) = q + 1 + 1) := by
        show _ = _
        unfold need; rw [if_pos (by omega)]; omega
      rw [hz.out]
      have HQ := Lib.hid hq
      clear hd hz
      go_enter Try.func50, Try.ntmps50
      go_wp2
      go_ret
      exact ⟨rfl, rfl⟩
    · have hz : Hid (((need n : Nat) : Int) = q + 1) := by
        show _ = _
        unfold need; rw [if_neg (by omega)]; omega
      rw [hz.out]
      clear hd hz
      go_enter Try.func50, Try.ntmps50
      go_wp2
      go_ret
      exact ⟨rfl, rfl⟩

set_option maxRecDepth 100000 in
set_option maxHeartbeats 400000 in
theorem QIdxI_any (l : List Int) (hl : l.length ≤ 1000000) (y : Int) (v : Value) (w : World) (h : From w v (l.map VI)) :
    Calls Try.prog 66 #[v, .int .i64 y] w fun e w' => e = .returned (.int .i64 (idx l y)) ∧ w' = w := by
  obtain ⟨A, cap, rfl, hs⟩ := h.parts
  rw [List.length_map] at hs ⊢
  obtain ⟨n, hn⟩ : ∃ n, n = l.length := ⟨_, rfl⟩
  rw [← hn] at hs hl ⊢
  have HS := Lib.hid hs
  have HN := Lib.hid hn
  clear hs hn h
  go_enter Try.func66, Try.ntmps66
  go_wp2
  go_loop [8] (fun i => ∃ k : Nat, k ≤ n ∧ i = .int .i64 k ∧ Hid (∀ j, j < k → l.getD j 0 ≠ y)) (fun i => n - (intOf i).toNat)
  case atStart => exact ⟨0, by omega, rfl, fun j hj => by omega⟩
  case round =>
    obtain ⟨k, hk, rfl, Hno⟩ := hrel
    by_cases hlt : k < n
    · obtain ⟨b, o, rfl, hb, hsee⟩ := HS.out (by omega)
      have hx := atI hsee k (by rw [← HN.out]; exact hlt)
      have Hat := Lib.hid (idx_at l y k (by rw [← HN.out]; exact hlt) Hno.out)
      have Hne : Hid (l.getD k 0 ≠ y → ∀ j, j < k + 1 → l.getD j 0 ≠ y) := fun h j hj => by
        by_cases e : j = k
        · rw [e]; exact h
        · exact Hno.out j (by omega)
      clear hsee HS Hno
      generalize l.getD k 0 = z at *
      by_cases hz : z = y
      · subst hz
        have H := Lib.hid (Hat.out rfl)
        go_wp2
        go_ret
        rw [H.out]
        exact ⟨rfl, rfl⟩
      · have hyz : (y == z) = false := beq_eq_false_iff_ne.2 fun h => hz h.symm
        have H := Lib.hid (Hne.out hz)
        go_wp2
        go_round
        case rel => exact ⟨k + 1, by omega, by go_num, H⟩
        case measure => simp [intOf] <;> omega
    · obtain rfl : k = n := by omega
      have H := Lib.hid (idx_no l y (by rw [← HN.out]; exact Hno.out))
      go_wp2
      go_ret
      rw [H.out]
      exact ⟨rfl, rfl⟩

set_option maxRecDepth 100000 in
set_option maxHeartbeats 400000 in
theorem QContI_any (l : List Int) (hl : l.length ≤ 1000000) (y : Int) (v : Value) (w : World) (h : From w v (l.map VI)) :
    Calls Try.prog 62 #[v, .int .i64 y] w fun e w' => e = .returned (.bool (decide (y ∈ l))) ∧ w' = w := by
  have HI := Lib.hid (QIdxI_any l hl y v w h)
  have hb := idx_le l y
  have HH := Lib.hid (idx_has l y)
  rw [← HH.out]
  generalize idx l y = z at *
  obtain ⟨h1, h2⟩ := hb
  clear HH h
  go_enter Try.func62, Try.ntmps62
  go_wp2_with fail
  refine HI.out.mono ?_
  rintro e w1 ⟨rfl, rfl⟩
  go_wp2
  go_ret
  exact ⟨rfl, rfl⟩
end Go.Proofs.Ytiafmghdiidniaa
end

section
/-
  THE WALK of the program's numbersOf.
-/
namespace Go.Proofs.Ytiafmghdiidniaa
open Go.RowKit Cdc Inn

theorem oneIs (l : List Int) : ((l.map VI).toArray).all (·.oneCell') = true := by
  rw [Array.all_eq_true_iff_forall_mem]
  intro u hu
  obtain ⟨x, _, rfl⟩ := List.mem_map.1 (by simpa using hu)
  rfl
theorem elemInt : (Try.prog.info? 3).map (·.size) = some 1 := by kernel_rfl
def Z5 : List Value := [.int .i64 0, .int .i64 0, .int .i64 0, .int .i64 0, .int .i64 0]
def bk (x : Ino) : List Value := [.int .i64 x.b0, .int .i64 x.b1, .int .i64 x.b2, .int .i64 x.b3]
theorem nm_splice (x : Ino) : (splice Z5 0 (bk x)).set 4 (.int .i64 x.d) = (nm x).map VI := rfl
theorem nm_spliceL (x : Ino) : splice Z5 0 (bk x) = [.int .i64 x.b0, .int .i64 x.b1, .int .i64 x.b2, .int .i64 x.b3, .int .i64 0] := rfl

set_option maxRecDepth 100000 in
set_option maxHeartbeats 1000000 in
theorem InNumbersOf_any (x : Ino) (w : World) :
    Calls Try.prog 61 #[.agg (inoC x)] w fun e w' => e = .returned (.agg ((nm x).map VI).toArray) ∧ Below w.heap.size w w' := by
  obtain ⟨w0, hw0⟩ : ∃ w0, w0 = ((w.alloc (.cells (inoC x) 40)).alloc (.cells #[.int .i64 0, .int .i64 0, .int .i64 0, .int .i64 0, .int .i64 0] 101)).alloc (.cells #[.int .i64 0, .int .i64 0, .int .i64 0, .int .i64 0, .int .i64 0] 101) := ⟨_, rfl⟩
  have HR0 : Hid (Row w0 w.heap.size 40 (x.l.map VI)) := by rw [hw0]; exact ((Row.new w 40 (x.l.map VI)).alloc _).alloc _
  have HR1 : Hid (Row w0 (w.heap.size + 1) 101 Z5) := by rw [hw0]; exact Row.alloc (Row.newAt 101 Z5 (by simp)) _
  have HR2 : Hid (Row w0 (w.heap.size + 1 + 1) 101 Z5) := by rw [hw0]; exact Row.newAt 101 Z5 (by simp)
  have HBL : Hid (Below w.heap.size w w0) := by rw [hw0]; exact (((Below.refl _ _).alloc (Nat.le_refl _) _).alloc (by simp) _).alloc (by simp; omega) _
  have K1 : Hid ((bk x).length = Nat.min 4 5) := rfl
  have K3 : Hid (0 + (bk x).length ≤ Z5.length) := by show 4 ≤ 5; decide
  have K4 : Hid (∀ v ∈ bk x, v.oneCell' = true) := fun v hv => by
    simp only [bk, List.mem_cons, List.not_mem_nil, or_false] at hv
    rcases hv with rfl | rfl | rfl | rfl <;> rfl
  go_enter Try.func61, Try.ntmps61
  go_wp2
  rw [← hw0]
  clear hw0
  have K2 : Hid (0 < (bk x).length → (some (⟨w.heap.size + 1 + 1, 0, none⟩ : Addr)) = some ⟨w.heap.size + 1 + 1, 0, none⟩ ∧ ∃ ad, some (⟨w.heap.size, 2, none⟩ : Addr) = some ad ∧ ∀ (j : Nat) v, (bk x)[j]? = some v → w0.drew.cell? (ad.add j) = some v) := by
    intro _
    refine ⟨rfl, _, rfl, fun j v hv => ?_⟩
    rw [add_off]
    refine (HR0.out.drew.cell (2 + j)).trans ?_
    rw [← hv]
    match j with
    | 0 => rfl
    | 1 => rfl
    | 2 => rfl
    | 3 => rfl
    | j + 4 => exact absurd hv (by simp [bk])
  go_region_law (refine step_copy_splice rfl (.tmp 4) (.tmp 6) 77 77 rfl 3 Try.underlying77 elemInt _ _ 5 5 4 4 rfl rfl (w.heap.size + 1 + 1) 0 Z5 101 HR2.out (bk x) K1.out K2.out K3.out K4.out (w.heap.size + 1 + 1) w0 ⟨rfl, rfl, rfl, Nat.le_refl _, fun _ _ => rfl⟩ (Nat.le_refl _) ?_; intro w3 Hg3 hb3)
  all_goals
    have HA := HR0.out.below hb3 (by omega)
    have HB := HR1.out.below hb3 (by omega)
    have HC3 := Lib.hid (HBL.out.trans (hb3.mono (by omega)))
    have HG : Hid (Row w3 (w.heap.size + 1 + 1) 101 [.int .i64 x.b0, .int .i64 x.b1, .int .i64 x.b2, .int .i64 x.b3, .int .i64 0]) := Hg3.out
    have cd : w3.cell? ⟨w.heap.size, 6, none⟩ = some (.int .i64 x.d) := HA.cell 6
    have c4 := HG.out.cell 4
    have f4 := HG.out.free 4
    have HF : Hid (Row (w3.setCell ⟨w.heap.size + 1 + 1, 4, none⟩ (.int .i64 x.d)) (w.heap.size + 1 + 1) 101 ((nm x).map VI)) := HG.out.set 4 _
    have HF1 : Hid (Row (w3.setCell ⟨w.heap.size + 1 + 1, 4, none⟩ (.int .i64 x.d)) (w.heap.size + 1) 101 Z5) := HB.apart (by simp) _
    have HC4 : Hid (Below w.heap.size w (w3.setCell ⟨w.heap.size + 1 + 1, 4, none⟩ (.int .i64 x.d))) := HC3.out.setCell (by simp; omega) _
    obtain ⟨cs, hcs⟩ : ∃ cs, cs = ((nm x).map VI).toArray := ⟨_, rfl⟩
    have Hcs := Lib.hid hcs
    have Hsz : Hid (cs.size = 5) := by show _ = _; rw [hcs]; rfl
    have Hone : Hid (cs.all (·.oneCell') = true) := by show _ = _; rw [hcs]; exact oneIs _
    have HFr : Hid ((w3.setCell ⟨w.heap.size + 1 + 1, 4, none⟩ (.int .i64 x.d)).heap[w.heap.size + 1 + 1]? = some (.cells cs 101 (0, 0))) := by rw [hcs]; exact HF.out
    clear hb3 Hg3 HA HB HC3 HR0 HR1 HR2 HBL K1 K2 K3 K4 hcs HG HF
    go_wp2_with (first | (refine wpList_load_row rfl 101 (.tmp 3) rfl (w.heap.size + 1 + 1) rfl 101 cs (0, 0) _ HFr.out Try.underlying101 rfl (by rw [Hsz.out]; kernel_rfl) ?_) | (refine wpList_store_row rfl 101 (.tmp 2) (.tmp 11) rfl (w.heap.size + 1) cs rfl rfl 101 _ HF1.out (by rw [Hsz.out]; kernel_rfl) (by rw [Hsz.out]; rfl) Hone.out ?_))
    have hlast : ((w3.setCell ⟨w.heap.size + 1 + 1, 4, none⟩ (.int .i64 x.d)).setRow (w.heap.size + 1) cs).heap[w.heap.size + 1]? = some (.cells cs 101 (0, 0)) := by
      have := HF1.out.whole ((nm x).map VI)
      rw [Hcs.out]; exact this
    refine bodyPost_ret (v := .agg cs) (results_cell_row rfl _ _ (w.heap.size + 1) 101 cs (0, 0) _ rfl hlast Try.underlying101 rfl (by rw [Hsz.out]; kernel_rfl)) rfl ?_
    exact ⟨by rw [Hcs.out], below_setRow' HC4.out (by omega) _⟩
end Go.Proofs.Ytiafmghdiidniaa
end

section
/-
  THE WALK of the program's serve.
-/
namespace Go.Proofs.Ytiafmghdiidniaa
open Go.RowKit Cdc Inn

theorem run_index_num (cs : Array Value) (j : Nat) (hj : j < 5) (x : Int) (h : cs[j]? = some (.int .i64 x)) (w : World) :
    (Instr.index 101 (.agg cs) (.int .i64 (j : Int))).run Try.prog w = .ok (.int .i64 x) w := by
  have hp := part_int cs j _ h w
  have hb : (j : Int) < 5 := by omega
  simp only [Instr.index, asIntOf, run_underlying Try.underlying101, Sem.run_bind, Sem.run_pure, Result.andThen_ok]
  simp [hb, hp]
theorem cutNum (g j : Nat) (hj : j ≤ 5) (W : World) : (Instr.sliceAt 101 (.pointer (some ⟨g, 0, none⟩)) none (some (.int .i64 (j : Int))) none).run Try.prog W = .ok (.slice (some ⟨g, 0, none⟩) j 5) W := by
  have hu : Try.prog.underlying 101 = some (.array (Try.prog.arrayLen 101) (Try.prog.elem 101)) := by kernel_rfl
  have hal : Try.prog.arrayLen 101 = 5 := by kernel_rfl
  have hs : (sizeOf (Try.prog.elem 101)).run Try.prog W = .ok 1 W := by kernel_rfl
  rw [run_sliceAt_array_h W 101 ⟨g, 0, none⟩ hu .i64 (j : Int) (by omega) (by rw [hal]; omega), hs]
  simp only [Result.andThen_ok, slicedAt, hal, Nat.zero_mul, add_off, Nat.add_zero, Nat.sub_zero, Int.toNat_natCast]
  rw [if_neg (by omega)]
theorem from_cut {w : World} {g : Nat} {t : TypeId} {l : List Int} (h : Row w g t (l.map VI)) (j : Nat) (hj : j ≤ l.length) : From w (.slice (some ⟨g, 0, none⟩) j 5) ((l.take j).map VI) := by
  refine .inr ⟨g, 0, 5, by rw [List.length_map, List.length_take, Nat.min_eq_left hj], h.lt, ?_⟩
  have := h.sees.piece 0 j
  rwa [Nat.zero_add, List.drop_zero, ← List.map_take] at this

set_option maxRecDepth 100000 in
set_option maxHeartbeats 1000000 in
theorem InServe_any (l : List Int) (hl : l.length = 5) (n : Nat) (w : World) :
    Calls Try.prog 60 #[.agg (l.map VI).toArray, .int .i64 n] w fun e w' => e = .returned (.bool (serveL l n)) ∧ Below w.heap.size w w' := by
  obtain ⟨r, hr⟩ : ∃ r, r = serveL l n := ⟨_, rfl⟩
  rw [← hr]
  obtain ⟨w0, hw0⟩ : ∃ w0, w0 = w.alloc (.cells (l.map VI).toArray 101) := ⟨_, rfl⟩
  have HR : Hid (Row w0 w.heap.size 101 (l.map VI)) := by rw [hw0]; exact Row.new w 101 (l.map VI)
  have HC : Hid (Below w.heap.size w w0) := by rw [hw0]; exact (Below.refl _ _).alloc (Nat.le_refl _) _
  have Hno : Hid (∀ i, i < 5 → okS l n i = false → r = false) := fun i hi h => by rw [hr]; exact serveL_no hi h
  have Hyes : Hid ((∀ i, i < 5 → okS l n i = true) → r = true) := fun h => by rw [hr]; exact serveL_iff.2 h
  obtain ⟨cs, hcs⟩ : ∃ cs, cs = (l.map VI).toArray := ⟨_, rfl⟩
  have Hcs := Lib.hid hcs
  have Hsz : Hid (cs.size = 5) := by show _ = _; rw [hcs]; simp [hl]
  rw [← hcs] at hw0 ⊢
  have HL := Lib.hid hl
  clear hcs hr hl
  go_enter Try.func60, Try.ntmps60
  go_wp2_with (refine wpList_load_row rfl 101 (.tmp 2) rfl w.heap.size rfl 101 cs (0, 0) _ (by rw [← hw0, Hcs.out]; exact HR.out) Try.underlying101 rfl (by rw [Hsz.out]; kernel_rfl) ?_)
  rw [← hw0]
  clear hw0
  go_loop [8] (fun i => ∃ j : Nat, j ≤ 5 ∧ i = .int .i64 j ∧ Hid (∀ m, m < j → okS l n m = true)) (fun i => 5 - (intOf i).toNat)
  case atStart => exact ⟨0, by omega, rfl, fun m hm => by omega⟩
  case round =>
    obtain ⟨j, hj, rfl, Hok⟩ := hrel
    by_cases hlt : j < 5
    · have hix := run_index_num cs j hlt (l.getD j 0) (by rw [Hcs.out]; simp [VI, HL.out, hlt])
      have hcut := cutNum w.heap.size j (by omega)
      have HCt := Lib.hid (QContI_any (l.take j) (by simp; omega) (l.getD j 0) _ w0 (from_cut HR.out j (by rw [HL.out]; omega)))
      have Hnoj := Lib.hid (Hno.out j hlt)
      have Hnx : Hid (okS l n j = true → ∀ m, m < j + 1 → okS l n m = true) := fun h m hm => by
        by_cases e : m = j
        · rw [e]; exact h
        · exact Hok.out m (by omega)
      obtain ⟨c, hc⟩ : ∃ c, c = decide (l.getD j 0 ∈ l.take j) := ⟨_, rfl⟩
      have Hdef : Hid (okS l n j = if n ≤ j then decide (l.getD j 0 = 0) else decide (1 ≤ l.getD j 0) && decide (l.getD j 0 ≤ 127) && !c) := by rw [hc]; rfl
      rw [← hc] at HCt
      clear hc Hok
      generalize l.getD j 0 = y at *
      by_cases hnj : n ≤ j
      · have hge : ((j : Int) ≥ (n : Int)) := by omega
        rw [if_pos hnj] at Hdef
        by_cases hy : y = 0
        · subst hy
          have H := Lib.hid (Hnx.out (by rw [Hdef.out]; rfl))
          go_wp2
          go_round
          case rel => exact ⟨j + 1, by omega, by go_num, H⟩
          case measure => simp [intOf] <;> omega
        · have hy2 : (y == 0) = false := beq_eq_false_iff_ne.2 hy
          have H := Lib.hid (Hnoj.out (by rw [Hdef.out]; exact decide_eq_false hy))
          go_wp2
          go_ret
          rw [H.out]
          exact ⟨rfl, HC.out⟩
      · rw [if_neg hnj] at Hdef
        by_cases h1 : y < 1
        · have H := Lib.hid (Hnoj.out (by rw [Hdef.out, decide_eq_false (by omega : ¬ 1 ≤ y)]; rfl))
          go_wp2
          go_ret
          rw [H.out]
          exact ⟨rfl, HC.out⟩
        · by_cases h2 : y ≤ 127
          · cases c
            · have H := Lib.hid (Hnx.out (by rw [Hdef.out, decide_eq_true (by omega : 1 ≤ y), decide_eq_true h2]; rfl))
              go_wp2_with fail
              refine HCt.out.mono ?_
              rintro e w1 ⟨rfl, rfl⟩
              go_wp2
              go_round
              case rel => exact ⟨j + 1, by omega, by go_num, H⟩
              case measure => simp [intOf] <;> omega
            · have H := Lib.hid (Hnoj.out (by rw [Hdef.out]; simp))
              go_wp2_with fail
              refine HCt.out.mono ?_
              rintro e w1 ⟨rfl, rfl⟩
              go_wp2
              go_ret
              rw [H.out]
              exact ⟨rfl, HC.out⟩
          · have H := Lib.hid (Hnoj.out (by rw [Hdef.out, decide_eq_false h2]; simp))
            go_wp2
            go_ret
            rw [H.out]
            exact ⟨rfl, HC.out⟩
    · obtain rfl : j = 5 := by omega
      have H := Lib.hid (Hyes.out Hok.out)
      go_wp2
      go_ret
      rw [H.out]
      exact ⟨rfl, HC.out⟩
end Go.Proofs.Ytiafmghdiidniaa
end
