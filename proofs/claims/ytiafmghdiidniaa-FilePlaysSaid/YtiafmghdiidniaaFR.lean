/-
  THE WALKS of the program's Count and First, and of the functions that they hand over.
-/
import Derived.Test.YtiafmghdiidniaaFQ
import Derived.Deep.RegionWith
namespace Go.Proofs.Ytiafmghdiidniaa
open Go.RowKit Bm

namespace Bm
theorem wrapB (z : Int) (h : In64 z) : IntKind.i64.wrap z = z := by
  obtain ⟨h1, h2⟩ := h
  show (if true && decide (z % (2 ^ 64 : Int) ≥ (2 ^ 63 : Int)) then z % (2 ^ 64 : Int) - (2 ^ 64 : Int) else z % (2 ^ 64 : Int)) = z
  rw [Bool.true_and]
  split
  · next h => have := of_decide_eq_true h; omega
  · next h => rw [decide_eq_true_eq] at h; omega
end Bm

set_option maxRecDepth 100000 in
set_option maxHeartbeats 1000000 in
theorem BmCount1_any (b : List UInt8) (i : Nat) (hi : has b i = true) (hl : b.length ≤ 1000000) (c : Int) (hc : 0 ≤ c ∧ c ≤ 100000000) (p q : Nat) (v : Value) (w : World)
    (hp : Row w p 3 [.int .i64 c]) (hq : Row w q 41 [v]) (hA : Arg w v b) :
    Calls Try.prog 57 #[.int .i64 i, .pointer (some ⟨p, 0, none⟩), .pointer (some ⟨q, 0, none⟩)] w fun e w' => e = .returned (.bool true) ∧ w' = (w.drewN 1).setCell ⟨p, 0, none⟩ (.int .i64 (c + bn (tb b i))) := by
  have HB : Hid (∀ n, Calls Try.prog 58 #[v, .int .i64 i] (w.drewN n) fun e w' => e = .returned (.int .i64 (bn (tb b i))) ∧ w' = w.drewN n) := fun n => Bmbit_has b i hi v _ hl hA
  have c1 := hp.cell 0
  have f1 := hp.free 0
  have c2 := hq.cell 0
  have hr : 0 ≤ bn (tb b i) ∧ bn (tb b i) ≤ 1 := by cases tb b i <;> decide
  simp only [List.getElem?_cons_zero] at c1 c2
  have hi8 : i ≤ 8000000 := by have := has_iff.1 hi; omega
  generalize bn (tb b i) = r at *
  obtain ⟨r1, r2⟩ := hr
  obtain ⟨d1, d2⟩ := hc
  have hw : IntKind.i64.wrap (c + r) = c + r := wrapB _ ⟨by omega, by omega⟩
  have HW := Lib.hid hw
  clear hA hp hq hi hl hw
  go_enter Try.func57, Try.ntmps57
  go_wp2_with fail
  go_region_with (go_at_call 58; refine (HB.out 1).mono ?_; rintro e w1 ⟨rfl, rfl⟩)
  all_goals (go_wp2; go_ret; exact ⟨rfl, by rw [HW.out]⟩)

set_option maxRecDepth 100000 in
set_option maxHeartbeats 1000000 in
theorem BmFirst1_any (b : List UInt8) (i : Nat) (hi : has b i = true) (hl : b.length ≤ 1000000) (p q : Nat) (v : Value) (w : World)
    (hp : Row w p 3 [.int .i64 (-1)]) (hq : Row w q 41 [v]) (hA : Arg w v b) :
    Calls Try.prog 67 #[.int .i64 i, .pointer (some ⟨q, 0, none⟩), .pointer (some ⟨p, 0, none⟩)] w fun e w' => e = .returned (.bool (tb b i)) ∧ w' = if tb b i then w else w.setCell ⟨p, 0, none⟩ (.int .i64 i) := by
  have HB : Hid (Calls Try.prog 58 #[v, .int .i64 i] w fun e w' => e = .returned (.int .i64 (bn (tb b i))) ∧ w' = w) := Bmbit_has b i hi v _ hl hA
  have c1 := hp.cell 0
  have f1 := hp.free 0
  have c2 := hq.cell 0
  simp only [List.getElem?_cons_zero] at c1 c2
  have hi8 : i ≤ 8000000 := by have := has_iff.1 hi; omega
  clear hA hp hq hi hl
  generalize tb b i = r at *
  go_enter Try.func67, Try.ntmps67
  go_wp2_with fail
  refine HB.out.mono ?_
  rintro e w1 ⟨rfl, rfl⟩
  cases r
  · rw [bn_false]
    go_wp2
    go_ret
    exact ⟨rfl, rfl⟩
  · rw [bn_true]
    go_wp2
    go_ret
    exact ⟨rfl, rfl⟩

namespace Bm
theorem cnt_mono (P : Nat → Bool) (a n : Nat) (h : a ≤ n) (hn : ∀ i, a ≤ i → P i = false) : cnt P a = cnt P n := by
  induction n with
  | zero => rw [show a = 0 by omega]
  | succ n ih =>
    by_cases e : a = n + 1
    · rw [e]
    · rw [cnt, hn n (by omega), ← ih (by omega)]; rfl
/-- Behind the end nothing more is counted. -/
theorem cnt_end (b : List UInt8) (f t : Int) (i : Nat) (h : ¬ ((i : Int) < t ∧ has b i = true)) : cnt (setP b f t) i = count b f t := by
  have hz : ∀ j, i ≤ j → setP b f t j = false := fun j hj => by
    unfold setP
    by_cases ht : (i : Int) < t
    · have hb : 8 * b.length ≤ i := by
        rcases Nat.lt_or_ge i (8 * b.length) with k | k
        · exact absurd ⟨ht, has_iff.2 ⟨by omega, by omega⟩⟩ h
        · exact k
      rw [tb_out b j (by omega)]; rfl
    · simp only [inR, Bool.and_eq_false_iff, decide_eq_false_iff_not]
      exact .inr (.inr (by omega))
  unfold count
  rcases Nat.le_total i (8 * b.length) with k | k
  · exact cnt_mono _ _ _ k hz
  · exact (cnt_mono _ _ _ k (fun j hj => by rw [setP, tb_out b j hj]; rfl)).symm
theorem cnt_begin (b : List UInt8) (f t : Int) (i : Nat) (h : (i : Int) ≤ f) : cnt (setP b f t) i = 0 := by
  induction i with
  | zero => rfl
  | succ i ih =>
    rw [cnt, ih (by omega)]
    have : setP b f t i = false := by simp [setP, inR]; intro _ h2; omega
    rw [this]; rfl
theorem cnt_step (b : List UInt8) (f t : Int) (i : Nat) (h : f ≤ i) (ht : (i : Int) < t) : ((cnt (setP b f t) (i + 1) : Nat) : Int) = (cnt (setP b f t) i : Nat) + bn (tb b i) := by
  rw [cnt]
  have : setP b f t i = tb b i := by simp [setP, inR, h, ht]
  rw [this, bn]
  split <;> omega
theorem cnt_few (b : List UInt8) (f t : Int) (i : Nat) : cnt (setP b f t) i ≤ 8 * b.length := by
  rcases Nat.le_total i (8 * b.length) with k | k
  · exact Nat.le_trans (cnt_le _ _) k
  · rw [← cnt_mono _ _ _ k (fun j hj => by rw [setP, tb_out b j hj]; rfl)]; exact cnt_le _ _
/-- None is free below i. -/
def NoneP (b : List UInt8) (f t : Int) (i : Nat) : Prop := ∀ j, j < i → j < 8 * b.length → freeP b f t j = false
theorem none_end (b : List UInt8) (f t : Int) (i : Nat) (h : ¬ ((i : Int) < t ∧ has b i = true)) (hn : NoneP b f t i) : first b f t = -1 := by
  refine fst_none _ _ fun j hj => ?_
  by_cases hji : j < i
  · exact hn j hji hj
  · have ht : ¬ (i : Int) < t := fun k => h ⟨k, has_iff.2 ⟨by omega, by omega⟩⟩
    simp only [freeP, inR, Bool.and_eq_false_iff, decide_eq_false_iff_not]
    exact .inr (.inr (by omega))
theorem none_begin (b : List UInt8) (f t : Int) (i : Nat) (h : (i : Int) ≤ f ∨ i = 0) : NoneP b f t i := fun j hj _ => by
  simp only [freeP, inR, Bool.and_eq_false_iff, decide_eq_false_iff_not]
  exact .inr (.inl (by omega))
theorem none_step (b : List UInt8) (f t : Int) (i : Nat) (h : tb b i = true) (hn : NoneP b f t i) : NoneP b f t (i + 1) := fun j hj hl => by
  by_cases e : j = i
  · subst e; simp [freeP, h]
  · exact hn j (by omega) hl
theorem none_found (b : List UInt8) (f t : Int) (i : Nat) (hf : f ≤ i) (ht : (i : Int) < t) (hh : has b i = true) (h : tb b i = false) (hn : NoneP b f t i) : first b f t = i := by
  have hi := has_iff.1 hh
  exact fst_some _ i (fun j hj => hn j hj (by omega)) (by simp [freeP, inR, h, hf, ht]) _ (by omega)
end Bm

set_option maxRecDepth 100000 in
set_option maxHeartbeats 1000000 in
theorem BmCount_any (b : List UInt8) (f t : Int) (v : Value) (w : World) (hl : b.length ≤ 1000000) (hf : In64 f) (ht : In64 t) (h : Arg w v b) :
    Calls Try.prog 38 #[v, .int .i64 f, .int .i64 t] w fun e w' => e = .returned (.int .i64 (count b f t)) ∧ Below w.heap.size w w' := by
  obtain ⟨A, cap, rfl⟩ := h.form
  obtain ⟨w2, hw2⟩ : ∃ W, W = (w.alloc (.cells #[.slice A b.length cap] 41)).alloc (.cells #[.int .i64 0] 3) := ⟨_, rfl⟩
  have hq2 : Row w2 w.heap.size 41 [.slice A b.length cap] := by rw [hw2]; exact (Row.new w _ [_]).alloc _
  have hp2 : Row w2 (w.heap.size + 1) 3 [.int .i64 0] := by rw [hw2]; exact Row.newAt _ [_] (by simp)
  have hB2 : Below w.heap.size w w2 := by rw [hw2]; exact ((Below.refl _ _).alloc (Nat.le_refl _) _).alloc (by simp) _
  have HV : Hid (Calls Try.prog 56 #[.slice A b.length cap, .int .i64 f, .int .i64 t, .func (.func 57) #[] #[.pointer (some ⟨w.heap.size + 1, 0, none⟩), .pointer (some ⟨w.heap.size, 0, none⟩)]] w2
      fun e w' => e = .returned (.tuple #[]) ∧ Row w' (w.heap.size + 1) 3 [.int .i64 (count b f t)] ∧ Below w.heap.size w w') := by
    refine Bmvisit_any 57 _ b f t A cap (fun i W => Row W (w.heap.size + 1) 3 [.int .i64 (cnt (setP b f t) i)] ∧ Row W w.heap.size 41 [.slice A b.length cap] ∧ Below w.heap.size w W) _ w2 hl hf ht (fun _ _ => rfl) ?_ ?_ ?_
    · intro i W hfi hh hti ⟨h1, h2, h3⟩
      refine (BmCount1_any b i hh hl (cnt (setP b f t) i) ⟨by omega, by have := cnt_few b f t i; omega⟩ (w.heap.size + 1) w.heap.size _ W h1 h2 (h.below h3)).mono ?_
      rintro e w' ⟨rfl, rfl⟩
      refine ⟨true, rfl, fun _ => ⟨?_, ?_, ?_⟩, fun h => by cases h⟩
      · rw [cnt_step b f t i hfi hti]
        exact (h1.drewN 1).set 0 _
      · exact (h2.drewN 1).apart (by simp) _
      · exact (below_drewN h3 1).setCell (by simp) _
    · intro i W _ hn ⟨h1, _, h3⟩
      rw [cnt_end b f t i hn] at h1
      exact ⟨h1, h3⟩
    · have : cnt (setP b f t) f.toNat = 0 := by
        by_cases h0 : 0 ≤ f
        · exact cnt_begin b f t _ (by omega)
        · rw [show f.toNat = 0 by omega]; rfl
      rw [this]
      exact ⟨hp2, hq2, hB2⟩
  have hn := hl
  generalize b.length = n at *
  clear h hq2 hp2 hB2 hf ht hl
  go_enter Try.func38, Try.ntmps38
  go_wp2_with fail
  rw [hw2] at HV
  clear hw2
  refine HV.out.mono ?_
  rintro e w3 ⟨rfl, hr, hb⟩
  have c3 := hr.cell 0
  have HB := Lib.hid hb
  simp only [List.getElem?_cons_zero] at c3
  clear hr hb HV hn
  go_wp2
  go_ret
  exact ⟨rfl, HB.out⟩

set_option maxRecDepth 100000 in
set_option maxHeartbeats 1000000 in
theorem BmFirst_any (b : List UInt8) (f t : Int) (v : Value) (w : World) (hl : b.length ≤ 1000000) (hf : In64 f) (ht : In64 t) (h : Arg w v b) :
    Calls Try.prog 64 #[v, .int .i64 f, .int .i64 t] w fun e w' => e = .returned (.int .i64 (first b f t)) ∧ Below w.heap.size w w' := by
  obtain ⟨A, cap, rfl⟩ := h.form
  obtain ⟨w2, hw2⟩ : ∃ W, W = (w.alloc (.cells #[.slice A b.length cap] 41)).alloc (.cells #[.int .i64 (-1)] 3) := ⟨_, rfl⟩
  have hq2 : Row w2 w.heap.size 41 [.slice A b.length cap] := by rw [hw2]; exact (Row.new w _ [_]).alloc _
  have hp2 : Row w2 (w.heap.size + 1) 3 [.int .i64 (-1)] := by rw [hw2]; exact Row.newAt _ [_] (by simp)
  have hB2 : Below w.heap.size w w2 := by rw [hw2]; exact ((Below.refl _ _).alloc (Nat.le_refl _) _).alloc (by simp) _
  have HV : Hid (Calls Try.prog 56 #[.slice A b.length cap, .int .i64 f, .int .i64 t, .func (.func 67) #[] #[.pointer (some ⟨w.heap.size, 0, none⟩), .pointer (some ⟨w.heap.size + 1, 0, none⟩)]] w2
      fun e w' => e = .returned (.tuple #[]) ∧ Row w' (w.heap.size + 1) 3 [.int .i64 (first b f t)] ∧ Below w.heap.size w w') := by
    refine Bmvisit_any 67 _ b f t A cap (fun i W => NoneP b f t i ∧ Row W (w.heap.size + 1) 3 [.int .i64 (-1)] ∧ Row W w.heap.size 41 [.slice A b.length cap] ∧ Below w.heap.size w W) _ w2 hl hf ht (fun _ _ => rfl) ?_ ?_ ?_
    · intro i W hfi hh hti ⟨h0, h1, h2, h3⟩
      refine (BmFirst1_any b i hh hl (w.heap.size + 1) w.heap.size _ W h1 h2 (h.below h3)).mono ?_
      rintro e w' ⟨rfl, rfl⟩
      refine ⟨tb b i, rfl, fun hb => ?_, fun hb => ?_⟩
      · rw [if_pos hb]
        exact ⟨none_step b f t i hb h0, h1, h2, h3⟩
      · rw [if_neg (by rw [hb]; exact Bool.false_ne_true), none_found b f t i hfi hti hh hb h0]
        exact ⟨h1.set 0 _, h3.setCell (by simp) _⟩
    · intro i W _ hn ⟨h0, h1, _, h3⟩
      rw [none_end b f t i hn h0]
      exact ⟨h1, h3⟩
    · exact ⟨none_begin b f t _ (by omega), hp2, hq2, hB2⟩
  have hn := hl
  generalize b.length = n at *
  clear h hq2 hp2 hB2 hf ht hl
  go_enter Try.func64, Try.ntmps64
  go_wp2_with fail
  rw [hw2] at HV
  clear hw2
  refine HV.out.mono ?_
  rintro e w3 ⟨rfl, hr, hb⟩
  have c3 := hr.cell 0
  have HB := Lib.hid hb
  simp only [List.getElem?_cons_zero] at c3
  clear hr hb HV hn
  go_wp2
  go_ret
  exact ⟨rfl, HB.out⟩
end Go.Proofs.Ytiafmghdiidniaa
