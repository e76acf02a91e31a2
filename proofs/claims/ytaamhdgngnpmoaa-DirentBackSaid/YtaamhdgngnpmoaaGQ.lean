/-
  THE WALKS of areValid and hasTwice.
-/
import Derived.Test.YtaamhdgngnpmoaaGPB
import Derived.Test.YtaamhdgngnpmoaaGI
import Derived.Test.YtaamhdgngnpmoaaNH
namespace Go.Proofs.Ytaamhdgngnpmoaa
open Go.RowKit Dir
open Go.Maps (Keyed)

namespace Dir
/-- Does one of the first m entries have an earlier one's name or number? -/
def twN (l : List En) (m : Nat) : Bool := (List.range m).any fun i => (List.range i).any fun j => !unlike (l.getD j ⟨[], 0⟩) (l.getD i ⟨[], 0⟩)
theorem twN_succ (l : List En) (m : Nat) : twN l (m + 1) = (twN l m || (List.range m).any fun j => !unlike (l.getD j ⟨[], 0⟩) (l.getD m ⟨[], 0⟩)) := by
  unfold twN
  rw [List.range_succ, List.any_append]
  simp
theorem fine_twice (l : List En) : fine l = (l.all okE && !twN l l.length) := by
  have key : ∀ m, m ≤ l.length → fineN l m = ((l.take m).all okE && !twN l m) := by
    intro m
    induction m with
    | zero => intro _; rfl
    | succ m ih =>
      intro hm
      rw [fineN_succ, ih (by omega), twN_succ, take_snoc l m (by omega) ⟨[], 0⟩, List.all_append]
      have : ((List.range m).all fun j => unlike (l.getD j ⟨[], 0⟩) (l.getD m ⟨[], 0⟩)) = !((List.range m).any fun j => !unlike (l.getD j ⟨[], 0⟩) (l.getD m ⟨[], 0⟩)) := by
        rw [List.not_any_eq_all_not]; simp
      rw [this]
      cases (l.take m).all okE <;> cases twN l m <;> simp
  have := key l.length (Nat.le_refl _)
  rwa [List.take_length] at this
theorem twN_true {l : List En} {i m : Nat} (h : twN l i = true) (hi : i ≤ m) : twN l m = true := by
  unfold twN at *
  obtain ⟨x, hx, h2⟩ := List.any_eq_true.1 h
  exact List.any_eq_true.2 ⟨x, List.mem_range.2 (Nat.lt_of_lt_of_le (List.mem_range.1 hx) hi), h2⟩
/-- Is a name, or a number, among the first m? -/
theorem tw_round (l : List En) (m : Nat) (hm : m ≤ l.length) (x : En) : ((List.range m).any fun j => !unlike (l.getD j ⟨[], 0⟩) x) = (decide (∃ e ∈ l.take m, e.n = x.n) || decide (∃ e ∈ l.take m, e.k = x.k)) := by
  rw [Bool.eq_iff_iff]
  simp only [List.any_eq_true, List.mem_range, Bool.or_eq_true, decide_eq_true_eq]
  have get : ∀ j, j < m → l.getD j ⟨[], 0⟩ ∈ l.take m := fun j hj => by
    have e : l.getD j ⟨[], 0⟩ = (l.take m)[j]'(by rw [List.length_take]; omega) := by
      rw [List.getD_eq_getElem?_getD, List.getElem?_eq_getElem (by omega), List.getElem_take]; rfl
    rw [e]; exact List.getElem_mem _
  have put : ∀ e ∈ l.take m, ∃ j, j < m ∧ l.getD j ⟨[], 0⟩ = e := fun e he => by
    obtain ⟨j, hj, rfl⟩ := List.getElem_of_mem he
    rw [List.length_take] at hj
    exact ⟨j, by omega, by rw [List.getD_eq_getElem?_getD, List.getElem?_eq_getElem (by omega), List.getElem_take]; rfl⟩
  constructor
  · rintro ⟨j, hj, h⟩
    simp only [unlike, Bool.not_and, Bool.not_not, Bool.or_eq_true, decide_eq_true_eq] at h
    rcases h with h | h
    · exact .inl ⟨_, get j hj, h⟩
    · exact .inr ⟨_, get j hj, h⟩
  · rintro (⟨e, he, h⟩ | ⟨e, he, h⟩)
    · obtain ⟨j, hj, rfl⟩ := put e he
      exact ⟨j, hj, by rw [unlike]; simp only [Bool.not_and, Bool.not_not, Bool.or_eq_true, decide_eq_true_eq]; exact .inl h⟩
    · obtain ⟨j, hj, rfl⟩ := put e he
      exact ⟨j, hj, by rw [unlike]; simp only [Bool.not_and, Bool.not_not, Bool.or_eq_true, decide_eq_true_eq]; exact .inr h⟩
end Dir

set_option maxRecDepth 100000 in
set_option maxHeartbeats 1000000 in
theorem DiValid_any (l : List En) (hn : l.length ≤ 1000) (hok : EnsOk l) (v : Value) (w : World) (h : EntsAt w v l) :
    Calls Try.prog 21 #[v] w fun e w' => e = .returned (.bool (l.all okE)) ∧ Below w.heap.size w w' := by
  obtain ⟨A, cap, rfl, hs⟩ := h
  obtain ⟨n, hnl⟩ : ∃ n, n = l.length := ⟨_, rfl⟩
  rw [← hnl] at hs hn ⊢
  have HS := Lib.hid hs
  have HNl := Lib.hid hnl
  have HOk := Lib.hid hok
  clear hs hnl hok
  obtain ⟨R, hR⟩ : ∃ R, R = l.all okE := ⟨_, rfl⟩
  have HR := Lib.hid hR
  rw [← hR]
  clear hR
  go_enter Try.func21, Try.ntmps21
  go_wp2
  go_loopw [7] (fun i wr => ∃ (k : Nat), k ≤ n ∧ i = .int .i64 k ∧ Hid ((l.take k).all okE = true) ∧ Hid (Below w.heap.size w wr)) (fun i _ => n - (intOf i).toNat)
  case atStart => exact ⟨0, by omega, rfl, rfl, Below.refl _ _⟩
  case round =>
    obtain ⟨k, hk, rfl, Htk, Hbel⟩ := hrel
    by_cases hlt : k < n
    · obtain ⟨bb, o, rfl, hb, hsee⟩ := HS.out (by omega)
      obtain ⟨hx, hx1⟩ := atE (hsee.below Hbel.out hb) k (by rw [← HNl.out]; exact hlt)
      have Ht := Lib.hid (take_snoc l k (by rw [← HNl.out]; exact hlt) ⟨[], 0⟩)
      have hmem : l.getD k ⟨[], 0⟩ ∈ l := by
        rw [List.getD_eq_getElem?_getD, List.getElem?_eq_getElem (by rw [← HNl.out]; exact hlt)]
        exact List.getElem_mem _
      have HMem := Lib.hid hmem
      obtain ⟨hxl, hk0, hk1⟩ := HOk.out _ hmem
      clear hsee HS hmem HOk
      generalize l.getD k ⟨[], 0⟩ = x at *
      obtain ⟨xn, xk⟩ := x
      unfold SB at hx
      simp only at hx hx1 hxl hk0 hk1
      rename World => wx
      have HOkE : Hid (okE ⟨xn, xk⟩ = (decide (nameE xn = 0) && decide (1 ≤ xk) && decide (xk ≤ 31))) := rfl
      have HRow : Hid (Row (wx.alloc (.cells #[.string (strB xn), .int .i64 xk] 26)) wx.heap.size 26 (cE ⟨xn, xk⟩)) := Row.new wx _ _
      have HN : Hid (∀ W, Calls Try.prog 10 #[.string (strB xn)] W fun e w' => e = .returned (.int .i64 (nameE xn)) ∧ Below W.heap.size W w') := fun W => DiName_any xn hxl W
      have HF : Hid (okE ⟨xn, xk⟩ = false → R = false) := fun h => by
        rw [HR.out, Bool.eq_false_iff]
        intro hh
        have := List.all_eq_true.1 hh _ HMem.out
        rw [h] at this
        cases this
      have Hb2 : Hid (Below w.heap.size w (wx.alloc (.cells #[.string (strB xn), .int .i64 xk] 26))) := Hbel.out.alloc Hbel.out.size _
      clear HMem Hbel
      generalize nameE xn = E at *
      generalize strB xn = sx at *
      by_cases hE : E = 0
      · subst hE
        by_cases h1 : xk < 1
        · have HD : Hid (R = false) := HF.out (by rw [HOkE.out]; simp; omega)
          go_wp2_with (go_at_call 10; refine (HN.out _).mono ?_; rintro e w1 ⟨rfl, hb1⟩; have c1 := (HRow.out.below hb1 HRow.out.lt).cell 1; simp only [cE, List.getElem?_cons_succ, List.getElem?_cons_zero] at c1)
          go_ret
          rw [HD.out]
          exact ⟨rfl, Hb2.out.trans (hb1.mono Hb2.out.size)⟩
        · by_cases h31 : 31 < xk
          · have HD : Hid (R = false) := HF.out (by rw [HOkE.out]; simp; omega)
            go_wp2_with (go_at_call 10; refine (HN.out _).mono ?_; rintro e w1 ⟨rfl, hb1⟩; have c1 := (HRow.out.below hb1 HRow.out.lt).cell 1; simp only [cE, List.getElem?_cons_succ, List.getElem?_cons_zero] at c1)
            go_ret
            rw [HD.out]
            exact ⟨rfl, Hb2.out.trans (hb1.mono Hb2.out.size)⟩
          · have HD : Hid (okE ⟨xn, xk⟩ = true) := by show _ = _; rw [HOkE.out]; simp; omega
            go_wp2_with (go_at_call 10; refine (HN.out _).mono ?_; rintro e w1 ⟨rfl, hb1⟩; have c1 := (HRow.out.below hb1 HRow.out.lt).cell 1; simp only [cE, List.getElem?_cons_succ, List.getElem?_cons_zero] at c1)
            go_roundw
            case rel => exact ⟨k + 1, by omega, by go_num, by show _ = _; rw [Ht.out, List.all_append, Htk.out]; simpa using HD.out, Hb2.out.trans (hb1.mono Hb2.out.size)⟩
            case measure => simp [intOf]; omega
      · have HD : Hid (R = false) := HF.out (by rw [HOkE.out]; simp [hE])
        have hE2 : (E == 0) = false := by simpa using hE
        go_wp2_with (go_at_call 10; refine (HN.out _).mono ?_; rintro e w1 ⟨rfl, hb1⟩; have c1 := (HRow.out.below hb1 HRow.out.lt).cell 1; simp only [cE, List.getElem?_cons_succ, List.getElem?_cons_zero] at c1)
        go_ret
        rw [HD.out]
        exact ⟨rfl, Hb2.out.trans (hb1.mono Hb2.out.size)⟩
    · obtain rfl : k = n := by omega
      have HD : Hid (R = true) := by
        show _ = _
        have h1 := Htk.out
        rw [List.take_of_length_le (by rw [HNl.out]; exact Nat.le_refl _)] at h1
        rw [HR.out, h1]
      go_wp2
      go_ret
      rw [HD.out]
      exact ⟨rfl, Hbel.out⟩
end Go.Proofs.Ytaamhdgngnpmoaa
