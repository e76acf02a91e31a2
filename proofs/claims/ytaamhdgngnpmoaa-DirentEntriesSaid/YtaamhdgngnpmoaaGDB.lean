/-
  THE WALKS of the law's same and As (entries).
-/
import Derived.Test.YtaamhdgngnpmoaaGD
namespace Go.Proofs.Ytaamhdgngnpmoaa
open Go.RowKit Dir

set_option maxRecDepth 100000 in
set_option maxHeartbeats 1000000 in
theorem Disame_any (a b : List En) (hn : a.length ≤ 1000000) (hn2 : b.length ≤ 1000000) (v u : Value) (w : World) (h : EntsAt w v a) (hu : EntsAt w u b) :
    Calls Try.prog 15 #[v, u] w fun e w' => e = .returned (.bool (decide (a = b))) ∧ Below w.heap.size w w' := by
  obtain ⟨A, cap, rfl, hs⟩ := h
  obtain ⟨C, cap2, rfl, hs2⟩ := hu
  obtain ⟨n, hnl⟩ : ∃ n, n = a.length := ⟨_, rfl⟩
  obtain ⟨q, hql⟩ : ∃ q, q = b.length := ⟨_, rfl⟩
  rw [← hnl] at hs hn ⊢
  rw [← hql] at hs2 hn2 ⊢
  have HS := Lib.hid hs
  have HS2 := Lib.hid hs2
  have HNl := Lib.hid hnl
  have HQl := Lib.hid hql
  clear hs hs2 hnl hql
  obtain ⟨r, hr⟩ : ∃ r, r = decide (a = b) := ⟨_, rfl⟩
  have HR := Lib.hid hr
  rw [← hr]
  clear hr
  go_enter Try.func15, Try.ntmps15
  by_cases hnq : n = q
  · subst hnq
    go_wp2
    go_loopw [5] (fun i wr => ∃ (k : Nat), k ≤ n ∧ i = .int .i64 k ∧ Hid (a.take k = b.take k) ∧ Below w.heap.size w wr) (fun i _ => n - (intOf i).toNat)
    case atStart => exact ⟨0, by omega, rfl, rfl, Below.refl _ _⟩
    case round =>
      obtain ⟨k, hk, rfl, Htk, hbel⟩ := hrel
      by_cases hlt : k < n
      · obtain ⟨bb, o, rfl, hb, hsee⟩ := HS.out (by omega)
        obtain ⟨b2, o2, rfl, hb2, hsee2⟩ := HS2.out (by omega)
        obtain ⟨hx, hx1⟩ := atE (hsee.below hbel hb) k (by rw [← HNl.out]; exact hlt)
        obtain ⟨hy, hy1⟩ := atE (hsee2.below hbel hb2) k (by rw [← HQl.out]; exact hlt)
        have Hta := Lib.hid (take_snoc a k (by rw [← HNl.out]; exact hlt) ⟨[], 0⟩)
        have Htb := Lib.hid (take_snoc b k (by rw [← HQl.out]; exact hlt) ⟨[], 0⟩)
        clear hsee hsee2 HS HS2
        generalize a.getD k ⟨[], 0⟩ = x at *
        generalize b.getD k ⟨[], 0⟩ = y at *
        obtain ⟨xn, xk⟩ := x
        obtain ⟨yn, yk⟩ := y
        unfold SB at hx hy
        simp only at hx hy hx1 hy1
        by_cases hxy : En.mk xn xk = En.mk yn yk
        · injection hxy with e1 e2
          subst e1; subst e2
          generalize strB xn = sx at *
          go_wp2
          go_quiet (fail)
          go_wp2
          go_roundw
          case rel => exact ⟨k + 1, by omega, by go_num, by show _ = _; rw [Hta.out, Htb.out, Htk.out], below_drewN hbel _⟩
          case measure => simp [intOf]; omega
        · have HD : Hid (r = false) := by
            show _ = _
            rw [HR.out, decide_eq_false]
            intro e
            subst e
            have := Hta.out.symm.trans Htb.out
            exact hxy (by simpa using this)
          clear Hta Htb
          by_cases hnn : xn = yn
          · subst hnn
            have hk1 : ¬ xk = yk := fun e => hxy (by rw [e])
            have hk2 : (xk == yk) = false := by simpa using hk1
            clear hxy
            generalize strB xn = sx at *
            go_wp2
            go_quiet (fail)
            go_wp2
            go_ret
            rw [HD.out]
            exact ⟨rfl, below_drewN hbel _⟩
          · have hne := strB_ne hnn
            have hne2 : ¬ (strB xn).toList = (strB yn).toList := by rw [strB_list, strB_list]; exact hnn
            clear hxy hnn
            generalize strB xn = sx at *
            generalize strB yn = sy at *
            go_wp2
            go_quiet (fail)
            go_wp2
            go_ret
            rw [HD.out]
            exact ⟨rfl, below_drewN hbel _⟩
      · obtain rfl : k = n := by omega
        have HD : Hid (r = true) := by
          show _ = _
          have h1 := Htk.out
          rw [List.take_of_length_le (by rw [HNl.out]; exact Nat.le_refl _), List.take_of_length_le (by rw [HQl.out]; exact Nat.le_refl _)] at h1
          rw [HR.out, decide_eq_true h1]
        go_wp2
        go_ret
        rw [HD.out]
        exact ⟨rfl, hbel⟩
  · have HD : Hid (r = false) := by
      show _ = _
      rw [HR.out, decide_eq_false]
      intro e
      subst e
      exact hnq (HNl.out.trans HQl.out.symm)
    go_wp2
    go_ret
    rw [HD.out]
    exact ⟨rfl, Below.refl _ _⟩

theorem infoREn : (Try.prog.info? 49).map (fun i => (i.zero, i.size, i.bytes)) = some (some (.agg #[.string ⟨#[]⟩, .int .i64 0]), 2, 24) := by kernel_rfl

set_option maxRecDepth 100000 in
set_option maxHeartbeats 1000000 in
theorem DiAs_own (l : List En) (hn : l.length ≤ 90000) (v : Value) (w : World) (h : EntsAt w v l) :
    Calls Try.prog 9 #[v] w fun e w' => ∃ r, e = .returned r ∧ Hid (OwnE w' w.heap.size 49 r l) ∧ Below w.heap.size w w' := by
  obtain ⟨A, cap, rfl, hs⟩ := h
  obtain ⟨n, hnl⟩ : ∃ n, n = l.length := ⟨_, rfl⟩
  rw [← hnl] at hs hn ⊢
  have HS := Lib.hid hs
  have HNl := Lib.hid hnl
  clear hs hnl
  go_enter Try.func9, Try.ntmps9
  go_wp2
  go_loopw [3, 4] (fun out i wr => ∃ (k : Nat), k ≤ n ∧ i = .int .i64 k ∧ Hid (OwnE wr w.heap.size 49 out (l.take k)) ∧ Hid (Below w.heap.size w wr)) (fun _ i _ => n - (intOf i).toNat)
  case atStart => exact ⟨0, by omega, rfl, OwnE.nil _ _ _, Below.refl _ _⟩
  case round =>
    obtain ⟨k, hk, rfl, Hown, Hbel⟩ := hrel
    by_cases hlt : k < n
    · obtain ⟨bb, o, rfl, hb, hsee⟩ := HS.out (by omega)
      obtain ⟨hx, hx1⟩ := atE (hsee.below Hbel.out hb) k (by rw [← HNl.out]; exact hlt)
      have hbl := Nat.lt_of_lt_of_le hb Hbel.out.size
      have Ht := Lib.hid (take_snoc l k (by rw [← HNl.out]; exact hlt) ⟨[], 0⟩)
      have HLn : Hid ((l.take k).length + 1 ≤ 100000) := by show _ ≤ _; rw [List.length_take]; omega
      clear hsee HS
      generalize l.getD k ⟨[], 0⟩ = x at *
      obtain ⟨xn, xk⟩ := x
      unfold SB at hx
      simp only at hx hx1
      rename World => wx
      have HB2 := Lib.hid Hbel.out.size
      have HRow : Hid (Row (wx.alloc (.cells #[.string (strB xn), .int .i64 xk] 49)) wx.heap.size 49 (cE ⟨xn, xk⟩)) := Row.new wx _ _
      go_wp2
      go_region_law (refine step_appE rfl (.tmp 11) (.tmp 23) 31 rfl Try.underlying31 infoREn rfl (Hown.out.alloc _) wx.heap.size ⟨xn, xk⟩ rfl HRow.out HLn.out (by have := HB2.out; simp; omega) ?_; intro v' w3 hown3 hg3 _)
      all_goals
        have HO3 : Hid (OwnE w3 w.heap.size 49 v' (l.take (k + 1))) := by show OwnE _ _ _ _ _; rw [Ht.out]; exact hown3
        have HB3 : Hid (Below w.heap.size w w3) := below_appE (Hbel.out.alloc Hbel.out.size _).drew (OwnE.drew (Hown.out.alloc _)) hg3 (Nat.le_refl _) (by have := HB2.out; simp; omega)
        clear hown3 hg3 Hown Hbel HRow HLn HB2 Ht
        go_wp2
        go_roundw
        case rel => exact ⟨k + 1, by omega, by go_num, HO3, HB3⟩
        case measure => simp [intOf]; omega
    · obtain rfl : k = n := by omega
      go_wp2
      go_ret
      refine ⟨_, rfl, ?_, Hbel.out⟩
      have := Hown.out
      rw [HNl.out, List.take_length] at this
      exact this
theorem DiAs_any (l : List En) (hn : l.length ≤ 90000) (v : Value) (w : World) (h : EntsAt w v l) :
    Calls Try.prog 9 #[v] w fun e w' => ∃ r, e = .returned r ∧ Hid (EntsHi w' w.heap.size r l) ∧ Below w.heap.size w w' :=
  (DiAs_own l hn v w h).mono fun _ _ ⟨r, he, ho, hb⟩ => ⟨r, he, ho.out.hi, hb⟩
end Go.Proofs.Ytaamhdgngnpmoaa
