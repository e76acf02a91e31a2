/-
  THE WALKS of the reference's Texts, of the law's same and As.
-/
import Derived.Test.YtaamhdgngnpmoaaGC
import Derived.Test.YtaamhdgngnpmoaaKA
import Derived.BigQuiet
import Derived.Deep.RegionLaw
namespace Go.Proofs.Ytaamhdgngnpmoaa
open Go.RowKit Dir

/-- Strings as cells. -/
theorem atS {w : World} {b off : Nat} {l : List (List UInt8)} (h : Sees w b off (l.map SB)) (i : Nat) (hi : i < l.length) : w.cell? ⟨b, off + i, none⟩ = some (SB (l.getD i [])) :=
  h.at_ (by rw [List.getElem?_map, List.getElem?_eq_getElem hi]; simp [hi])
theorem strB_ne {x y : List UInt8} (h : x ≠ y) : ((strB x).toList == (strB y).toList) = false := by
  rw [strB_list, strB_list]; simpa using h

set_option maxRecDepth 100000 in
set_option maxHeartbeats 1000000 in
theorem RDiTexts_any (a b : List (List UInt8)) (hn : a.length ≤ 1000000) (hn2 : b.length ≤ 1000000) (v u : Value) (w : World) (h : From w v (a.map SB)) (hu : From w u (b.map SB)) :
    Calls Try.prog 19 #[v, u] w fun e w' => e = .returned (.bool (decide (a = b))) ∧ Below w.heap.size w w' := by
  obtain ⟨A, cap, rfl, hs⟩ := h.parts
  obtain ⟨C, cap2, rfl, hs2⟩ := hu.parts
  rw [List.length_map] at hs hs2
  rw [List.length_map, List.length_map]
  obtain ⟨n, hnl⟩ : ∃ n, n = a.length := ⟨_, rfl⟩
  obtain ⟨q, hql⟩ : ∃ q, q = b.length := ⟨_, rfl⟩
  rw [← hnl] at hs hn ⊢
  rw [← hql] at hs2 hn2 ⊢
  have HS := Lib.hid hs
  have HS2 := Lib.hid hs2
  have HNl := Lib.hid hnl
  have HQl := Lib.hid hql
  clear hs hs2 h hu hnl hql
  obtain ⟨r, hr⟩ : ∃ r, r = decide (a = b) := ⟨_, rfl⟩
  have HR := Lib.hid hr
  rw [← hr]
  clear hr
  go_enter Try.func19, Try.ntmps19
  by_cases hnq : n = q
  · subst hnq
    go_wp2
    go_loopw [5] (fun i wr => ∃ (k : Nat), k ≤ n ∧ i = .int .i64 k ∧ Hid (a.take k = b.take k) ∧ Below w.heap.size w wr) (fun i _ => n - (intOf i).toNat)
    case atStart => exact ⟨0, by omega, rfl, rfl, Below.refl _ _⟩
    case round =>
      obtain ⟨k, hk, rfl, Htk, hbel⟩ := hrel
      by_cases hlt : k < n
      · obtain ⟨bb, o, rfl, hb, hsee⟩ := HS.out (by omega)
        obtain ⟨b2, o2, rfl, hb2, hsee2⟩ := HS2.out (by omega)
        have hx := atS (hsee.below hbel hb) k (by rw [← HNl.out]; exact hlt)
        have hy := atS (hsee2.below hbel hb2) k (by rw [← HQl.out]; exact hlt)
        have Hta := Lib.hid (take_snoc a k (by rw [← HNl.out]; exact hlt) [])
        have Htb := Lib.hid (take_snoc b k (by rw [← HQl.out]; exact hlt) [])
        clear hsee hsee2 HS HS2
        generalize a.getD k [] = x at *
        generalize b.getD k [] = y at *
        unfold SB at hx hy
        by_cases hxy : x = y
        · subst hxy
          go_wp2
          go_quiet (fail)
          go_wp2
          go_roundw
          case rel => exact ⟨k + 1, by omega, by go_num, by show _ = _; rw [Hta.out, Htb.out, Htk.out], below_drewN hbel _⟩
          case measure => simp [intOf]; omega
        · have hne := strB_ne hxy
          have HD : Hid (r = false) := by
            show _ = _
            rw [HR.out, decide_eq_false]
            intro e
            subst e
            have := Hta.out.symm.trans Htb.out
            exact hxy (by simpa using this)
          have hne2 : ¬ (strB x).toList = (strB y).toList := by rw [strB_list, strB_list]; exact hxy
          clear hxy Hta Htb
          generalize strB x = sx at *
          generalize strB y = sy at *
          go_wp2
          go_quiet (fail)
          go_wp2
          go_ret
          rw [HD.out]
          exact ⟨rfl, below_drewN hbel _⟩
      · obtain rfl : k = n := by omega
        have HD : Hid (r = true) := by
          show _ = _
          have h1 := Htk.out
          rw [List.take_of_length_le (by rw [HNl.out]; exact Nat.le_refl _), List.take_of_length_le (by rw [HQl.out]; exact Nat.le_refl _)] at h1
          rw [HR.out, decide_eq_true h1]
        go_wp2
        go_ret
        rw [HD.out]
        exact ⟨rfl, hbel⟩
  · have HD : Hid (r = false) := by
      show _ = _
      rw [HR.out, decide_eq_false]
      intro e
      subst e
      exact hnq (HNl.out.trans HQl.out.symm)
    go_wp2
    go_ret
    rw [HD.out]
    exact ⟨rfl, Below.refl _ _⟩
theorem atE {w : World} {b off : Nat} {l : List En} (h : Sees w b off (cEs l)) (i : Nat) (hi : i < l.length) : w.cell? ⟨b, off + i * 2, none⟩ = some (SB (l.getD i ⟨[], 0⟩).n) ∧ w.cell? ⟨b, off + i * 2 + 1, none⟩ = some (.int .i64 (l.getD i ⟨[], 0⟩).k) := by
  have hx := List.getElem?_eq_getElem hi
  have e : l.getD i ⟨[], 0⟩ = l[i] := by rw [List.getD_eq_getElem?_getD, hx]; rfl
  rw [e]
  obtain ⟨h1, h2⟩ := cEs_at l i _ hx
  exact ⟨h.at_ h1, by rw [Nat.add_assoc]; exact h.at_ h2⟩
end Go.Proofs.Ytaamhdgngnpmoaa
