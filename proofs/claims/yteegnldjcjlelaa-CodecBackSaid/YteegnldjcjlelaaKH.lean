/-
  THE WALKS of the reference's Wide, Big, Same.
-/
import Derived.Test.YteegnldjcjlelaaKE
import Derived.Deep.RegionHeld3
namespace Go.Proofs.Yteegnldjcjlelaa
open Go.RowKit Cdc

set_option maxRecDepth 100000 in
set_option maxHeartbeats 400000 in
theorem RKWide_any (ws : List Int) (hn : ws.length ≤ 1000000) (v : Value) (w : World) (h : From w v (ws.map VI)) :
    Calls Try.prog 11 #[v] w fun e w' => e = .returned (.int .i64 (wide ws)) ∧ Below w.heap.size w w' := by
  obtain ⟨A, cap, rfl, hs⟩ := h.parts
  rw [List.length_map] at hs ⊢
  obtain ⟨n, hnl⟩ : ∃ n, n = ws.length := ⟨_, rfl⟩
  rw [← hnl] at hs hn ⊢
  have HS := Lib.hid hs
  have HNl := Lib.hid hnl
  clear hs hnl h
  go_enter Try.func11, Try.ntmps11
  go_wp2
  go_loop [3, 4] (fun s i => ∃ (k a : Nat), k ≤ n ∧ i = .int .i64 k ∧ s = .int .i64 a ∧ a ≤ 8 * k ∧ Hid (a = sumw (ws.take k)) ∧ Hid ((ws.take k).all okw = true)) (fun _ i => n - (intOf i).toNat)
  case atStart => exact ⟨0, 0, by omega, rfl, rfl, by omega, by show _ = _; simp [sumw], by show _ = _; simp⟩
  case round =>
    obtain ⟨k, a, hk, rfl, rfl, ha, Ha, Hall⟩ := hrel
    by_cases hlt : k < n
    · obtain ⟨b, o, rfl, hb, hsee⟩ := HS.out (by omega)
      have hx := atI hsee k (by rw [← HNl.out]; exact hlt)
      have Htk := Lib.hid (take_snoc ws k (by rw [← HNl.out]; exact hlt) 0)
      have Hmem : Hid (ws.getD k 0 ∈ ws) := by
        show _ ∈ _
        rw [List.getD_eq_getElem?_getD, List.getElem?_eq_getElem (by rw [← HNl.out]; exact hlt)]
        exact List.getElem_mem _
      clear hsee HS
      generalize ws.getD k 0 = x at *
      rcases Int.lt_or_le x 1 with h1 | h1
      · go_wp2
        go_ret
        rw [wide_bad (fun hh => by have := okw_iff.1 (List.all_eq_true.1 hh x Hmem.out); omega)]
        exact ⟨rfl, Below.refl _ _⟩
      · rcases Int.lt_or_le 8 x with h8 | h8
        · go_wp2
          go_ret
          rw [wide_bad (fun hh => by have := okw_iff.1 (List.all_eq_true.1 hh x Hmem.out); omega)]
          exact ⟨rfl, Below.refl _ _⟩
        · go_wp2
          go_round
          case rel =>
            refine ⟨k + 1, a + x.toNat, by omega, by go_num, by rw [Int.natCast_add, Int.toNat_of_nonneg (by omega)], by omega, ?_, ?_⟩
            · show _ = _
              rw [Htk.out, sumw_append, Ha.out]; rfl
            · show _ = _
              rw [Htk.out, List.all_append, Hall.out]
              simp [okw, h1, h8]
          case measure => simp [intOf]; omega
    · obtain rfl : k = n := by omega
      go_wp2
      go_ret
      rw [HNl.out, List.take_length] at Ha Hall
      rw [wide_ok Hall.out, Ha.out]
      exact ⟨rfl, Below.refl _ _⟩

def bigC (k n : Nat) : List UInt8 := big k n
theorem bigC_zero (n : Nat) : bigC 0 n = [] := rfl
theorem bigC_succ (k n : Nat) : bigC (k + 1) n = bigC k (n / 256) ++ [UInt8.ofNat n] := rfl
theorem bigC_length (k n : Nat) : (bigC k n).length = k := big_length k n

set_option maxRecDepth 100000 in
set_option maxHeartbeats 400000 in
theorem KBig_zero (n : Nat) (w : World) :
    Calls Try.prog 15 #[.int .u64 n, .int .i64 0] w fun e w' => ∃ v, e = .returned v ∧ Hid (Own w' w.heap.size 5 v ((bigC 0 n).map V8)) ∧ Below w.heap.size w w' := by
  go_enter Try.func15, Try.ntmps15
  go_wp2
  go_ret
  exact ⟨_, rfl, Own.nil _ _ _, Below.refl _ _⟩

set_option maxRecDepth 100000 in
set_option maxHeartbeats 400000 in
theorem KBig_succ (k n : Nat) (hk : k < 100) (hn : n < 2 ^ 64) (w : World)
    (ih : Calls Try.prog 15 #[.int .u64 ((n / 256 : Nat) : Int), .int .i64 k] w fun e w' => ∃ v, e = .returned v ∧ Hid (Own w' w.heap.size 5 v ((bigC k (n / 256)).map V8)) ∧ Below w.heap.size w w') :
    Calls Try.prog 15 #[.int .u64 n, .int .i64 ((k + 1 : Nat) : Int)] w fun e w' => ∃ v, e = .returned v ∧ Hid (Own w' w.heap.size 5 v ((bigC (k + 1) n).map V8)) ∧ Below w.heap.size w w' := by
  rw [show ((n / 256 : Nat) : Int) = (n : Int) / 256 from Int.natCast_ediv n 256] at ih
  have HI := Lib.hid ih
  clear ih
  go_enter Try.func15, Try.ntmps15
  go_wp2_with fail
  refine HI.out.mono ?_
  rintro e w1 ⟨v1, rfl, Hown, hb1⟩
  have hsz := hb1.size
  have HL : Hid (((bigC k (n / 256)).map V8).length + 1 ≤ 100000000) := by show _ ≤ _; rw [List.length_map, bigC_length]; omega
  have HE : Hid ((n : Int) % 256 = ((UInt8.ofNat n).toNat : Int)) := byte_eq n
  clear HI
  go_wp2_with (at_builtin; refine wpList_app rfl (.tmp 11) (.tmp 15) 24 rfl w.heap.size 5 Try.underlying24 info8 rfl (by decide) _ ((bigC k (n / 256)).map V8) rfl (Hown.out.alloc _) _ [.int .u8 ((n : Int) % 256)] rfl (from_new w1 5 [.int .u8 ((n : Int) % 256)]) (by rw [HE.out]; exact oneC8 [UInt8.ofNat n]) HL.out (by simp; omega) ?_; intro v' w2 hown2 hg2 _)
  go_ret
  refine ⟨_, rfl, ?_, below_app (hb1.alloc hsz _) (Hown.out.alloc _) hg2 (Nat.le_refl _) (by simp; omega)⟩
  show Own _ _ _ _ _
  rw [HE.out] at hown2
  rw [bigC_succ, List.map_append]
  exact hown2

theorem KBig_any (k : Nat) (hk : k ≤ 100) : ∀ (n : Nat), n < 2 ^ 64 → ∀ w : World,
    Calls Try.prog 15 #[.int .u64 n, .int .i64 k] w fun e w' => ∃ v, e = .returned v ∧ Hid (Own w' w.heap.size 5 v ((bigC k n).map V8)) ∧ Below w.heap.size w w' := by
  induction k with
  | zero => intro n _ w; exact KBig_zero n w
  | succ k ih => intro n hn w; exact KBig_succ k n (by omega) hn w (ih (by omega) (n / 256) (by omega) w)

set_option maxRecDepth 100000 in
set_option maxHeartbeats 400000 in
theorem RKSame_any (a b : List Nat) (hn : a.length ≤ 1000000) (hn2 : b.length ≤ 1000000) (v u : Value) (w : World) (h : From w v (a.map VU)) (hu : From w u (b.map VU)) :
    Calls Try.prog 12 #[v, u] w fun e w' => e = .returned (.bool (decide (a = b))) ∧ Below w.heap.size w w' := by
  obtain ⟨A, cap, rfl, hs⟩ := h.parts
  obtain ⟨C, cap2, rfl, hs2⟩ := hu.parts
  rw [List.length_map] at hs hs2
  rw [List.length_map, List.length_map]
  obtain ⟨n, hnl⟩ : ∃ n, n = a.length := ⟨_, rfl⟩
  obtain ⟨q, hql⟩ : ∃ q, q = b.length := ⟨_, rfl⟩
  rw [← hnl] at hs hn ⊢
  rw [← hql] at hs2 hn2 ⊢
  have HS := Lib.hid hs
  have HS2 := Lib.hid hs2
  have HNl := Lib.hid hnl
  have HQl := Lib.hid hql
  clear hs hs2 h hu hnl hql
  obtain ⟨r, hr⟩ : ∃ r, r = decide (a = b) := ⟨_, rfl⟩
  have HR := Lib.hid hr
  rw [← hr]
  clear hr
  go_enter Try.func12, Try.ntmps12
  by_cases hnq : n = q
  · subst hnq
    go_wp2
    go_loopw [5] (fun i wr => ∃ (k : Nat), k ≤ n ∧ i = .int .i64 k ∧ Hid (a.take k = b.take k) ∧ Below w.heap.size w wr) (fun i _ => n - (intOf i).toNat)
    case atStart => exact ⟨0, by omega, rfl, rfl, Below.refl _ _⟩
    case round =>
      obtain ⟨k, hk, rfl, Htk, hbel⟩ := hrel
      by_cases hlt : k < n
      · obtain ⟨bb, o, rfl, hb, hsee⟩ := HS.out (by omega)
        obtain ⟨b2, o2, rfl, hb2, hsee2⟩ := HS2.out (by omega)
        have hx := atU (hsee.below hbel hb) k (by rw [← HNl.out]; exact hlt)
        have hy := atU (hsee2.below hbel hb2) k (by rw [← HQl.out]; exact hlt)
        have Hta := Lib.hid (take_snoc a k (by rw [← HNl.out]; exact hlt) 0)
        have Htb := Lib.hid (take_snoc b k (by rw [← HQl.out]; exact hlt) 0)
        clear hsee hsee2 HS HS2
        generalize a.getD k 0 = x at *
        generalize b.getD k 0 = y at *
        by_cases hxy : x = y
        · subst hxy
          go_wp2
          go_quiet (fail)
          go_wp2
          go_roundw
          case rel => exact ⟨k + 1, by omega, by go_num, by show _ = _; rw [Hta.out, Htb.out, Htk.out], below_drewN hbel _⟩
          case measure => simp [intOf]; omega
        · go_wp2
          go_quiet (fail)
          go_wp2
          go_ret
          have hne : a ≠ b := fun e => by
            have h1 := Hta.out
            rw [e, Htb.out] at h1
            have h2 := congrArg List.getLast? h1
            simp at h2
            exact hxy h2.symm
          rw [HR.out, decide_eq_false hne]
          exact ⟨rfl, below_drewN hbel _⟩
      · obtain rfl : k = n := by omega
        have heq : a = b := by
          have := Htk.out
          rwa [List.take_of_length_le (by rw [← HNl.out]; omega), List.take_of_length_le (by rw [← HQl.out]; omega)] at this
        have HEq := Lib.hid heq
        clear heq
        go_wp2
        go_ret
        rw [HR.out, decide_eq_true HEq.out]
        exact ⟨rfl, hbel⟩
  · go_wp2
    go_ret
    have hne : a ≠ b := fun e => hnq (by rw [HNl.out, HQl.out, e])
    rw [HR.out, decide_eq_false hne]
    exact ⟨rfl, Below.refl _ _⟩
end Go.Proofs.Yteegnldjcjlelaa
