/-
  THE WALK of the program's Height.
-/
import Derived.Test.YtepbnimheedodaaDoorMT
namespace Go.Proofs.YtepbnimheedodaaDoor
open Go.RowKit Mk

theorem w64 (x : Int) (h : -9223372036854775808 ≤ x ∧ x ≤ 9223372036854775807) : wrap64 x = x := by unfold wrap64; omega
theorem less4 (q : Nat) (h0 : 0 < q) (h : q ≤ 99999) : (wrap64 ((q : Int) / 4)).toNat < ((q : Int)).toNat := by
  rw [w64 _ (by omega)]; omega
theorem iO (x : Int) : intOf (.int .i64 x) = x := rfl
theorem quo4 (n h : Nat) : ((n / 4 ^ h : Nat) : Int) / 4 = ((n / 4 ^ (h + 1) : Nat) : Int) := by
  rw [Nat.pow_succ, ← Nat.div_div_eq_div_mul]; omega

set_option maxRecDepth 100000 in
set_option maxHeartbeats 400000 in
theorem height_holds : HeightC := by
  intro m w hm
  by_cases h1 : m < 1
  · have HH : Hid (IsH m 1) := ⟨Nat.le_refl _, by omega, .inl rfl⟩
    go_enter Tryd.func19, Tryd.ntmps19
    go_wp2
    go_loopw [3, 4] (fun p q wr => p = .int .i64 1 ∧ q = .int .i64 0 ∧ Hid (Below w.heap.size w wr)) (fun _ _ _ => 0)
    case atStart => exact ⟨rfl, rfl, Below.refl _ _⟩
    case round =>
      obtain ⟨rfl, rfl, HB⟩ := hrel
      go_wp2
      go_ret
      exact ⟨⟨1, HH, by omega, rfl⟩, HB.out⟩
  · obtain ⟨n, rfl⟩ : ∃ n : Nat, m = (n : Int) + 1 := ⟨(m - 1).toNat, by omega⟩
    have Hn : Hid (n ≤ 99999) := by show _ ≤ _; omega
    have e0 : (n : Int) / 4 = ((n / 4 ^ 1 : Nat) : Int) := by rw [Nat.pow_one]; omega
    have E0 := Lib.hid e0
    clear e0
    go_enter Tryd.func19, Tryd.ntmps19
    go_wp2
    go_loopw [3, 4] (fun p q wr => ∃ h : Nat, Hid (1 ≤ h ∧ (h = 1 ∨ 4 ^ (h - 1) ≤ n)) ∧ h ≤ 9 ∧ p = .int .i64 h ∧ q = .int .i64 ((n / 4 ^ h : Nat) : Int) ∧ Hid (Below w.heap.size w wr)) (fun _ q _ => (intOf q).toNat)
    case atStart => exact ⟨1, ⟨Nat.le_refl _, .inl rfl⟩, by omega, rfl, by rw [← E0.out], Below.refl _ _⟩
    case round =>
      obtain ⟨h, Hh, h9, rfl, rfl, HB⟩ := hrel
      obtain ⟨q, Hq⟩ : ∃ q, Hid (q = n / 4 ^ h) := ⟨_, rfl⟩
      have Eq4 : Hid ((q : Int) / 4 = ((n / 4 ^ (h + 1) : Nat) : Int)) := by show _ = _; rw [Hq.out]; exact quo4 n h
      have Hqb : Hid (q ≤ 99999) := by
        have h2 := Hq.out
        have h3 := Nat.div_le_self n (4 ^ h)
        have h4 := Hn.out
        show _ ≤ _; omega
      have Hw4 : Hid (wrap64 ((q : Int) / 4) = (q : Int) / 4) := by
        have h2 := Hq.out
        have h3 := Nat.div_le_self n (4 ^ h)
        have h4 := Hn.out
        exact w64 _ (by omega)
      rw [← Hq.out]
      by_cases hp : 0 < q
      · have hl : 4 ^ h ≤ n := by
          have h2 := Hq.out
          rw [h2] at hp
          exact (Nat.div_pos_iff.1 hp).2
        have h8 : h + 1 ≤ 9 := by
          rcases Nat.lt_or_ge h 9 with h3 | h3
          · omega
          · have h4 : 4 ^ 9 ≤ 4 ^ h := Nat.pow_le_pow_right (by omega) h3
            have := Hn.out
            omega
        have Hl := Lib.hid hl
        clear hl
        go_wp2
        go_roundw
        case rel => exact ⟨h + 1, ⟨by omega, .inr (by rw [Nat.add_sub_cancel]; exact Hl.out)⟩, h8, by go_num, by rw [Hw4.out, Eq4.out], HB⟩
        case measure => rw [iO, iO]; exact less4 q hp Hqb.out
      · obtain rfl : q = 0 := by omega
        have HH : Hid (IsH ((n : Int) + 1) h) := by
          have h2 := Hq.out
          have h3 : n < 4 ^ h := (Nat.div_eq_zero_iff_lt (Nat.pow_pos (by omega))).1 h2.symm
          refine ⟨Hh.out.1, ?_, ?_⟩
          · rw [← pow_int]; omega
          · rcases Hh.out.2 with h4 | h4
            · exact .inl h4
            · right
              rw [← pow_int]; omega
        go_wp2
        go_ret
        exact ⟨⟨h, HH, h9, rfl⟩, HB.out⟩
end Go.Proofs.YtepbnimheedodaaDoor
