/-
  THE WALK of the reference's Whole.
-/
import Derived.Test.YtepbnimheedodaaDoorMC
namespace Go.Proofs.YtepbnimheedodaaDoor
open Go.RowKit Mk

theorem pow4_lt {h : Nat} (hh : (4 : Int) ^ h < 100001) : h ≤ 8 := by
  rcases Nat.lt_or_ge 8 h with h9 | h9
  · have h1 : (4 ^ 9 : Nat) ≤ 4 ^ h := Nat.pow_le_pow_right (by omega) h9
    have h2 : ((4 ^ h : Nat) : Int) = (4 : Int) ^ h := pow_int h
    have h3 : (4 ^ 9 : Nat) = 262144 := by decide
    omega
  · exact h9

set_option maxRecDepth 100000 in
set_option maxHeartbeats 400000 in
theorem RMWhole_any (m : Int) (hm : m ≤ 100000) (w : World) :
    Calls Tryd.prog 31 #[.int .i64 m] w fun e w' => (∃ h N : Nat, Hid (IsH m h) ∧ h ≤ 9 ∧ Hid (N = 4 ^ h) ∧ e = .returned (.tuple #[.int .i64 (N : Int), .int .i64 (h : Int)])) ∧ Below w.heap.size w w' := by
  go_enter Tryd.func31, Tryd.ntmps31
  go_wp2
  go_loop [4, 5] (fun n i => ∃ (h N : Nat), 1 ≤ h ∧ h ≤ 9 ∧ N = 4 ^ h ∧ (h = 1 ∨ (4 : Int) ^ (h - 1) < m) ∧ n = .int .i64 N ∧ i = .int .i64 h) (fun _ i => 10 - (intOf i).toNat)
  case atStart => exact ⟨1, 4, by omega, by omega, rfl, .inl rfl, rfl, rfl⟩
  case round =>
    obtain ⟨h, N, h1, h9, hN, hd, rfl, rfl⟩ := hrel
    have hNi : (N : Int) = (4 : Int) ^ h := by rw [hN, pow_int]
    have hb9 : N ≤ 262144 := by
      have : (4 ^ h : Nat) ≤ 4 ^ 9 := Nat.pow_le_pow_right (by omega) h9
      have h3 : (4 ^ 9 : Nat) = 262144 := by decide
      omega
    have HNi := Lib.hid hNi
    have HN := Lib.hid hN
    have Hd := Lib.hid hd
    clear hNi hN hd
    by_cases hlt : (N : Int) < m
    · have h8 : h ≤ 8 := pow4_lt (by rw [← HNi.out]; omega)
      go_wp2
      go_round
      case rel =>
        refine ⟨h + 1, 4 * N, by omega, by omega, ?_, .inr ?_, by go_num, by go_num⟩
        · rw [HN.out, Nat.pow_succ]; omega
        · rw [Nat.add_sub_cancel, ← HNi.out]; exact hlt
      case measure => simp [intOf]; omega
    · go_wp2
      go_ret2
      exact ⟨⟨h, ⟨h1, by rw [← HNi.out]; omega, Hd.out⟩, h9, N, HN, rfl⟩, Below.refl _ _⟩
end Go.Proofs.YtepbnimheedodaaDoor
