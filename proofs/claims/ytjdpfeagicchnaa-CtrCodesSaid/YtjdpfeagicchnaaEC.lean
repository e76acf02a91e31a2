/-
  THE WALKS of the small functions: double, triple, RotateLeft8, spread.
-/
import Derived.Test.YtjdpfeagicchnaaO
import Derived.Test.YtjdpfeagicchnaaEA
namespace Go.Proofs.Ytjdpfeagicchnaa
open Go.RowKit Aes

theorem dbl_lo (x : UInt8) (h : x.toNat < 128) : (x.toNat : Int) * 2 = ((dbl x).toNat : Int) := by
  have : x < 128 := h
  rw [dbl, if_pos this, UInt8.toNat_add]; omega
theorem dbl_hi (x : UInt8) (h : ¬ x.toNat < 128) : bits .xor .u8 (((x.toNat : Int) * 2) % 256) 27 = ((dbl x).toNat : Int) := by
  have : ¬ x < 128 := h
  rw [dbl, if_neg this, ← xor8, UInt8.toNat_add]
  congr 1
  omega

set_option maxRecDepth 100000 in
set_option maxHeartbeats 400000 in
theorem double_any (x : UInt8) (w : World) :
    Calls Try.prog 33 #[.int .u8 x.toNat] w fun e w' => e = .returned (.int .u8 (dbl x).toNat) ∧ w = w' := by
  by_cases h : x.toNat < 128
  · have HD := Lib.hid (dbl_lo x h)
    go_enter Try.func33, Try.ntmps33
    go_wp2
    go_ret
    exact ⟨ret8 HD.out, rfl⟩
  · have HD := Lib.hid (dbl_hi x h)
    go_enter Try.func33, Try.ntmps33
    go_wp2
    go_ret
    exact ⟨ret8 HD.out, rfl⟩

set_option maxRecDepth 100000 in
set_option maxHeartbeats 400000 in
theorem triple_any (x : UInt8) (w : World) :
    Calls Try.prog 29 #[.int .u8 x.toNat] w fun e w' => e = .returned (.int .u8 (tpl x).toNat) ∧ w = w' := by
  have HX := Lib.hid (xor8 (dbl x) x)
  go_enter Try.func29, Try.ntmps29
  go_wp2_with (go_at_call 33; refine (double_any x _).mono ?_; rintro e w' ⟨rfl, rfl⟩)
  go_ret
  exact ⟨ret8 HX.out, rfl⟩

theorem rot_form (x : UInt8) (n : Nat) (h : n ≤ 8) (a b : Int) (ha : a = ((x.toNat * 2 ^ n % 256 : Nat) : Int)) (hb : b = ((x.toNat / 2 ^ (8 - n) : Nat) : Int)) : bits .or .u8 a b = ((rotl x n).toNat : Int) := by
  have hx := lt8 x
  have hp : 0 < 2 ^ n := Nat.two_pow_pos n
  have hq : x.toNat / 2 ^ (8 - n) < 2 ^ n := by
    rw [Nat.div_lt_iff_lt_mul (Nat.two_pow_pos _), ← Nat.pow_add, show n + (8 - n) = 8 by omega]; exact hx
  have h8 : (256 : Nat) = 2 ^ (8 - n) * 2 ^ n := by rw [← Nat.pow_add, show 8 - n + n = 8 by omega]
  have hm : x.toNat * 2 ^ n % 256 = x.toNat % 2 ^ (8 - n) * 2 ^ n := by rw [h8, Nat.mul_mod_mul_right]
  have h1 : x.toNat * 2 ^ n % 256 < 256 := Nat.mod_lt _ (by omega)
  have h2 : x.toNat / 2 ^ (8 - n) < 256 := Nat.lt_of_le_of_lt (Nat.div_le_self _ _) hx
  have hj : x.toNat * 2 ^ n % 256 ||| x.toNat / 2 ^ (8 - n) = x.toNat * 2 ^ n % 256 + x.toNat / 2 ^ (8 - n) := nat_join n _ _ (by rw [hm, Nat.mul_mod_left]) hq
  have hlt : x.toNat * 2 ^ n % 256 + x.toNat / 2 ^ (8 - n) < 256 := by
    rw [hm]
    have h3 : x.toNat % 2 ^ (8 - n) < 2 ^ (8 - n) := Nat.mod_lt _ (Nat.two_pow_pos _)
    have h4 : x.toNat % 2 ^ (8 - n) * 2 ^ n + 2 ^ n ≤ 2 ^ (8 - n) * 2 ^ n := by rw [← Nat.succ_mul]; exact Nat.mul_le_mul_right _ h3
    omega
  rw [ha, hb, u8_or_nat _ _ h1 h2, hj, rotl, toNat_ofNat8 hlt]

set_option maxRecDepth 100000 in
set_option maxHeartbeats 400000 in
theorem rotl8_any (x : UInt8) (n : Int) (h1 : 1 ≤ n) (h2 : n ≤ 4) (w : World) :
    Calls Try.prog 35 #[.int .u8 x.toNat, .int .i64 n] w fun e w' => e = .returned (.int .u8 (rotl x n.toNat).toNat) ∧ w = w' := by
  have e1 : bits .and .u64 1 7 = 1 := by decide
  have e2 : bits .and .u64 2 7 = 2 := by decide
  have e3 : bits .and .u64 3 7 = 3 := by decide
  have e4 : bits .and .u64 4 7 = 4 := by decide
  obtain rfl | rfl | rfl | rfl : n = 1 ∨ n = 2 ∨ n = 3 ∨ n = 4 := by omega
  all_goals
    go_enter Try.func35, Try.ntmps35
    go_wp2
    go_ret
    exact ⟨ret8 (rot_form x _ (by decide) _ _ (by simp) (by simp)), rfl⟩

theorem sprN_xor (x : UInt8) (k : Nat) (n : Int) (hn : n = (k : Int) + 1) : bits .xor .u8 ((sprN x k).toNat : Int) (rotl x n.toNat).toNat = ((sprN x (k + 1)).toNat : Int) := by
  rw [xor8, sprN, hn, show ((k : Int) + 1).toNat = k + 1 by omega]

set_option maxRecDepth 100000 in
set_option maxHeartbeats 400000 in
theorem spread_any (x : UInt8) (w : World) :
    Calls Try.prog 30 #[.int .u8 x.toNat] w fun e w' => e = .returned (.int .u8 (spr x).toNat) ∧ w = w' := by
  have H0 : Hid (bits .xor .u8 (x.toNat : Int) 99 = ((sprN x 0).toNat : Int)) := xor8 x 99
  go_enter Try.func30, Try.ntmps30
  go_wp2
  go_loop [3, 4] (fun o i => ∃ k : Nat, k ≤ 4 ∧ i = .int .i64 ((k : Int) + 1) ∧ o = .int .u8 (sprN x k).toNat) (fun _ i => 5 - (intOf i).toNat)
  case atStart => exact ⟨0, by omega, rfl, int8 H0.out⟩
  case round =>
    obtain ⟨k, hk, rfl, rfl⟩ := hrel
    by_cases hlt : k < 4
    · have HS := Lib.hid (sprN_xor x k ((k : Int) + 1) rfl)
      go_wp2_with (go_at_call 35; refine (rotl8_any x _ (by omega) (by omega) _).mono ?_; rintro e w' ⟨rfl, rfl⟩)
      go_round
      case rel => exact ⟨k + 1, by omega, by go_num, int8 HS.out⟩
      case measure => simp [intOf]; omega
    · obtain rfl : k = 4 := by omega
      go_wp2
      go_ret
      exact ⟨rfl, rfl⟩
end Go.Proofs.Ytjdpfeagicchnaa
