/-
  THE WALKS of the reference's Mul, Left, Swap: multiplied bit by bit, the inverse sought.
-/
import Derived.Test.YtjdpfeagicchnaaEC
namespace Go.Proofs.Ytjdpfeagicchnaa
open Go.RowKit Aes

theorem i64_xor_nat (a b : Nat) (ha : a < 1000000) (hb : b < 1000000) : bits .xor .i64 (a : Int) (b : Int) = ((a ^^^ b : Nat) : Int) := by
  have hx : a ^^^ b < 2 ^ 20 := Nat.xor_lt_two_pow (by omega) (by omega)
  show IntKind.i64.wrap ((BitVec.ofInt 64 (a : Int) ^^^ BitVec.ofInt 64 (b : Int)).toNat : Int) = _
  rw [BitVec.toNat_xor, ofInt_u64 a (by omega), ofInt_u64 b (by omega), IntWalk.i64_in _ (by omega)]

/-- A product, bit by bit: what is left to do. -/
def mstep : Nat → Nat → Nat → Nat → Nat
  | 0, n, _, _ => n
  | k + 1, n, p, b => mstep k (n ^^^ (b % 2 * p)) ((2 * p) ^^^ (2 * p / 256 * 283)) (b / 2)
def mulN (a b : Nat) : Nat := mstep 8 0 a b
def mulB (x y : UInt8) : UInt8 := UInt8.ofNat (mulN x.toNat y.toNat)
def mRem (k n p c : Nat) : Nat := mstep (8 - k) n p c
theorem mRem_step (k n p c : Nat) (h : k < 8) : mRem k n p c = mRem (k + 1) (n ^^^ (c % 2 * p)) ((2 * p) ^^^ (2 * p / 256 * 283)) (c / 2) := by
  unfold mRem
  rw [show 8 - k = (8 - (k + 1)) + 1 by omega, mstep]
theorem mRem_end (n p c : Nat) : mRem 8 n p c = n := rfl
theorem mRem_start (a b : Nat) : mRem 0 0 a b = mulN a b := rfl
theorem red_lt (p : Nat) (h : p < 256) : (2 * p) ^^^ (2 * p / 256 * 283) < 256 := by
  have : (List.range 256).all (fun p => decide ((2 * p) ^^^ (2 * p / 256 * 283) < 256)) = true := by decide +kernel
  have h2 := List.all_eq_true.1 this p (List.mem_range.2 h)
  simpa using h2
theorem xor_lt8 {a b : Nat} (ha : a < 256) (hb : b < 256) : a ^^^ b < 256 := Nat.xor_lt_two_pow (n := 8) ha hb

set_option maxRecDepth 100000 in
set_option maxHeartbeats 1000000 in
theorem Mul_any (x y : UInt8) (w : World) :
    Calls Try.prog 19 #[.int .u8 x.toNat, .int .u8 y.toNat] w fun e w' => e = .returned (.int .u8 (mulB x y).toNat) ∧ w = w' := by
  have hx := lt8 x
  have hy := lt8 y
  have HM : Hid (mulB x y = UInt8.ofNat (mulN x.toNat y.toNat)) := rfl
  have H0 := Lib.hid (mRem_start x.toNat y.toNat)
  generalize mulN x.toNat y.toNat = M at *
  generalize x.toNat = a at *
  generalize y.toNat = b at *
  go_enter Try.func19, Try.ntmps19
  go_wp2
  go_loop [1, 5, 6, 7] (fun c n p i => ∃ kc kn kp k : Nat, k ≤ 8 ∧ kc < 256 ∧ kn < 256 ∧ kp < 256 ∧ i = .int .i64 k ∧ c = .int .u8 kc ∧ n = .int .i64 kn ∧ p = .int .i64 kp ∧ Hid (mRem k kn kp kc = M)) (fun _ _ _ i => 8 - (intOf i).toNat)
  case atStart => exact ⟨b, 0, a, 0, by omega, hy, by omega, hx, rfl, rfl, rfl, rfl, H0⟩
  case round =>
    obtain ⟨kc, kn, kp, k, hk, hc, hn, hp, rfl, rfl, rfl, rfl, HR⟩ := hrel
    by_cases hlt : k < 8
    · have HS := Lib.hid (mRem_step k kn kp kc hlt)
      have Hr := Lib.hid (red_lt kp hp)
      have Hx1 := Lib.hid (i64_xor_nat kn kp (by omega) (by omega))
      have Hx2 := Lib.hid (i64_xor_nat (2 * kp) 283 (by omega) (by omega))
      have Hnl := Lib.hid (xor_lt8 hn hp)
      by_cases h1 : kc % 2 = 1
      · have hB : ((kc : Int) % 2 == 1) = true := by simp; omega
        by_cases h2 : 256 ≤ 2 * kp
        · go_wp2
          go_round
          case rel =>
            refine ⟨kc / 2, kn ^^^ kp, (2 * kp) ^^^ 283, k + 1, by omega, by omega, Hnl.out, ?_, by go_num, by simp, by rw [Hx1.out], ?_, ?_⟩
            · have := Hr.out; rwa [show 2 * kp / 256 * 283 = 283 by omega] at this
            · rw [← Hx2.out]; simp
            · have := HS.out; rw [h1, Nat.one_mul, show 2 * kp / 256 * 283 = 283 by omega] at this; exact this.symm.trans HR.out
          case measure => simp [intOf]; omega
        · go_wp2
          go_round
          case rel =>
            refine ⟨kc / 2, kn ^^^ kp, 2 * kp, k + 1, by omega, by omega, Hnl.out, by omega, by go_num, by simp, by rw [Hx1.out], by simp, ?_⟩
            have := HS.out; rw [h1, Nat.one_mul, show 2 * kp / 256 * 283 = 0 by omega, Nat.xor_zero] at this; exact this.symm.trans HR.out
          case measure => simp [intOf]; omega
      · have hB : ((kc : Int) % 2 == 1) = false := by simp; omega
        by_cases h2 : 256 ≤ 2 * kp
        · go_wp2
          go_round
          case rel =>
            refine ⟨kc / 2, kn, (2 * kp) ^^^ 283, k + 1, by omega, by omega, hn, ?_, by go_num, by simp, rfl, ?_, ?_⟩
            · have := Hr.out; rwa [show 2 * kp / 256 * 283 = 283 by omega] at this
            · rw [← Hx2.out]; simp
            · have := HS.out; rw [show kc % 2 = 0 by omega, Nat.zero_mul, Nat.xor_zero, show 2 * kp / 256 * 283 = 283 by omega] at this; exact this.symm.trans HR.out
          case measure => simp [intOf]; omega
        · go_wp2
          go_round
          case rel =>
            refine ⟨kc / 2, kn, 2 * kp, k + 1, by omega, by omega, hn, by omega, by go_num, by simp, rfl, by simp, ?_⟩
            have := HS.out; rw [show kc % 2 = 0 by omega, Nat.zero_mul, Nat.xor_zero, show 2 * kp / 256 * 283 = 0 by omega, Nat.xor_zero] at this; exact this.symm.trans HR.out
          case measure => simp [intOf]; omega
    · obtain rfl : k = 8 := by omega
      rw [show ((8 : Nat) : Int) = 8 from rfl]
      have HE : Hid (kn = M) := (mRem_end kn kp kc).symm.trans HR.out
      go_wp2
      go_ret
      refine ⟨ret8 ?_, rfl⟩
      rw [HM.out, ← HE.out, toNat_ofNat8 hn]

theorem rotl_zero (x : UInt8) : rotl x 0 = x := by
  have := all8 (fun x => rotl x 0 == x) (by decide +kernel) x
  simpa using this
theorem rotl_step (x : UInt8) (k : Nat) (h : k < 4) : (((rotl x k).toNat : Int) * 2 % 256 + ((rotl x k).toNat : Int) / 128 % 256) % 256 = ((rotl x (k + 1)).toNat : Int) := by
  have : (List.range 4).all (fun k => (List.range 256).all fun n => decide (((rotl (UInt8.ofNat n) k).toNat * 2 % 256 + (rotl (UInt8.ofNat n) k).toNat / 128) % 256 = (rotl (UInt8.ofNat n) (k + 1)).toNat)) = true := by decide +kernel
  have h2 := List.all_eq_true.1 this k (List.mem_range.2 h)
  have h3 := List.all_eq_true.1 h2 x.toNat (List.mem_range.2 x.toNat_lt)
  simp only [UInt8.ofNat_toNat, decide_eq_true_eq] at h3
  omega

set_option maxRecDepth 100000 in
set_option maxHeartbeats 400000 in
theorem Left_any (x : UInt8) (n : Int) (h0 : 0 ≤ n) (h1 : n ≤ 4) (w : World) :
    Calls Try.prog 27 #[.int .u8 x.toNat, .int .i64 n] w fun e w' => e = .returned (.int .u8 (rotl x n.toNat).toNat) ∧ w = w' := by
  obtain ⟨m, rfl⟩ := Int.eq_ofNat_of_zero_le h0
  rw [Int.toNat_natCast]
  go_enter Try.func27, Try.ntmps27
  go_wp2
  go_loop [0, 5] (fun t i => ∃ k : Nat, k ≤ m ∧ i = .int .i64 k ∧ t = .int .u8 (rotl x k).toNat) (fun _ i => m - (intOf i).toNat)
  case atStart => exact ⟨0, by omega, rfl, by rw [rotl_zero]⟩
  case round =>
    obtain ⟨k, hk, rfl, rfl⟩ := hrel
    by_cases hlt : k < m
    · have HS := Lib.hid (rotl_step x k (by omega))
      go_wp2
      go_round
      case rel => exact ⟨k + 1, by omega, by go_num, int8 HS.out⟩
      case measure => simp [intOf]; omega
    · go_wp2
      go_ret
      obtain rfl : k = m := by omega
      exact ⟨rfl, rfl⟩
end Go.Proofs.Ytjdpfeagicchnaa
