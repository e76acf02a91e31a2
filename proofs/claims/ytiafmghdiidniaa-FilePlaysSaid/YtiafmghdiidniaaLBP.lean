/-
  THE WALK of the law's pick.
-/
import Derived.Test.YtiafmghdiidniaaLB
namespace Go.Proofs.Ytiafmghdiidniaa
open Go.RowKit Cdc Inn Fil

/-- One of n. -/
def pk (c : Int) (n : Nat) : Nat := (if c < 0 then -(c + 1) else c).toNat % n
theorem pk_lt (c : Int) (n : Nat) (h : 0 < n) : pk c n < n := Nat.mod_lt _ h

set_option maxRecDepth 100000 in
set_option maxHeartbeats 400000 in
theorem FiPick_any (c : Int) (hc : In64 c) (n : Nat) (h0 : 0 < n) (hn : n ≤ 100) (w : World) :
    Calls Try.prog 12 #[.int .i64 c, .int .i64 n] w fun e w' => e = .returned (.int .i64 (pk c n)) ∧ w' = w := by
  obtain ⟨hc1, hc2⟩ := hc
  have hP : (pk c n : Int) = (if c < 0 then -(c + 1) else c) % n := by
    unfold pk
    rw [Int.natCast_emod, Int.toNat_of_nonneg (by split <;> omega)]
  generalize pk c n = p at *
  go_enter Try.func12, Try.ntmps12
  by_cases h : c < 0
  · rw [if_pos h] at hP
    have e : -(c + 1).tmod (n : Int) = -(c + 1) % (n : Int) := by rw [← Int.neg_tmod, Int.tmod_eq_emod_of_nonneg (by omega)]
    go_wp2
    go_ret
    refine ⟨?_, rfl⟩
    rw [hP]
    rfl
  · rw [if_neg h] at hP
    go_wp2
    go_ret
    exact ⟨rfl, rfl⟩
end Go.Proofs.Ytiafmghdiidniaa
