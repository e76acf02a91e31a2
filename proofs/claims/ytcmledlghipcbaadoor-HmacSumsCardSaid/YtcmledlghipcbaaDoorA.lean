/-
  THE WALKS of the small functions: turn, drop, wordAt, putWord (the program), Turn (the reference).
-/
import Derived.Test.YtcmledlghipcbaaDoorRows
import Derived.Test.YtcmledlghipcbaaDoorP
import Derived.Test.YtcmledlghipcbaaDoorM
import Derived.WalkKit
import Derived.WalkSpells
import Derived.WalkLawsBesides
import Derived.Deep.QuietTactic
import Derived.BigQuiet
import Derived.Lib.Hide
namespace Go.Proofs.YtcmledlghipcbaaDoor
open Go.RowKit Sha

theorem ret32 {a b : Int} (h : a = b) : Ending.returned (.int .u32 a) = .returned (.int .u32 b) := by rw [h]
theorem int32 {a b : Int} (h : a = b) : Value.int .u32 a = .int .u32 b := by rw [h]

set_option maxHeartbeats 400000 in
theorem turn_any (x : UInt32) (n : Nat) (h1 : 1 ≤ n) (h2 : n ≤ 31) (w : World) :
    Calls Tryd.prog 34 #[.int .u32 x.toNat, .int .u64 n] w fun e w' => e = .returned (.int .u32 (rot x n).toNat) ∧ w = w' := by
  go_enter Tryd.func34, Tryd.ntmps34
  go_wp2
  go_ret
  exact ⟨ret32 (turn_eq x n h2 h1), rfl⟩

set_option maxHeartbeats 400000 in
theorem drop_any (x : UInt32) (n : Nat) (h1 : 1 ≤ n) (h2 : n ≤ 31) (w : World) :
    Calls Tryd.prog 37 #[.int .u32 x.toNat, .int .u64 n] w fun e w' => e = .returned (.int .u32 (shr x n).toNat) ∧ w = w' := by
  go_enter Tryd.func37, Tryd.ntmps37
  go_wp2
  go_ret
  exact ⟨ret32 (by rw [shr_toNat, Int.natCast_ediv, Int.natCast_pow]; rfl), rfl⟩

theorem turn_same (x : UInt32) (n : Int) (h1 : 1 ≤ n) (h2 : n ≤ 31) (w : World) :
    Calls Tryd.prog 34 #[.int .u32 x.toNat, .int .u64 n] w fun e w' => e = .returned (.int .u32 (rot x n.toNat).toNat) ∧ w' = w := by
  obtain ⟨k, rfl⟩ := Int.eq_ofNat_of_zero_le (by omega : 0 ≤ n)
  rw [Int.toNat_natCast]
  exact (turn_any x k (by omega) (by omega) w).mono fun _ _ h => ⟨h.1, h.2.symm⟩
theorem drop_same (x : UInt32) (n : Int) (h1 : 1 ≤ n) (h2 : n ≤ 31) (w : World) :
    Calls Tryd.prog 37 #[.int .u32 x.toNat, .int .u64 n] w fun e w' => e = .returned (.int .u32 (shr x n.toNat).toNat) ∧ w' = w := by
  obtain ⟨k, rfl⟩ := Int.eq_ofNat_of_zero_le (by omega : 0 ≤ n)
  rw [Int.toNat_natCast]
  exact (drop_any x k (by omega) (by omega) w).mono fun _ _ h => ⟨h.1, h.2.symm⟩

set_option maxHeartbeats 400000 in
theorem Turn_any (x : UInt32) (n : Nat) (h1 : n ≤ 31) (w : World) :
    Calls Tryd.prog 27 #[.int .u32 x.toNat, .int .i64 n] w fun e w' => e = .returned (.int .u32 (rot x n).toNat) ∧ w = w' := by
  go_enter Tryd.func27, Tryd.ntmps27
  go_wp2
  go_loop [0, 5] (fun t i => ∃ k : Nat, k ≤ n ∧ i = .int .i64 k ∧ t = .int .u32 (rot x k).toNat) (fun _ i => n - (intOf i).toNat)
  case atStart => exact ⟨0, by omega, rfl, by rw [rot_zero]⟩
  case round =>
    obtain ⟨k, hk, rfl, rfl⟩ := hrel
    by_cases hlt : k < n
    · go_wp2
      go_round
      case rel => exact ⟨k + 1, by omega, by go_num, int32 (rot_succ x k (by omega))⟩
      case measure => simp [intOf]; omega
    · go_wp2
      go_ret
      obtain rfl : k = n := by omega
      exact ⟨rfl, rfl⟩

theorem Turn_same (x : UInt32) (n : Int) (h0 : 0 ≤ n) (h1 : n ≤ 31) (w : World) :
    Calls Tryd.prog 27 #[.int .u32 x.toNat, .int .i64 n] w fun e w' => e = .returned (.int .u32 (rot x n.toNat).toNat) ∧ w' = w := by
  obtain ⟨k, rfl⟩ := Int.eq_ofNat_of_zero_le h0
  rw [Int.toNat_natCast]
  exact (Turn_any x k (by omega) w).mono fun _ _ h => ⟨h.1, h.2.symm⟩

/-- Bytes and words as cells. -/
def V8 (x : UInt8) : Value := .int .u8 x.toNat
def V32 (x : UInt32) : Value := .int .u32 x.toNat

theorem at8 {w : World} {b off : Nat} {bs : List UInt8} (h : Sees w b off (bs.map V8)) (i : Nat) (hi : i < bs.length) : w.cell? ⟨b, off + i, none⟩ = some (.int .u8 (bs.getD i 0).toNat) :=
  h.at_ (by rw [List.getElem?_map, List.getElem?_eq_getElem hi]; simp [V8, hi])
theorem at32 {w : World} {b off : Nat} {bs : List UInt32} (h : Sees w b off (bs.map V32)) (i : Nat) (hi : i < bs.length) : w.cell? ⟨b, off + i, none⟩ = some (.int .u32 (bs.getD i 0).toNat) :=
  h.at_ (by rw [List.getElem?_map, List.getElem?_eq_getElem hi]; simp [V32, hi])
theorem cell32 {w : World} {g : Nat} {t : TypeId} {bs : List UInt32} (h : Row w g t (bs.map V32)) (i : Nat) (hi : i < bs.length) : w.cell? ⟨g, i, none⟩ = some (.int .u32 (bs.getD i 0).toNat) := by
  rw [h.cell, List.getElem?_map, List.getElem?_eq_getElem hi]; simp [V32, hi]

theorem one32 (l : List UInt32) : ((l.map V32).toArray).all (·.oneCell') = true := by
  rw [Array.all_eq_true_iff_forall_mem]
  intro u hu
  obtain ⟨x, _, rfl⟩ := List.mem_map.1 (by simpa using hu)
  rfl
theorem one8 (l : List UInt8) : ((l.map V8).toArray).all (·.oneCell') = true := by
  rw [Array.all_eq_true_iff_forall_mem]
  intro u hu
  obtain ⟨x, _, rfl⟩ := List.mem_map.1 (by simpa using hu)
  rfl

set_option maxHeartbeats 400000 in
theorem wordAt_cells (b off len cap : Nat) (i : Nat) (x0 x1 x2 x3 : UInt8) (hi : i + 4 ≤ len) (hl : len ≤ 1000000) (w : World)
    (c0 : w.cell? ⟨b, off + i, none⟩ = some (.int .u8 x0.toNat)) (c1 : w.cell? ⟨b, off + (i + 1), none⟩ = some (.int .u8 x1.toNat))
    (c2 : w.cell? ⟨b, off + (i + 2), none⟩ = some (.int .u8 x2.toNat)) (c3 : w.cell? ⟨b, off + (i + 3), none⟩ = some (.int .u8 x3.toNat)) :
    Calls Tryd.prog 36 #[.slice (some ⟨b, off, none⟩) len cap, .int .i64 i] w fun e w' => e = .returned (.int .u32 (be x0 x1 x2 x3).toNat) ∧ ∃ n, w' = w.drewN n := by
  go_enter Tryd.func36, Tryd.ntmps36
  go_wp2
  go_quiet (fail)
  go_wp2
  go_ret
  exact ⟨ret32 (wordAt_eq x0 x1 x2 x3), _, rfl⟩

theorem wordAt_any (b off len cap : Nat) (bs : List UInt8) (i : Int) (k : Nat) (hk : i = ((4 * k : Nat) : Int)) (hi : 4 * k + 4 ≤ len) (hbs : bs.length = len) (hl : len ≤ 1000000) (w : World) (h : Sees w b off (bs.map V8)) :
    Calls Tryd.prog 36 #[.slice (some ⟨b, off, none⟩) len cap, .int .i64 i] w fun e w' => e = .returned (.int .u32 (be (bs.getD (4 * k) 0) (bs.getD (4 * k + 1) 0) (bs.getD (4 * k + 2) 0) (bs.getD (4 * k + 3) 0)).toNat) ∧ ∃ n, w' = w.drewN n := by
  subst hk
  exact wordAt_cells b off len cap (4 * k) _ _ _ _ hi hl w (at8 h _ (by omega)) (at8 h _ (by omega)) (at8 h _ (by omega)) (at8 h _ (by omega))

end Go.Proofs.YtcmledlghipcbaaDoor
