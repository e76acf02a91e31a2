/-
  THE WALK of putNumber: a number's bytes, the last one first.
-/
import Derived.Test.YtjdpfeagicchnaaO
import Derived.Test.YtjdpfeagicchnaaCA
namespace Go.Proofs.Ytjdpfeagicchnaa
open Go.RowKit Ctr

def putK (l : List UInt8) (o k x : Nat) : List UInt8 := put l o k x
theorem putK_zero (l : List UInt8) (o x : Nat) : putK l o 0 x = l := rfl
theorem putK_succ (l : List UInt8) (o k x : Nat) : putK l o (k + 1) x = putK (l.set (o + k) (UInt8.ofNat x)) o k (x / 256) := rfl

set_option maxRecDepth 100000 in
set_option maxHeartbeats 400000 in
theorem putNumber_row (g o n cap x : Nat) (hx : x < 2 ^ 64) (hn : n ≤ 8) (t : TypeId) (l : List UInt8) (ho : o + n ≤ l.length) (w : World) (h : Row w g t (l.map V8)) :
    Calls Try.prog 12 #[.slice (some ⟨g, o, none⟩) n cap, .int .u64 x] w fun e w' => e = .returned (.tuple #[]) ∧ Hid (Row w' g t ((putK l o n x).map V8)) ∧ w.grownBy w' (some g) := by
  have HR := Lib.hid h
  clear h
  go_enter Try.func12, Try.ntmps12
  go_wp2
  go_loopw [1, 4] (fun y i wr => ∃ (k z : Nat) (m : List UInt8), k ≤ n ∧ i = .int .i64 ((k : Int) - 1) ∧ y = .int .u64 z ∧ z < 2 ^ 64 ∧ Hid (m.length = l.length) ∧ Hid (putK m o k z = putK l o n x) ∧ Hid (Row wr g t (m.map V8)) ∧ w.grownBy wr (some g)) (fun _ i _ => (intOf i + 1).toNat)
  case atStart => exact ⟨n, x, l, Nat.le_refl _, rfl, rfl, hx, rfl, rfl, HR, by_refl _ _⟩
  case round =>
    obtain ⟨k, z, m, hk, rfl, rfl, hz, Hml, Hput, Hrow, hgr⟩ := hrel
    clear HR
    rcases Nat.eq_zero_or_pos k with rfl | hpos
    · go_wp2
      go_end0
      rw [putK_zero] at Hput
      exact ⟨rfl, by rw [← Hput.out]; exact Hrow, hgr⟩
    · obtain ⟨j, rfl⟩ : ∃ j, k = j + 1 := ⟨k - 1, by omega⟩
      have e1 : ((j + 1 : Nat) : Int) - 1 = (j : Int) := by omega
      rw [e1]
      have c0 : wr.cell? ⟨g, o + j, none⟩ = some (.int .u8 (m.getD (o + j) 0).toNat) := by
        have := row8 Hrow.out (o + j) (by rw [Hml.out]; omega)
        exact this
      have f0 := Hrow.out.free (o + j)
      rw [putK_succ] at Hput
      generalize (m.getD (o + j) 0).toNat = y at *
      clear e1
      go_wp2
      go_roundw
      case rel =>
        refine ⟨j, z / 256, m.set (o + j) (UInt8.ofNat z), by omega, rfl, by rw [Int.natCast_ediv]; rfl, by omega, ?_, Hput, ?_, by_setCell hgr (.inl rfl) _⟩
        · show _ = _
          rw [List.length_set]; exact Hml.out
        · show Row _ _ _ _
          rw [List.map_set, byte_eq z]
          exact Hrow.out.set (o + j) _
      case measure => simp only [intOf]; omega

theorem putNumber_any (g o n cap x : Nat) (hx : x < 2 ^ 64) (hn : n ≤ 8) (t : TypeId) (pre mid post : List UInt8) (ho : pre.length = o) (hm : mid.length = n) (w : World) (h : Row w g t ((pre ++ mid ++ post).map V8)) :
    Calls Try.prog 12 #[.slice (some ⟨g, o, none⟩) n cap, .int .u64 x] w fun e w' => e = .returned (.tuple #[]) ∧ Hid (Row w' g t ((pre ++ big n x ++ post).map V8)) ∧ w.grownBy w' (some g) := by
  have := putNumber_row g o n cap x hx hn t (pre ++ mid ++ post) (by simp; omega) w h
  rw [← put_mid n pre mid post x hm, ho]
  exact this
end Go.Proofs.Ytjdpfeagicchnaa
