/-
  PLAIN: what the law on blocks leans on: a digest's words, and blocks behind a padded message.
-/
import Derived.Test.YtdeipadgaifncaaDoorX
import Derived.Test.YtdeipadgaifncaaDoorD
namespace Go.Proofs.YtdeipadgaifncaaDoor
namespace Sha

theorem be_b4 (x : UInt32) : be (UInt8.ofNat (x.toNat / 16777216)) (UInt8.ofNat (x.toNat / 65536)) (UInt8.ofNat (x.toNat / 256)) (UInt8.ofNat x.toNat) = x := by
  apply UInt32.toNat_inj.1
  rw [be_toNat, UInt8.toNat_ofNat', UInt8.toNat_ofNat', UInt8.toNat_ofNat', UInt8.toNat_ofNat']
  have := lt32 x
  omega

theorem filled_split (x b : List UInt8) : ∃ rest, filled (x ++ b) = x ++ rest :=
  ⟨b ++ [128] ++ List.replicate ((119 - (x ++ b).length % 64) % 64) 0 ++ be8 (8 * (x ++ b).length), by rw [filled]; simp only [List.append_assoc]⟩

/-- The state behind the padded message, and the blocks behind it, lead to the sum of the whole. -/
theorem blocks_eq (a b : List UInt8) :
    run K0 (sumSt K0 a) ((filled (filled a ++ b)).drop (filled a).length) (((filled (filled a ++ b)).length - (filled a).length) / 64) = sumSt K0 (filled a ++ b) := by
  obtain ⟨rest, hr⟩ := filled_split (filled a) b
  have hm := filled_mod a
  rw [sumSt, sumSt, hr, List.drop_left, List.length_append, Nat.add_sub_cancel_left]
  have hq : (filled a).length = 64 * ((filled a).length / 64) := by omega
  rw [show ((filled a).length + rest.length) / 64 = (filled a).length / 64 + rest.length / 64 by omega, run_append K0 R0 _ _ _ _ hq]

end Sha
open Sha
theorem dig_get (s : St) (i k : Nat) (hi : i < 8) (hk : k < 4) :
    (dig s).getD (4 * i + k) 0 = [UInt8.ofNat ((s.list.getD i 0).toNat / 16777216), UInt8.ofNat ((s.list.getD i 0).toNat / 65536), UInt8.ofNat ((s.list.getD i 0).toNat / 256), UInt8.ofNat (s.list.getD i 0).toNat].getD k 0 := by
  match i, hi, k, hk with
  | 0, _, 0, _ => rfl
  | 0, _, 1, _ => rfl
  | 0, _, 2, _ => rfl
  | 0, _, 3, _ => rfl
  | 1, _, 0, _ => rfl
  | 1, _, 1, _ => rfl
  | 1, _, 2, _ => rfl
  | 1, _, 3, _ => rfl
  | 2, _, 0, _ => rfl
  | 2, _, 1, _ => rfl
  | 2, _, 2, _ => rfl
  | 2, _, 3, _ => rfl
  | 3, _, 0, _ => rfl
  | 3, _, 1, _ => rfl
  | 3, _, 2, _ => rfl
  | 3, _, 3, _ => rfl
  | 4, _, 0, _ => rfl
  | 4, _, 1, _ => rfl
  | 4, _, 2, _ => rfl
  | 4, _, 3, _ => rfl
  | 5, _, 0, _ => rfl
  | 5, _, 1, _ => rfl
  | 5, _, 2, _ => rfl
  | 5, _, 3, _ => rfl
  | 6, _, 0, _ => rfl
  | 6, _, 1, _ => rfl
  | 6, _, 2, _ => rfl
  | 6, _, 3, _ => rfl
  | 7, _, 0, _ => rfl
  | 7, _, 1, _ => rfl
  | 7, _, 2, _ => rfl
  | 7, _, 3, _ => rfl
end Go.Proofs.YtdeipadgaifncaaDoor
