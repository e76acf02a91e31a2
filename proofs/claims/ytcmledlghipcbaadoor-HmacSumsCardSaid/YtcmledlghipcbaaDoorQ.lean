/-
  PLAIN: the padded message, and blocks one behind the other.
-/
import Derived.Test.YtcmledlghipcbaaDoorP
namespace Go.Proofs.YtcmledlghipcbaaDoor
namespace Sha

/-- A number as 8 bytes, the most significant one first. -/
def be8 (L : Nat) : List UInt8 := [UInt8.ofNat (L / 256 ^ 7), UInt8.ofNat (L / 256 ^ 6), UInt8.ofNat (L / 256 ^ 5), UInt8.ofNat (L / 256 ^ 4), UInt8.ofNat (L / 256 ^ 3), UInt8.ofNat (L / 256 ^ 2), UInt8.ofNat (L / 256), UInt8.ofNat L]
/-- The padded message. -/
def filled (b : List UInt8) : List UInt8 := b ++ [128] ++ List.replicate ((119 - b.length % 64) % 64) 0 ++ be8 (8 * b.length)
theorem filled_length (b : List UInt8) : (filled b).length = b.length + 1 + (119 - b.length % 64) % 64 + 8 := by simp [filled, be8]; omega
theorem filled_mod (b : List UInt8) : (filled b).length % 64 = 0 := by rw [filled_length]; omega

/-- The size of the padded end. -/
def sizeOf_ (n : Nat) : Nat := if 64 < n + 1 + 8 then 128 else 64
/-- j of the 8 bytes of the length laid into a row. -/
def lays (row : List UInt8) (size L : Nat) : Nat → List UInt8
  | 0 => row
  | j + 1 => (lays row size L j).set (size - (j + 1)) (UInt8.ofNat (L / 256 ^ j))
theorem lays_length (row : List UInt8) (size L j : Nat) : (lays row size L j).length = row.length := by
  induction j with
  | zero => rfl
  | succ j ih => simp [lays, ih]

theorem set_mid (A X : List UInt8) (i k : Nat) (v : UInt8) (h : i = A.length + k) : (A ++ X).set i v = A ++ X.set k v := by
  subst h
  rw [List.set_append_right _ _ (by omega), Nat.add_sub_cancel_left]

theorem lays_all (A B : List UInt8) (size L : Nat) (h : A.length + 8 = size) :
    lays (A ++ ([0, 0, 0, 0, 0, 0, 0, 0] ++ B)) size L 8 = A ++ (be8 L ++ B) := by
  simp only [lays]
  rw [set_mid A _ _ 7 _ (by omega), set_mid A _ _ 6 _ (by omega), set_mid A _ _ 5 _ (by omega), set_mid A _ _ 4 _ (by omega), set_mid A _ _ 3 _ (by omega), set_mid A _ _ 2 _ (by omega), set_mid A _ _ 1 _ (by omega), set_mid A _ _ 0 _ (by omega)]
  simp [be8]

/-- The 128 bytes of the padded end. -/
def ended (rest : List UInt8) (total : Nat) : List UInt8 := lays (pad8 128 (rest ++ [128])) (sizeOf_ rest.length) (8 * total) 8
theorem ended_length (rest : List UInt8) (total : Nat) (h : rest.length < 64) : (ended rest total).length = 128 := by
  rw [ended, lays_length, pad8_length]; simp; omega

theorem pad8_split (l : List UInt8) (m : Nat) (hl : l.length ≤ m) (hm : m + 8 ≤ 128) : pad8 128 l = pad8 m l ++ ([0, 0, 0, 0, 0, 0, 0, 0] ++ List.replicate (120 - m) 0) := by
  have e8 : ([0, 0, 0, 0, 0, 0, 0, 0] : List UInt8) = List.replicate 8 0 := rfl
  rw [e8, pad8, pad8, List.append_assoc, ← List.append_assoc (List.replicate _ _), List.replicate_append_replicate, List.replicate_append_replicate]
  congr 2
  omega

theorem ended_take (rest : List UInt8) (total : Nat) (h : rest.length < 64) :
    (ended rest total).take (sizeOf_ rest.length) = rest ++ [128] ++ List.replicate ((119 - rest.length) % 64) 0 ++ be8 (8 * total) := by
  have hs : sizeOf_ rest.length = 64 ∧ rest.length ≤ 55 ∨ sizeOf_ rest.length = 128 ∧ 55 < rest.length := by
    unfold sizeOf_; split
    · right; omega
    · left; omega
  have key : ∀ m, rest.length + 1 ≤ m → m + 8 ≤ 128 → m - (rest.length + 1) = (119 - rest.length) % 64 → sizeOf_ rest.length = m + 8 →
      (ended rest total).take (sizeOf_ rest.length) = rest ++ [128] ++ List.replicate ((119 - rest.length) % 64) 0 ++ be8 (8 * total) := by
    intro m h1 h2 h3 h4
    rw [ended, h4, pad8_split _ m (by simp; omega) h2, lays_all _ _ _ _ (by rw [pad8_length _ _ (by simp; omega)])]
    rw [← List.append_assoc, List.take_append_of_le_length (by rw [List.length_append, pad8_length _ _ (by simp; omega)]; simp [be8])]
    rw [List.take_of_length_le (by rw [List.length_append, pad8_length _ _ (by simp; omega)]; simp [be8])]
    rw [pad8]
    simp only [List.length_append, List.length_cons, List.length_nil, Nat.zero_add]
    rw [h3]
  rcases hs with ⟨e, hl⟩ | ⟨e, hl⟩
  · exact key 56 (by omega) (by omega) (by omega) (by rw [e])
  · exact key 120 (by omega) (by omega) (by omega) (by rw [e])

theorem run_prefix (c : List UInt32) (s : St) (x y : List UInt8) (q : Nat) (h : 64 * q ≤ x.length) : run c s (x ++ y) q = run c s x q := by
  induction q with
  | zero => rfl
  | succ q ih =>
    rw [run, run, ih (by omega), List.drop_append_of_le_length (by omega), List.take_append_of_le_length (by simp; omega)]
theorem run_append (c : List UInt32) (s : St) (x y : List UInt8) (q j : Nat) (h : x.length = 64 * q) : run c s (x ++ y) (q + j) = run c (run c s x q) y j := by
  induction j with
  | zero => rw [Nat.add_zero, run_prefix c s x y q (by omega)]; rfl
  | succ j ih =>
    rw [← Nat.add_assoc, run, ih, run]
    congr 2
    rw [Nat.mul_add, ← h, List.drop_append]
    rw [List.drop_of_length_le (by omega), List.nil_append]
    congr 1
    omega

/-- The state behind all blocks of the padded message. -/
def sumSt (c : List UInt32) (b : List UInt8) : St := run c R0 (filled b) ((filled b).length / 64)

/-- What eachBlock does, block by block, is what the padded message leads to. -/
theorem sum_split (c : List UInt32) (b : List UInt8) :
    run c (run c R0 b (b.length / 64)) (ended (b.drop (64 * (b.length / 64))) b.length) (sizeOf_ (b.length % 64) / 64) = sumSt c b := by
  have hr : (b.drop (64 * (b.length / 64))).length = b.length % 64 := by rw [List.length_drop]; omega
  have ht := ended_take (b.drop (64 * (b.length / 64))) b.length (by rw [hr]; omega)
  rw [hr] at ht
  have hf : filled b = b.take (64 * (b.length / 64)) ++ (ended (b.drop (64 * (b.length / 64))) b.length).take (sizeOf_ (b.length % 64)) := by
    rw [ht, filled]
    simp only [← List.append_assoc, List.take_append_drop]
  have hq : (b.take (64 * (b.length / 64))).length = 64 * (b.length / 64) := by rw [List.length_take]; omega
  have hsz : sizeOf_ (b.length % 64) = 64 ∨ sizeOf_ (b.length % 64) = 128 := by unfold sizeOf_; split <;> omega
  have hel : (ended (b.drop (64 * (b.length / 64))) b.length).length = 128 := ended_length _ _ (by rw [hr]; omega)
  have hd : (filled b).length / 64 = b.length / 64 + sizeOf_ (b.length % 64) / 64 := by
    rw [hf, List.length_append, hq, List.length_take, hel]
    rcases hsz with e | e <;> rw [e] <;> omega
  rw [sumSt, hd, hf, run_append c R0 _ _ _ _ hq]
  have e1 : run c R0 (b.take (64 * (b.length / 64))) (b.length / 64) = run c R0 b (b.length / 64) := by
    rw [← run_prefix c R0 _ (b.drop (64 * (b.length / 64))) _ (by omega), List.take_append_drop]
  rw [e1]
  have e2 := run_prefix c (run c R0 b (b.length / 64)) ((ended (b.drop (64 * (b.length / 64))) b.length).take (sizeOf_ (b.length % 64))) ((ended (b.drop (64 * (b.length / 64))) b.length).drop (sizeOf_ (b.length % 64))) (sizeOf_ (b.length % 64) / 64)
    (by rw [List.length_take, hel]; rcases hsz with e | e <;> rw [e] <;> omega)
  rw [← e2, List.take_append_drop]

end Sha
end Go.Proofs.YtcmledlghipcbaaDoor
