/-
  PLAIN (no program): numbers as bytes, the key stream, what bytes are encrypted to.
-/
import Derived.Test.YtjdpfeagicchnaaEB
namespace Go.Proofs.Ytjdpfeagicchnaa
namespace Ctr
open Aes

/-- The last k bytes of a number, the most significant one first. -/
def big : Nat → Nat → List UInt8
  | 0, _ => []
  | k + 1, n => big k (n / 256) ++ [UInt8.ofNat n]
theorem big_length (k : Nat) : ∀ n, (big k n).length = k := by
  induction k with
  | zero => intro n; rfl
  | succ k ih => intro n; simp [big, ih]
theorem ofNat_congr {n m : Nat} (h : n % 256 = m % 256) : UInt8.ofNat n = UInt8.ofNat m := by
  apply UInt8.toNat_inj.1
  rw [UInt8.toNat_ofNat', UInt8.toNat_ofNat']
  exact h
theorem big_congr (k : Nat) : ∀ n m, n % 256 ^ k = m % 256 ^ k → big k n = big k m := by
  induction k with
  | zero => intro n m _; rfl
  | succ k ih =>
    intro n m h
    rw [Nat.pow_succ, Nat.mul_comm, Nat.mod_mul, Nat.mod_mul] at h
    have h1 : n % 256 = m % 256 := by omega
    have h2 : n / 256 % 256 ^ k = m / 256 % 256 ^ k := by omega
    rw [big, big, ih _ _ h2, ofNat_congr h1]

/-- A row, with n places from o on filled with a number, the last one first. -/
def put (l : List UInt8) (o : Nat) : Nat → Nat → List UInt8
  | 0, _ => l
  | k + 1, x => put (l.set (o + k) (UInt8.ofNat x)) o k (x / 256)
theorem put_mid (k : Nat) : ∀ (pre mid post : List UInt8) (x : Nat), mid.length = k → put (pre ++ mid ++ post) pre.length k x = pre ++ big k x ++ post := by
  induction k with
  | zero =>
    intro pre mid post x h
    rw [List.eq_nil_of_length_eq_zero h]
    rfl
  | succ k ih =>
    intro pre mid post x h
    have hne : mid ≠ [] := fun e => by rw [e] at h; simp at h
    have hd : mid = mid.dropLast ++ [mid.getLast hne] := (List.dropLast_concat_getLast hne).symm
    have hl : mid.dropLast.length = k := by simp [h]
    rw [hd]
    generalize mid.dropLast = m at *
    generalize mid.getLast hne = z
    have hs : (pre ++ (m ++ [z]) ++ post).set (pre.length + k) (UInt8.ofNat x) = pre ++ m ++ (UInt8.ofNat x :: post) := by
      rw [show pre ++ (m ++ [z]) ++ post = (pre ++ m) ++ (z :: post) by simp, List.set_append_right _ _ (by simp [hl]), show pre.length + k - (pre ++ m).length = 0 by simp [hl], List.set_cons_zero]
    rw [put, hs, ih pre m _ _ hl, big]
    simp

/-- Block i of the key stream. -/
def blk (key nonce : List UInt8) (i : Nat) : List UInt8 := enc key (nonce ++ big 4 i)
theorem blk_length (key nonce : List UInt8) (hk : key.length = 16) (hn : nonce.length = 12) (i : Nat) : (blk key nonce i).length = 16 :=
  enc_length key _ hk (by simp [hn, big_length])
/-- Byte j of the key stream. -/
def ksAt (key nonce : List UInt8) (j : Nat) : UInt8 := (blk key nonce (j / 16)).getD (j % 16) 0
/-- The first n bytes of the key stream. -/
def strm (key nonce : List UInt8) (n : Nat) : List UInt8 := (List.range n).map (ksAt key nonce)
theorem strm_length (key nonce : List UInt8) (n : Nat) : (strm key nonce n).length = n := by simp [strm]
theorem strm_at (key nonce : List UInt8) (n j : Nat) (h : j < n) : (strm key nonce n).getD j 0 = ksAt key nonce j := by
  simp [strm, List.getD_eq_getElem?_getD, h]
/-- What bytes are encrypted to. -/
def code (key nonce b : List UInt8) : List UInt8 := xorL b (strm key nonce b.length)
theorem code_length (key nonce b : List UInt8) : (code key nonce b).length = b.length := by simp [code, xorL, strm_length]
theorem code_at (key nonce b : List UInt8) (j : Nat) (h : j < b.length) : (code key nonce b).getD j 0 = b.getD j 0 ^^^ ksAt key nonce j := by
  rw [code, xorL_at _ _ _ h (by rw [strm_length]; exact h), strm_at _ _ _ _ h]
theorem getD_eq {a b : List UInt8} (hl : a.length = b.length) (h : ∀ j, j < a.length → a.getD j 0 = b.getD j 0) : a = b := by
  apply List.ext_getElem hl
  intro i h1 h2
  have h3 := h i h1
  simpa [List.getD_eq_getElem?_getD, h1, h2] using h3
/-- Encrypted twice: restored. -/
theorem code_code (key nonce b : List UInt8) : code key nonce (code key nonce b) = b := by
  refine getD_eq (by rw [code_length, code_length]) fun j hj => ?_
  rw [code_length, code_length] at hj
  rw [code_at _ _ _ _ (by rw [code_length]; exact hj), code_at _ _ _ _ hj, UInt8.xor_assoc, UInt8.xor_self, UInt8.xor_zero]
/-- A prefix is encrypted to the prefix. -/
theorem code_take (key nonce b : List UInt8) (n : Nat) : code key nonce (b.take n) = (code key nonce b).take n := by
  have hlt : ∀ j, j < (b.take n).length → j < n ∧ j < b.length := fun j hj => by rw [List.length_take] at hj; omega
  refine getD_eq (by simp [code_length]) fun j hj => ?_
  rw [code_length] at hj
  obtain ⟨h1, h2⟩ := hlt j hj
  have ht : ∀ l : List UInt8, (l.take n).getD j 0 = l.getD j 0 := fun l => by
    rw [List.getD_eq_getElem?_getD, List.getElem?_take, if_pos h1, List.getD_eq_getElem?_getD]
  rw [code_at _ _ _ _ hj, ht, ht, code_at _ _ _ _ h2]

/-- One block more of the key stream. -/
theorem strm_next (key nonce : List UInt8) (hk : key.length = 16) (hn : nonce.length = 12) (i : Nat) : strm key nonce (16 * (i + 1)) = strm key nonce (16 * i) ++ blk key nonce i := by
  refine getD_eq (by simp [strm_length, blk_length key nonce hk hn]; omega) fun j hj => ?_
  rw [strm_length] at hj
  rw [strm_at _ _ _ _ hj]
  rcases Nat.lt_or_ge j (16 * i) with h | h
  · rw [List.getD_eq_getElem?_getD, List.getElem?_append_left (by rw [strm_length]; exact h), ← List.getD_eq_getElem?_getD, strm_at _ _ _ _ h]
  · rw [List.getD_eq_getElem?_getD, List.getElem?_append_right (by rw [strm_length]; exact h), ← List.getD_eq_getElem?_getD, strm_length, ksAt, show j / 16 = i by omega, show j % 16 = j - 16 * i by omega]
theorem strm_take (key nonce : List UInt8) (m n : Nat) (h : n ≤ m) : (strm key nonce m).take n = strm key nonce n := by
  rw [strm, strm, ← List.map_take, List.take_range, Nat.min_eq_left h]

/-- The nonce of a block and a version. -/
def nnc (b v : Nat) : List UInt8 := big 4 b ++ big 8 v
theorem nnc_length (b v : Nat) : (nnc b v).length = 12 := by simp [nnc, big_length]
end Ctr
end Go.Proofs.Ytjdpfeagicchnaa
