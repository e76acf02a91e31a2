/-
  PLAIN, AND JUNCTION: the words of chapter 7 (keys, closed blocks, tags, numbers of bytes); what the texts of sha256 and hmac (namespace Hm) say, said with O's words.
-/
import Derived.Test.YtfodblgoamkgmaaDoorHmTI
import Derived.Test.YtfodblgoamkgmaaDoorHmTK
import Derived.Test.YtfodblgoamkgmaaDoorCE
namespace Go.Proofs.YtfodblgoamkgmaaDoor
open Aes Ctr Go.RowKit
theorem hm_arg {w : World} {v : Value} {bs : List UInt8} : Hm.Arg w v bs ↔ Arg w v bs := Iff.rfl
theorem hm_vec {n : Nat} {bs : List UInt8} {rs : List Value} : Hm.Vec n bs rs ↔ Vec n bs rs := Iff.rfl
theorem hm_own {w : World} {B : Nat} {e : TypeId} {v : Value} {ys : List Value} : Hm.Own w B e v ys ↔ Own w B e v ys := Iff.rfl
theorem hm_sees {w : World} {b o : Nat} {ys : List Value} : Hm.Sees w b o ys ↔ Sees w b o ys := Iff.rfl
theorem hm_V8 (x : UInt8) : Hm.V8 x = V8 x := rfl

namespace Sl
/-- The number of a block, as 8 bytes hold it. -/
def nm (d : Int) : Nat := (d % 18446744073709551616).toNat
theorem nm_int (d : Int) : ((nm d : Nat) : Int) = d % 18446744073709551616 := by unfold nm; omega
theorem nm_lt (d : Int) : nm d < 2 ^ 64 := by unfold nm; omega
/-- The number that bytes hold, the most significant one first. -/
def num (l : List UInt8) : Nat := l.foldl (fun a x => a * 256 + x.toNat) 0
theorem num_snoc (l : List UInt8) (x : UInt8) : num (l ++ [x]) = num l * 256 + x.toNat := by simp [num, List.foldl_append]
theorem num_take (l : List UInt8) (j : Nat) (h : j < l.length) : num (l.take (j + 1)) = num (l.take j) * 256 + (l.getD j 0).toNat := by
  rw [List.take_succ_eq_append_getElem h, num_snoc, List.getD_eq_getElem?_getD, List.getElem?_eq_getElem h]
  rfl
theorem num_lt (l : List UInt8) : ∀ k, l.length ≤ k → num l < 256 ^ k := by
  intro k h
  have key : ∀ j, j ≤ l.length → num (l.take j) < 256 ^ j := by
    intro j
    induction j with
    | zero => intro _; simp [num]
    | succ j ih =>
      intro hj
      have h1 := ih (by omega)
      rw [num_take l j (by omega), Nat.pow_succ]
      have := (l.getD j 0).toNat_lt
      omega
  have h1 := key l.length (Nat.le_refl _)
  rw [List.take_length] at h1
  exact Nat.lt_of_lt_of_le h1 (Nat.pow_le_pow_right (by omega) h)
theorem num_big (k : Nat) : ∀ n, n < 256 ^ k → num (big k n) = n := by
  induction k with
  | zero => intro n h; simp at h; simp [big, num, h]
  | succ k ih =>
    intro n h
    rw [Nat.pow_succ] at h
    rw [big, num_snoc, ih (n / 256) (by omega), UInt8.toNat_ofNat']
    omega
theorem big_num (k : Nat) : ∀ l : List UInt8, l.length = k → big k (num l) = l := by
  induction k with
  | zero => intro l h; rw [List.eq_nil_of_length_eq_zero h]; rfl
  | succ k ih =>
    intro l h
    have hne : l ≠ [] := fun e => by rw [e] at h; simp at h
    have hd : l = l.dropLast ++ [l.getLast hne] := (List.dropLast_concat_getLast hne).symm
    have hl : l.dropLast.length = k := by simp [h]
    rw [hd]
    generalize l.dropLast = m at *
    generalize l.getLast hne = z
    have hz := z.toNat_lt
    rw [num_snoc, big, show (num m * 256 + z.toNat) / 256 = num m by omega, ih m hl]
    congr 2
    apply UInt8.toNat_inj.1
    rw [UInt8.toNat_ofNat']
    omega

def leafW : List UInt8 := [108, 101, 97, 102]
def encW : List UInt8 := [101, 110, 99]
def macW : List UInt8 := [109, 97, 99]
/-- The keys of some bytes. -/
def encK (s : List UInt8) : List UInt8 := (Hm.mac s (Hm.joined [encW])).take 16
def macK (s : List UInt8) : List UInt8 := Hm.mac s (Hm.joined [macW])
theorem encK_length (s : List UInt8) : (encK s).length = 16 := by rw [encK, List.length_take, Hm.mac_length]; rfl
theorem macK_length (s : List UInt8) : (macK s).length = 32 := Hm.mac_length _ _
/-- The tag of a number and some bytes. -/
def tg (mk : List UInt8) (b : Nat) (raw : List UInt8) : List UInt8 := Hm.mac mk (Hm.joined [leafW, big 4 b, raw])
theorem tg_length (mk : List UInt8) (b : Nat) (raw : List UInt8) : (tg mk b raw).length = 32 := Hm.mac_length _ _
/-- A block that is closed. -/
def rw_ (ek : List UInt8) (b v : Nat) (plain : List UInt8) : List UInt8 := big 8 v ++ code ek (nnc b v) plain
theorem rw_length (ek : List UInt8) (b v : Nat) (plain : List UInt8) : (rw_ ek b v plain).length = 8 + plain.length := by rw [rw_, List.length_append, big_length, code_length]
/-- The version, and the block, that bytes hold. -/
def ver (raw : List UInt8) : Nat := num (raw.take 8)
def pl (ek : List UInt8) (b : Nat) (raw : List UInt8) : List UInt8 := code ek (nnc b (ver raw)) (raw.drop 8)
theorem ver_lt (raw : List UInt8) : ver raw < 2 ^ 64 := by
  have := num_lt (raw.take 8) 8 (by rw [List.length_take]; omega)
  have e : (256 : Nat) ^ 8 = 2 ^ 64 := by decide
  unfold ver
  omega
theorem ver_rw (ek : List UInt8) (b v : Nat) (hv : v < 2 ^ 64) (plain : List UInt8) : ver (rw_ ek b v plain) = v := by
  have e : (256 : Nat) ^ 8 = 2 ^ 64 := by decide
  rw [ver, rw_, List.take_append_of_le_length (by rw [big_length]; omega), List.take_of_length_le (by rw [big_length]; omega), num_big 8 v (by omega)]
theorem pl_rw (ek : List UInt8) (b v : Nat) (hv : v < 2 ^ 64) (plain : List UInt8) : pl ek b (rw_ ek b v plain) = plain := by
  rw [pl, ver_rw ek b v hv, rw_, List.drop_append_of_le_length (by rw [big_length]; omega), List.drop_eq_nil_of_le (by rw [big_length]; omega), List.nil_append, code_code]
theorem pl_length (ek : List UInt8) (b : Nat) (raw : List UInt8) : (pl ek b raw).length = raw.length - 8 := by rw [pl, code_length, List.length_drop]
theorem small3 (b : Nat) (raw : List UInt8) (h : raw.length ≤ 1000) : Hm.Small [leafW, big 4 b, raw] := by
  refine ⟨by simp, fun p hp => ?_⟩
  simp only [List.mem_cons, List.not_mem_nil, or_false] at hp
  rcases hp with rfl | rfl | rfl
  · decide
  · rw [big_length]; omega
  · exact h
theorem smallE : Hm.Small [encW] := ⟨by simp, by decide⟩
theorem smallM : Hm.Small [macW] := ⟨by simp, by decide⟩
theorem nnc_low (d : Int) (D4 u : Nat) (hD4 : (D4 : Int) = d % 4294967296) : nnc D4 u = nnc (nm d) u := by
  have hD := nm_int d
  unfold nnc
  rw [big_congr 4 D4 (nm d) (by have : (256 : Nat) ^ 4 = 4294967296 := by decide
                                rw [this]; omega)]
end Sl
end Go.Proofs.YtfodblgoamkgmaaDoor
