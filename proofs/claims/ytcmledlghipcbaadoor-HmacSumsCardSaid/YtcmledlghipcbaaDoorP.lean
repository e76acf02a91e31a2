/-
  PLAIN (no program): the words and functions of chapter 1 as Lean functions on UInt8 and UInt32, and the arithmetic that ties the walk's integers to them.
-/
import Derived.Laws.BitsAllLaws
import Derived.Below
namespace Go.Proofs.YtcmledlghipcbaaDoor
namespace Sha

/-- A word, turned to the right by n bits. -/
def rot (x : UInt32) (n : Nat) : UInt32 := UInt32.ofNat (x.toNat / 2 ^ n + x.toNat % 2 ^ n * 2 ^ (32 - n))
/-- A word, shifted to the right by n bits. -/
def shr (x : UInt32) (n : Nat) : UInt32 := UInt32.ofNat (x.toNat / 2 ^ n)
/-- Four bytes, the most significant one first. -/
def be (a b c d : UInt8) : UInt32 := UInt32.ofNat (a.toNat * 16777216 + b.toNat * 65536 + c.toNat * 256 + d.toNat)

theorem lt32 (x : UInt32) : x.toNat < 4294967296 := x.toNat_lt
theorem lt8 (x : UInt8) : x.toNat < 256 := x.toNat_lt
theorem toNat_ofNat32 {n : Nat} (h : n < 4294967296) : (UInt32.ofNat n).toNat = n := by
  rw [UInt32.toNat_ofNat']; exact Nat.mod_eq_of_lt h
theorem toNat_ofNat8 {n : Nat} (h : n < 256) : (UInt8.ofNat n).toNat = n := by
  rw [UInt8.toNat_ofNat']; exact Nat.mod_eq_of_lt h

theorem add32 (x y : UInt32) : ((x.toNat : Int) + y.toNat) % 4294967296 = ((x + y).toNat : Int) := by
  rw [UInt32.toNat_add]; omega
theorem xor32 (x y : UInt32) : bits .xor .u32 (x.toNat : Int) y.toNat = ((x ^^^ y).toNat : Int) := by
  rw [u32_xor_nat _ _ (lt32 x) (lt32 y), UInt32.toNat_xor]
theorem and32 (x y : UInt32) : bits .and .u32 (x.toNat : Int) y.toNat = ((x &&& y).toNat : Int) := by
  rw [u32_and_nat _ _ (lt32 x) (lt32 y), UInt32.toNat_and]
theorem or32 (x y : UInt32) : bits .or .u32 (x.toNat : Int) y.toNat = ((x ||| y).toNat : Int) := by
  rw [u32_or_nat _ _ (lt32 x) (lt32 y), UInt32.toNat_or]

theorem rot_lt (x n : Nat) (hx : x < 4294967296) (h : n ≤ 32) : x / 2 ^ n + x % 2 ^ n * 2 ^ (32 - n) < 4294967296 := by
  have h32 : (4294967296 : Nat) = 2 ^ (32 - n) * 2 ^ n := by rw [← Nat.pow_add, show 32 - n + n = 32 by omega]
  have hp : 0 < 2 ^ n := Nat.two_pow_pos n
  have h1 : x / 2 ^ n < 2 ^ (32 - n) := by rw [Nat.div_lt_iff_lt_mul hp, ← h32]; exact hx
  have h2 : x % 2 ^ n < 2 ^ n := Nat.mod_lt _ hp
  have h3 : x % 2 ^ n * 2 ^ (32 - n) + 2 ^ (32 - n) ≤ 2 ^ n * 2 ^ (32 - n) := by
    rw [← Nat.succ_mul]; exact Nat.mul_le_mul_right _ h2
  rw [Nat.mul_comm (2 ^ n)] at h3
  omega
theorem rot_toNat (x : UInt32) {n : Nat} (h : n ≤ 32) : (rot x n).toNat = x.toNat / 2 ^ n + x.toNat % 2 ^ n * 2 ^ (32 - n) :=
  toNat_ofNat32 (rot_lt _ _ (lt32 x) h)
theorem shr_toNat (x : UInt32) (n : Nat) : (shr x n).toNat = x.toNat / 2 ^ n :=
  toNat_ofNat32 (Nat.lt_of_le_of_lt (Nat.div_le_self _ _) (lt32 x))
theorem be_toNat (a b c d : UInt8) : (be a b c d).toNat = a.toNat * 16777216 + b.toNat * 65536 + c.toNat * 256 + d.toNat :=
  toNat_ofNat32 (by have := lt8 a; have := lt8 b; have := lt8 c; have := lt8 d; omega)

/-- What the program's turn comes to. -/
theorem turn_eq (x : UInt32) (n : Nat) (h : n ≤ 31) (h1 : 1 ≤ n) :
    bits .or .u32 ((x.toNat : Int) / 2 ^ n) ((x.toNat : Int) * 2 ^ (32 - n) % 4294967296) = ((rot x n).toNat : Int) := by
  have hx := lt32 x
  have h32 : (4294967296 : Nat) = 2 ^ n * 2 ^ (32 - n) := by rw [← Nat.pow_add, show n + (32 - n) = 32 by omega]
  have hp : 0 < 2 ^ n := Nat.two_pow_pos n
  have e1 : ((x.toNat : Int) / 2 ^ n) = ((x.toNat / 2 ^ n : Nat) : Int) := by
    rw [Int.natCast_ediv, Int.natCast_pow]; rfl
  have e2 : ((x.toNat : Int) * 2 ^ (32 - n) % 4294967296) = ((x.toNat % 2 ^ n * 2 ^ (32 - n) : Nat) : Int) := by
    have : x.toNat % 2 ^ n * 2 ^ (32 - n) = x.toNat * 2 ^ (32 - n) % 4294967296 := by
      rw [h32, ← Nat.mul_mod_mul_right]
    rw [this, Int.natCast_emod, Int.natCast_mul, Int.natCast_pow]; rfl
  have hlt := rot_lt x.toNat n hx (by omega)
  have hq : x.toNat / 2 ^ n < 2 ^ (32 - n) := by
    rw [Nat.div_lt_iff_lt_mul hp, Nat.mul_comm, ← h32]; exact hx
  rw [e1, e2, u32_or_nat _ _ (by omega) (by omega), rot_toNat x (by omega), Nat.or_comm,
    nat_join (32 - n) _ _ (Nat.mul_mod_left _ _) hq, Nat.add_comm]

/-- One step of the reference's Turn. -/
theorem rot_zero (x : UInt32) : rot x 0 = x := by
  unfold rot; simp [Nat.mod_one]
theorem rot_succ_nat (x n : Nat) (h : n + 1 ≤ 32) :
    (x / 2 ^ n + x % 2 ^ n * 2 ^ (32 - n)) / 2 + (x / 2 ^ n + x % 2 ^ n * 2 ^ (32 - n)) % 2 * 2147483648 = x / 2 ^ (n + 1) + x % 2 ^ (n + 1) * 2 ^ (32 - (n + 1)) := by
  have e : 2 ^ (32 - n) = 2 * 2 ^ (32 - (n + 1)) := by rw [← Nat.pow_succ']; congr 1; omega
  have e3 : 2 ^ n * 2 ^ (32 - (n + 1)) = 2147483648 := by rw [← Nat.pow_add, show n + (32 - (n + 1)) = 31 by omega]
  have e4 : x / 2 ^ (n + 1) = x / 2 ^ n / 2 := by rw [Nat.pow_succ, Nat.div_div_eq_div_mul]
  have e5 : x % 2 ^ (n + 1) = x % 2 ^ n + 2 ^ n * (x / 2 ^ n % 2) := by rw [Nat.pow_succ, Nat.mod_mul]
  rw [e, e4, e5, Nat.add_mul, Nat.mul_right_comm (2 ^ n), e3]
  generalize x / 2 ^ n = q
  rw [show x % 2 ^ n * (2 * 2 ^ (32 - (n + 1))) = 2 * (x % 2 ^ n * 2 ^ (32 - (n + 1))) by rw [Nat.mul_left_comm]]
  generalize x % 2 ^ n * 2 ^ (32 - (n + 1)) = p
  omega
theorem rot_succ (x : UInt32) (n : Nat) (h : n + 1 ≤ 32) :
    (((rot x n).toNat : Int) / 2 % 4294967296 + ((rot x n).toNat : Int) % 2 * 2147483648) % 4294967296 = ((rot x (n + 1)).toNat : Int) := by
  have hl := rot_lt x.toNat (n + 1) (lt32 x) h
  have hs := rot_succ_nat x.toNat n h
  have hl2 := rot_lt x.toNat n (lt32 x) (by omega)
  rw [rot_toNat x h, rot_toNat x (by omega : n ≤ 32)]
  rw [← hs] at hl ⊢
  generalize x.toNat / 2 ^ n + x.toNat % 2 ^ n * 2 ^ (32 - n) = y at *
  omega

/-- wordAt's four bytes. -/
theorem wordAt_eq (a b c d : UInt8) :
    bits .or .u32 (bits .or .u32 (bits .or .u32 ((a.toNat : Int) % 4294967296 * 16777216 % 4294967296) ((b.toNat : Int) % 4294967296 * 65536 % 4294967296)) ((c.toNat : Int) % 4294967296 * 256 % 4294967296)) ((d.toNat : Int) % 4294967296) = ((be a b c d).toNat : Int) := by
  have ha := lt8 a; have hb := lt8 b; have hc := lt8 c; have hd := lt8 d
  rw [be_toNat]
  rw [show ((a.toNat : Int) % 4294967296 * 16777216 % 4294967296) = ((a.toNat * 16777216 : Nat) : Int) by omega,
    show ((b.toNat : Int) % 4294967296 * 65536 % 4294967296) = ((b.toNat * 65536 : Nat) : Int) by omega,
    show ((c.toNat : Int) % 4294967296 * 256 % 4294967296) = ((c.toNat * 256 : Nat) : Int) by omega,
    show ((d.toNat : Int) % 4294967296) = ((d.toNat : Nat) : Int) by omega]
  rw [u32_or_nat _ _ (by omega) (by omega), nat_join 24 _ _ (by omega) (by omega)]
  rw [u32_or_nat _ _ (by omega) (by omega), nat_join 16 _ _ (by omega) (by omega)]
  rw [u32_or_nat _ _ (by omega) (by omega), nat_join 8 _ _ (by omega) (by omega)]

/-- The eight words. -/
structure St where
  a : UInt32
  b : UInt32
  c : UInt32
  d : UInt32
  e : UInt32
  f : UInt32
  g : UInt32
  h : UInt32

def St.list (s : St) : List UInt32 := [s.a, s.b, s.c, s.d, s.e, s.f, s.g, s.h]
def St.plus (s t : St) : St := ⟨s.a + t.a, s.b + t.b, s.c + t.c, s.d + t.d, s.e + t.e, s.f + t.f, s.g + t.g, s.h + t.h⟩

def one (s : St) (c m : UInt32) : UInt32 := s.h + (rot s.e 6 ^^^ rot s.e 11 ^^^ rot s.e 25) + ((s.e &&& s.f) ^^^ (~~~s.e &&& s.g)) + c + m
def two (s : St) : UInt32 := (rot s.a 2 ^^^ rot s.a 13 ^^^ rot s.a 22) + ((s.a &&& s.b) ^^^ (s.a &&& s.c) ^^^ (s.b &&& s.c))
/-- One of the 64 steps. -/
def rnd (s : St) (c m : UInt32) : St := ⟨one s c m + two s, s.a, s.b, s.c, s.d + one s c m, s.e, s.f, s.g⟩

/-- The word that follows from the words before it. -/
def mix (u v p q : UInt32) : UInt32 := u + v + (rot p 7 ^^^ rot p 18 ^^^ shr p 3) + (rot q 17 ^^^ rot q 19 ^^^ shr q 10)
def nextW (bs : List UInt8) (m : List UInt32) : UInt32 :=
  if m.length < 16 then be (bs.getD (4 * m.length) 0) (bs.getD (4 * m.length + 1) 0) (bs.getD (4 * m.length + 2) 0) (bs.getD (4 * m.length + 3) 0)
  else mix (m.getD (m.length - 16) 0) (m.getD (m.length - 7) 0) (m.getD (m.length - 15) 0) (m.getD (m.length - 2) 0)
/-- The first k words of a block. -/
def words (bs : List UInt8) : Nat → List UInt32
  | 0 => []
  | k + 1 => words bs k ++ [nextW bs (words bs k)]
theorem words_length (bs : List UInt8) (k : Nat) : (words bs k).length = k := by
  induction k with
  | zero => rfl
  | succ k ih => simp [words, ih]
theorem words_head (bs : List UInt8) (k : Nat) (h : k < 16) : words bs (k + 1) = words bs k ++ [be (bs.getD (4 * k) 0) (bs.getD (4 * k + 1) 0) (bs.getD (4 * k + 2) 0) (bs.getD (4 * k + 3) 0)] := by
  rw [words, nextW, words_length, if_pos h]
theorem words_tail (bs : List UInt8) (k : Nat) (h : 16 ≤ k) : words bs (k + 1) = words bs k ++ [mix ((words bs k).getD (k - 16) 0) ((words bs k).getD (k - 7) 0) ((words bs k).getD (k - 15) 0) ((words bs k).getD (k - 2) 0)] := by
  rw [words, nextW, words_length, if_neg (by omega)]

/-- The state behind k of the 64 steps. -/
def rnds (c m : List UInt32) (s : St) : Nat → St
  | 0 => s
  | k + 1 => rnd (rnds c m s k) (c.getD k 0) (m.getD k 0)
/-- A block changes the state. -/
def come (c : List UInt32) (s : St) (bs : List UInt8) : St := s.plus (rnds c (words bs 64) s 64)
/-- k blocks, one behind the other. -/
def run (c : List UInt32) (s : St) (bs : List UInt8) : Nat → St
  | 0 => s
  | k + 1 => come c (run c s bs k) ((bs.drop (64 * k)).take 64)

/-- A row filled up with zeros to n places. -/
def pad (n : Nat) (l : List UInt32) : List UInt32 := l ++ List.replicate (n - l.length) 0
theorem pad_length (n : Nat) (l : List UInt32) (h : l.length ≤ n) : (pad n l).length = n := by simp [pad]; omega
theorem pad_set (n : Nat) (l : List UInt32) (x : UInt32) (h : l.length < n) : (pad n l).set l.length x = pad n (l ++ [x]) := by
  unfold pad
  rw [List.set_append_right _ _ (Nat.le_refl _), Nat.sub_self, show n - l.length = (n - (l ++ [x]).length) + 1 by simp; omega, List.replicate_succ, List.set_cons_zero]
  simp
theorem pad_get (n : Nat) (l : List UInt32) (j : Nat) (hj : j < n) : (pad n l)[j]? = some (l.getD j 0) := by
  unfold pad
  rcases Nat.lt_or_ge j l.length with h | h
  · rw [List.getElem?_append_left h]; simp [h]
  · rw [List.getElem?_append_right h, List.getElem?_replicate, if_pos (by omega)]; simp [h]
theorem pad_full (l : List UInt32) : pad l.length l = l := by simp [pad]

theorem mix_eq (u v p q : UInt32) :
    ((u.toNat : Int) + v.toNat + bits .xor .u32 (bits .xor .u32 (rot p 7).toNat (rot p 18).toNat) (shr p 3).toNat + bits .xor .u32 (bits .xor .u32 (rot q 17).toNat (rot q 19).toNat) (shr q 10).toNat) % 4294967296 = ((mix u v p q).toNat : Int) := by
  rw [xor32, xor32, xor32, xor32, mix]
  generalize rot p 7 ^^^ rot p 18 ^^^ shr p 3 = x
  generalize rot q 17 ^^^ rot q 19 ^^^ shr q 10 = y
  rw [UInt32.toNat_add, UInt32.toNat_add, UInt32.toNat_add]
  omega

theorem not32 (e : UInt32) : bits .xor .u32 (if IntKind.u32.signed = true then -1 else IntKind.u32.max) (e.toNat : Int) = ((~~~e).toNat : Int) := by
  have h : ((if IntKind.u32.signed = true then -1 else IntKind.u32.max) : Int) = (((4294967295 : UInt32).toNat : Nat) : Int) := rfl
  rw [h, xor32]
  have hx : (4294967295 : UInt32) ^^^ e = ~~~e := by
    apply UInt32.toBitVec_inj.1
    rw [UInt32.toBitVec_xor, UInt32.toBitVec_not]
    exact BitVec.allOnes_xor
  rw [hx]
theorem sub32 (e : UInt32) : (4294967295 : Int) - e.toNat = ((~~~e).toNat : Int) := by
  have h : (~~~e).toNat = 4294967295 - e.toNat := by
    rw [← UInt32.toNat_toBitVec, UInt32.toBitVec_not, BitVec.toNat_not]
    rfl
  have := lt32 e
  rw [h]
  omega

theorem one_eq (a b c d e f g h cc mm : UInt32) :
    ((h.toNat : Int) + bits .xor .u32 (bits .xor .u32 (rot e 6).toNat (rot e 11).toNat) (rot e 25).toNat + bits .xor .u32 (bits .and .u32 e.toNat f.toNat) (bits .and .u32 ((~~~e).toNat : Int) g.toNat) + cc.toNat + mm.toNat) % 4294967296
      = ((one ⟨a, b, c, d, e, f, g, h⟩ cc mm).toNat : Int) := by
  rw [xor32, xor32, and32, and32, xor32]
  unfold one
  dsimp only
  generalize rot e 6 ^^^ rot e 11 ^^^ rot e 25 = x
  generalize (e &&& f) ^^^ (~~~e &&& g) = y
  simp only [UInt32.toNat_add]
  omega
theorem two_eq (a b c d e f g h : UInt32) :
    (bits .xor .u32 (bits .xor .u32 (rot a 2).toNat (rot a 13).toNat) (rot a 22).toNat + bits .xor .u32 (bits .xor .u32 (bits .and .u32 a.toNat b.toNat) (bits .and .u32 a.toNat c.toNat)) (bits .and .u32 b.toNat c.toNat)) % 4294967296
      = ((two ⟨a, b, c, d, e, f, g, h⟩).toNat : Int) := by
  rw [xor32, xor32, and32, and32, and32, xor32, xor32]
  unfold two
  dsimp only
  generalize rot a 2 ^^^ rot a 13 ^^^ rot a 22 = x
  generalize (a &&& b) ^^^ (a &&& c) ^^^ (b &&& c) = y
  simp only [UInt32.toNat_add]
  omega

/-- A word's four bytes, the most significant one first. -/
def b4 (x : UInt32) : List UInt8 := [UInt8.ofNat (x.toNat / 16777216), UInt8.ofNat (x.toNat / 65536), UInt8.ofNat (x.toNat / 256), UInt8.ofNat x.toNat]
/-- The bytes of words. -/
def bytesOf : List UInt32 → List UInt8
  | [] => []
  | x :: r => b4 x ++ bytesOf r
theorem bytesOf_snoc (l : List UInt32) (x : UInt32) : bytesOf (l ++ [x]) = bytesOf l ++ b4 x := by
  induction l with
  | nil => simp [bytesOf]
  | cons y r ih => simp [bytesOf, ih]
theorem bytesOf_length (l : List UInt32) : (bytesOf l).length = 4 * l.length := by
  induction l with
  | nil => rfl
  | cons y r ih => simp [bytesOf, b4, ih]; omega

/-- A row of bytes filled up with zeros to n places. -/
def pad8 (n : Nat) (l : List UInt8) : List UInt8 := l ++ List.replicate (n - l.length) 0
theorem pad8_length (n : Nat) (l : List UInt8) (h : l.length ≤ n) : (pad8 n l).length = n := by simp [pad8]; omega
theorem pad8_set (n : Nat) (l : List UInt8) (x : UInt8) (h : l.length < n) : (pad8 n l).set l.length x = pad8 n (l ++ [x]) := by
  unfold pad8
  rw [List.set_append_right _ _ (Nat.le_refl _), Nat.sub_self, show n - l.length = (n - (l ++ [x]).length) + 1 by simp; omega, List.replicate_succ, List.set_cons_zero]
  simp
theorem pad8_set4 (n : Nat) (l : List UInt8) (a b c d : UInt8) (h : l.length + 4 ≤ n) :
    ((((pad8 n l).set l.length a).set (l.length + 1) b).set (l.length + 2) c).set (l.length + 3) d = pad8 n (l ++ [a, b, c, d]) := by
  rw [pad8_set n l a (by omega)]
  have h1 := pad8_set n (l ++ [a]) b (by simp; omega)
  simp only [List.length_append, List.length_cons, List.length_nil, List.append_assoc, List.cons_append, List.nil_append] at h1
  rw [h1]
  have h2 := pad8_set n (l ++ [a, b]) c (by simp; omega)
  simp only [List.length_append, List.length_cons, List.length_nil, List.append_assoc, List.cons_append, List.nil_append] at h2
  rw [h2]
  have h3 := pad8_set n (l ++ [a, b, c]) d (by simp; omega)
  simp only [List.length_append, List.length_cons, List.length_nil, List.append_assoc, List.cons_append, List.nil_append] at h3
  exact h3
theorem pad8_get (n : Nat) (l : List UInt8) (j : Nat) (hj : j < n) : (pad8 n l)[j]? = some (l.getD j 0) := by
  unfold pad8
  rcases Nat.lt_or_ge j l.length with h | h
  · rw [List.getElem?_append_left h]; simp [h]
  · rw [List.getElem?_append_right h, List.getElem?_replicate, if_pos (by omega)]; simp [h]
theorem pad8_full (l : List UInt8) : pad8 l.length l = l := by simp [pad8]

theorem byte_eq (n : Nat) : ((n : Int)) % 256 = ((UInt8.ofNat n).toNat : Int) := by
  rw [UInt8.toNat_ofNat']; omega
theorem byte_eq' (x k : Nat) : ((x : Int)) / (k : Int) % 256 = ((UInt8.ofNat (x / k)).toNat : Int) := by
  rw [UInt8.toNat_ofNat', Int.natCast_emod, Int.natCast_ediv]; rfl

/-- The first state. -/
def R0 : St := ⟨1779033703, 3144134277, 1013904242, 2773480762, 1359893119, 2600822924, 528734635, 1541459225⟩

end Sha
end Go.Proofs.YtcmledlghipcbaaDoor
