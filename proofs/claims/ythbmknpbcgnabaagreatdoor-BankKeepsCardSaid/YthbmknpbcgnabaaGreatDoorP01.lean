/-
  OF THE WALK: HmQ.
-/
import Derived.Below
import Derived.Deep.AppendSrc
import Derived.Deep.Draws
import Derived.Deep.QuietTactic
import Derived.Laws.BitsAllLaws
import Derived.Laws.CopyOwn
import Derived.WalkKit
section
namespace Go.Proofs.YthbmknpbcgnabaaGreatDoor.Hm
namespace Sha
def rot (x : UInt32) (n : Nat) : UInt32 := UInt32.ofNat (x.toNat / 2 ^ n + x.toNat % 2 ^ n * 2 ^ (32 - n))
def shr (x : UInt32) (n : Nat) : UInt32 := UInt32.ofNat (x.toNat / 2 ^ n)
def be (a b c d : UInt8) : UInt32 := UInt32.ofNat (a.toNat * 16777216 + b.toNat * 65536 + c.toNat * 256 + d.toNat)
theorem lt32 (x : UInt32) : x.toNat < 4294967296 := x.toNat_lt
theorem lt8 (x : UInt8) : x.toNat < 256 := x.toNat_lt
theorem toNat_ofNat32 {n : Nat} (h : n < 4294967296) : (UInt32.ofNat n).toNat = n := by
  rw [UInt32.toNat_ofNat']; exact Nat.mod_eq_of_lt h
theorem toNat_ofNat8 {n : Nat} (h : n < 256) : (UInt8.ofNat n).toNat = n := by
  rw [UInt8.toNat_ofNat']; exact Nat.mod_eq_of_lt h
theorem add32 (x y : UInt32) : ((x.toNat : Int) + y.toNat) % 4294967296 = ((x + y).toNat : Int) := by
  rw [UInt32.toNat_add]; omega
theorem xor32 (x y : UInt32) : bits .xor .u32 (x.toNat : Int) y.toNat = ((x ^^^ y).toNat : Int) := by
  rw [u32_xor_nat _ _ (lt32 x) (lt32 y), UInt32.toNat_xor]
theorem and32 (x y : UInt32) : bits .and .u32 (x.toNat : Int) y.toNat = ((x &&& y).toNat : Int) := by
  rw [u32_and_nat _ _ (lt32 x) (lt32 y), UInt32.toNat_and]
theorem rot_lt (x n : Nat) (hx : x < 4294967296) (h : n ≤ 32) : x / 2 ^ n + x % 2 ^ n * 2 ^ (32 - n) < 4294967296 := by
  have h32 : (4294967296 : Nat) = 2 ^ (32 - n) * 2 ^ n := by rw [← Nat.pow_add, show 32 - n + n = 32 by omega]
  have hp : 0 < 2 ^ n := Nat.two_pow_pos n
  have h1 : x / 2 ^ n < 2 ^ (32 - n) := by rw [Nat.div_lt_iff_lt_mul hp, ← h32]; exact hx
  have h2 : x % 2 ^ n < 2 ^ n := Nat.mod_lt _ hp
  have h3 : x % 2 ^ n * 2 ^ (32 - n) + 2 ^ (32 - n) ≤ 2 ^ n * 2 ^ (32 - n) := by
    rw [← Nat.succ_mul]; exact Nat.mul_le_mul_right _ h2
  rw [Nat.mul_comm (2 ^ n)] at h3
  omega
theorem rot_toNat (x : UInt32) {n : Nat} (h : n ≤ 32) : (rot x n).toNat = x.toNat / 2 ^ n + x.toNat % 2 ^ n * 2 ^ (32 - n) :=
  toNat_ofNat32 (rot_lt _ _ (lt32 x) h)
theorem shr_toNat (x : UInt32) (n : Nat) : (shr x n).toNat = x.toNat / 2 ^ n :=
  toNat_ofNat32 (Nat.lt_of_le_of_lt (Nat.div_le_self _ _) (lt32 x))
theorem be_toNat (a b c d : UInt8) : (be a b c d).toNat = a.toNat * 16777216 + b.toNat * 65536 + c.toNat * 256 + d.toNat :=
  toNat_ofNat32 (by have := lt8 a; have := lt8 b; have := lt8 c; have := lt8 d; omega)
theorem turn_eq (x : UInt32) (n : Nat) (h : n ≤ 31) (h1 : 1 ≤ n) :
    bits .or .u32 ((x.toNat : Int) / 2 ^ n) ((x.toNat : Int) * 2 ^ (32 - n) % 4294967296) = ((rot x n).toNat : Int) := by
  have hx := lt32 x
  have h32 : (4294967296 : Nat) = 2 ^ n * 2 ^ (32 - n) := by rw [← Nat.pow_add, show n + (32 - n) = 32 by omega]
  have hp : 0 < 2 ^ n := Nat.two_pow_pos n
  have e1 : ((x.toNat : Int) / 2 ^ n) = ((x.toNat / 2 ^ n : Nat) : Int) := by
    rw [Int.natCast_ediv, Int.natCast_pow]; rfl
  have e2 : ((x.toNat : Int) * 2 ^ (32 - n) % 4294967296) = ((x.toNat % 2 ^ n * 2 ^ (32 - n) : Nat) : Int) := by
    have : x.toNat % 2 ^ n * 2 ^ (32 - n) = x.toNat * 2 ^ (32 - n) % 4294967296 := by
      rw [h32, ← Nat.mul_mod_mul_right]
    rw [this, Int.natCast_emod, Int.natCast_mul, Int.natCast_pow]; rfl
  have hlt := rot_lt x.toNat n hx (by omega)
  have hq : x.toNat / 2 ^ n < 2 ^ (32 - n) := by
    rw [Nat.div_lt_iff_lt_mul hp, Nat.mul_comm, ← h32]; exact hx
  rw [e1, e2, u32_or_nat _ _ (by omega) (by omega), rot_toNat x (by omega), Nat.or_comm,
    nat_join (32 - n) _ _ (Nat.mul_mod_left _ _) hq, Nat.add_comm]
theorem wordAt_eq (a b c d : UInt8) :
    bits .or .u32 (bits .or .u32 (bits .or .u32 ((a.toNat : Int) % 4294967296 * 16777216 % 4294967296) ((b.toNat : Int) % 4294967296 * 65536 % 4294967296)) ((c.toNat : Int) % 4294967296 * 256 % 4294967296)) ((d.toNat : Int) % 4294967296) = ((be a b c d).toNat : Int) := by
  have ha := lt8 a; have hb := lt8 b; have hc := lt8 c; have hd := lt8 d
  rw [be_toNat]
  rw [show ((a.toNat : Int) % 4294967296 * 16777216 % 4294967296) = ((a.toNat * 16777216 : Nat) : Int) by omega,
    show ((b.toNat : Int) % 4294967296 * 65536 % 4294967296) = ((b.toNat * 65536 : Nat) : Int) by omega,
    show ((c.toNat : Int) % 4294967296 * 256 % 4294967296) = ((c.toNat * 256 : Nat) : Int) by omega,
    show ((d.toNat : Int) % 4294967296) = ((d.toNat : Nat) : Int) by omega]
  rw [u32_or_nat _ _ (by omega) (by omega), nat_join 24 _ _ (by omega) (by omega)]
  rw [u32_or_nat _ _ (by omega) (by omega), nat_join 16 _ _ (by omega) (by omega)]
  rw [u32_or_nat _ _ (by omega) (by omega), nat_join 8 _ _ (by omega) (by omega)]
structure St where
  a : UInt32
  b : UInt32
  c : UInt32
  d : UInt32
  e : UInt32
  f : UInt32
  g : UInt32
  h : UInt32
def St.list (s : St) : List UInt32 := [s.a, s.b, s.c, s.d, s.e, s.f, s.g, s.h]
def St.plus (s t : St) : St := ⟨s.a + t.a, s.b + t.b, s.c + t.c, s.d + t.d, s.e + t.e, s.f + t.f, s.g + t.g, s.h + t.h⟩
def one (s : St) (c m : UInt32) : UInt32 := s.h + (rot s.e 6 ^^^ rot s.e 11 ^^^ rot s.e 25) + ((s.e &&& s.f) ^^^ (~~~s.e &&& s.g)) + c + m
def two (s : St) : UInt32 := (rot s.a 2 ^^^ rot s.a 13 ^^^ rot s.a 22) + ((s.a &&& s.b) ^^^ (s.a &&& s.c) ^^^ (s.b &&& s.c))
def rnd (s : St) (c m : UInt32) : St := ⟨one s c m + two s, s.a, s.b, s.c, s.d + one s c m, s.e, s.f, s.g⟩
def mix (u v p q : UInt32) : UInt32 := u + v + (rot p 7 ^^^ rot p 18 ^^^ shr p 3) + (rot q 17 ^^^ rot q 19 ^^^ shr q 10)
def nextW (bs : List UInt8) (m : List UInt32) : UInt32 :=
  if m.length < 16 then be (bs.getD (4 * m.length) 0) (bs.getD (4 * m.length + 1) 0) (bs.getD (4 * m.length + 2) 0) (bs.getD (4 * m.length + 3) 0)
  else mix (m.getD (m.length - 16) 0) (m.getD (m.length - 7) 0) (m.getD (m.length - 15) 0) (m.getD (m.length - 2) 0)
def words (bs : List UInt8) : Nat → List UInt32
  | 0 => []
  | k + 1 => words bs k ++ [nextW bs (words bs k)]
theorem words_length (bs : List UInt8) (k : Nat) : (words bs k).length = k := by
  induction k with
  | zero => rfl
  | succ k ih => simp [words, ih]
theorem words_head (bs : List UInt8) (k : Nat) (h : k < 16) : words bs (k + 1) = words bs k ++ [be (bs.getD (4 * k) 0) (bs.getD (4 * k + 1) 0) (bs.getD (4 * k + 2) 0) (bs.getD (4 * k + 3) 0)] := by
  rw [words, nextW, words_length, if_pos h]
theorem words_tail (bs : List UInt8) (k : Nat) (h : 16 ≤ k) : words bs (k + 1) = words bs k ++ [mix ((words bs k).getD (k - 16) 0) ((words bs k).getD (k - 7) 0) ((words bs k).getD (k - 15) 0) ((words bs k).getD (k - 2) 0)] := by
  rw [words, nextW, words_length, if_neg (by omega)]
def rnds (c m : List UInt32) (s : St) : Nat → St
  | 0 => s
  | k + 1 => rnd (rnds c m s k) (c.getD k 0) (m.getD k 0)
def come (c : List UInt32) (s : St) (bs : List UInt8) : St := s.plus (rnds c (words bs 64) s 64)
def run (c : List UInt32) (s : St) (bs : List UInt8) : Nat → St
  | 0 => s
  | k + 1 => come c (run c s bs k) ((bs.drop (64 * k)).take 64)
def pad (n : Nat) (l : List UInt32) : List UInt32 := l ++ List.replicate (n - l.length) 0
theorem pad_length (n : Nat) (l : List UInt32) (h : l.length ≤ n) : (pad n l).length = n := by simp [pad]; omega
theorem pad_set (n : Nat) (l : List UInt32) (x : UInt32) (h : l.length < n) : (pad n l).set l.length x = pad n (l ++ [x]) := by
  unfold pad
  rw [List.set_append_right _ _ (Nat.le_refl _), Nat.sub_self, show n - l.length = (n - (l ++ [x]).length) + 1 by simp; omega, List.replicate_succ, List.set_cons_zero]
  simp
theorem pad_get (n : Nat) (l : List UInt32) (j : Nat) (hj : j < n) : (pad n l)[j]? = some (l.getD j 0) := by
  unfold pad
  rcases Nat.lt_or_ge j l.length with h | h
  · rw [List.getElem?_append_left h]; simp [h]
  · rw [List.getElem?_append_right h, List.getElem?_replicate, if_pos (by omega)]; simp [h]
theorem pad_full (l : List UInt32) : pad l.length l = l := by simp [pad]
theorem mix_eq (u v p q : UInt32) :
    ((u.toNat : Int) + v.toNat + bits .xor .u32 (bits .xor .u32 (rot p 7).toNat (rot p 18).toNat) (shr p 3).toNat + bits .xor .u32 (bits .xor .u32 (rot q 17).toNat (rot q 19).toNat) (shr q 10).toNat) % 4294967296 = ((mix u v p q).toNat : Int) := by
  rw [xor32, xor32, xor32, xor32, mix]
  generalize rot p 7 ^^^ rot p 18 ^^^ shr p 3 = x
  generalize rot q 17 ^^^ rot q 19 ^^^ shr q 10 = y
  rw [UInt32.toNat_add, UInt32.toNat_add, UInt32.toNat_add]
  omega
theorem not32 (e : UInt32) : bits .xor .u32 (if IntKind.u32.signed = true then -1 else IntKind.u32.max) (e.toNat : Int) = ((~~~e).toNat : Int) := by
  have h : ((if IntKind.u32.signed = true then -1 else IntKind.u32.max) : Int) = (((4294967295 : UInt32).toNat : Nat) : Int) := rfl
  rw [h, xor32]
  have hx : (4294967295 : UInt32) ^^^ e = ~~~e := by
    apply UInt32.toBitVec_inj.1
    rw [UInt32.toBitVec_xor, UInt32.toBitVec_not]
    exact BitVec.allOnes_xor
  rw [hx]
theorem one_eq (a b c d e f g h cc mm : UInt32) :
    ((h.toNat : Int) + bits .xor .u32 (bits .xor .u32 (rot e 6).toNat (rot e 11).toNat) (rot e 25).toNat + bits .xor .u32 (bits .and .u32 e.toNat f.toNat) (bits .and .u32 ((~~~e).toNat : Int) g.toNat) + cc.toNat + mm.toNat) % 4294967296
      = ((one ⟨a, b, c, d, e, f, g, h⟩ cc mm).toNat : Int) := by
  rw [xor32, xor32, and32, and32, xor32]
  unfold one
  dsimp only
  generalize rot e 6 ^^^ rot e 11 ^^^ rot e 25 = x
  generalize (e &&& f) ^^^ (~~~e &&& g) = y
  simp only [UInt32.toNat_add]
  omega
theorem two_eq (a b c d e f g h : UInt32) :
    (bits .xor .u32 (bits .xor .u32 (rot a 2).toNat (rot a 13).toNat) (rot a 22).toNat + bits .xor .u32 (bits .xor .u32 (bits .and .u32 a.toNat b.toNat) (bits .and .u32 a.toNat c.toNat)) (bits .and .u32 b.toNat c.toNat)) % 4294967296
      = ((two ⟨a, b, c, d, e, f, g, h⟩).toNat : Int) := by
  rw [xor32, xor32, and32, and32, and32, xor32, xor32]
  unfold two
  dsimp only
  generalize rot a 2 ^^^ rot a 13 ^^^ rot a 22 = x
  generalize (a &&& b) ^^^ (a &&& c) ^^^ (b &&& c) = y
  simp only [UInt32.toNat_add]
  omega
def b4 (x : UInt32) : List UInt8 := [UInt8.ofNat (x.toNat / 16777216), UInt8.ofNat (x.toNat / 65536), UInt8.ofNat (x.toNat / 256), UInt8.ofNat x.toNat]
def bytesOf : List UInt32 → List UInt8
  | [] => []
  | x :: r => b4 x ++ bytesOf r
theorem bytesOf_snoc (l : List UInt32) (x : UInt32) : bytesOf (l ++ [x]) = bytesOf l ++ b4 x := by
  induction l with
  | nil => simp [bytesOf]
  | cons y r ih => simp [bytesOf, ih]
theorem bytesOf_length (l : List UInt32) : (bytesOf l).length = 4 * l.length := by
  induction l with
  | nil => rfl
  | cons y r ih => simp [bytesOf, b4, ih]; omega
def pad8 (n : Nat) (l : List UInt8) : List UInt8 := l ++ List.replicate (n - l.length) 0
theorem pad8_length (n : Nat) (l : List UInt8) (h : l.length ≤ n) : (pad8 n l).length = n := by simp [pad8]; omega
theorem pad8_set (n : Nat) (l : List UInt8) (x : UInt8) (h : l.length < n) : (pad8 n l).set l.length x = pad8 n (l ++ [x]) := by
  unfold pad8
  rw [List.set_append_right _ _ (Nat.le_refl _), Nat.sub_self, show n - l.length = (n - (l ++ [x]).length) + 1 by simp; omega, List.replicate_succ, List.set_cons_zero]
  simp
theorem pad8_set4 (n : Nat) (l : List UInt8) (a b c d : UInt8) (h : l.length + 4 ≤ n) :
    ((((pad8 n l).set l.length a).set (l.length + 1) b).set (l.length + 2) c).set (l.length + 3) d = pad8 n (l ++ [a, b, c, d]) := by
  rw [pad8_set n l a (by omega)]
  have h1 := pad8_set n (l ++ [a]) b (by simp; omega)
  simp only [List.length_append, List.length_cons, List.length_nil, List.append_assoc, List.cons_append, List.nil_append] at h1
  rw [h1]
  have h2 := pad8_set n (l ++ [a, b]) c (by simp; omega)
  simp only [List.length_append, List.length_cons, List.length_nil, List.append_assoc, List.cons_append, List.nil_append] at h2
  rw [h2]
  have h3 := pad8_set n (l ++ [a, b, c]) d (by simp; omega)
  simp only [List.length_append, List.length_cons, List.length_nil, List.append_assoc, List.cons_append, List.nil_append] at h3
  exact h3
theorem pad8_get (n : Nat) (l : List UInt8) (j : Nat) (hj : j < n) : (pad8 n l)[j]? = some (l.getD j 0) := by
  unfold pad8
  rcases Nat.lt_or_ge j l.length with h | h
  · rw [List.getElem?_append_left h]; simp [h]
  · rw [List.getElem?_append_right h, List.getElem?_replicate, if_pos (by omega)]; simp [h]
theorem pad8_full (l : List UInt8) : pad8 l.length l = l := by simp [pad8]
theorem byte_eq (n : Nat) : ((n : Int)) % 256 = ((UInt8.ofNat n).toNat : Int) := by
  rw [UInt8.toNat_ofNat']; omega
theorem byte_eq' (x k : Nat) : ((x : Int)) / (k : Int) % 256 = ((UInt8.ofNat (x / k)).toNat : Int) := by
  rw [UInt8.toNat_ofNat', Int.natCast_emod, Int.natCast_ediv]; rfl
def R0 : St := ⟨1779033703, 3144134277, 1013904242, 2773480762, 1359893119, 2600822924, 528734635, 1541459225⟩
end Sha
end Go.Proofs.YthbmknpbcgnabaaGreatDoor.Hm
end
section
namespace Go.Proofs.YthbmknpbcgnabaaGreatDoor.Hm
open Go.RowKit
def Row (w : World) (g : Nat) (t : TypeId) (cs : List Value) : Prop := w.heap[g]? = some (.cells cs.toArray t (0, 0))
section
variable {w w' : World} {g : Nat} {t : TypeId} {cs : List Value}
theorem Row.lt (h : Row w g t cs) : g < w.heap.size := by
  rcases Nat.lt_or_ge g w.heap.size with k | k
  · exact k
  · simp [Row, Array.getElem?_eq_none k] at h
theorem Row.cell (h : Row w g t cs) (j : Nat) : w.cell? ⟨g, j, none⟩ = cs[j]? := by
  rw [cell_of_row w g j _ t (0, 0) h]; simp
theorem Row.free (h : Row w g t cs) (j : Nat) : w.frozen? ⟨g, j, none⟩ = false := frozen_of_row w g j _ t h
theorem Row.same (h : Row w g t cs) (k : w'.heap[g]? = w.heap[g]?) : Row w' g t cs := k.trans h
theorem Row.drew (h : Row w g t cs) : Row w.drew g t cs := h
theorem Row.drewN (h : Row w g t cs) (n : Nat) : Row (w.drewN n) g t cs := h
theorem Row.alloc (h : Row w g t cs) (o : Obj) : Row (w.alloc o) g t cs := h.same (Below.heap_alloc w o g h.lt)
theorem Row.new (w : World) (t : TypeId) (cs : List Value) : Row (w.alloc (.cells cs.toArray t)) w.heap.size t cs := heap_alloc_new w _
theorem Row.newAt {w : World} {g : Nat} (t : TypeId) (cs : List Value) (h : w.heap.size = g) : Row (w.alloc (.cells cs.toArray t)) g t cs := h ▸ Row.new w t cs
theorem Row.set (h : Row w g t cs) (j : Nat) (u : Value) : Row (w.setCell ⟨g, j, none⟩ u) g t (cs.set j u) := by
  have := heap_setCell_same w g j _ t u h
  unfold Row
  rw [this]
  simp
theorem Row.apart (h : Row w g t cs) {p : Addr} (hp : g ≠ p.block) (u : Value) : Row (w.setCell p u) g t cs := h.same (heap_setCell_other w p g u hp)
theorem Row.below {B : Nat} (h : Row w g t cs) (hb : Below B w w') (hg : g < B) : Row w' g t cs := h.same (hb.block g hg)
theorem Row.grown {row : Option Nat} (h : Row w g t cs) (hb : w.grownBy w' row) (hg : some g ≠ row) : Row w' g t cs := h.same (hb.block g h.lt hg)
theorem Row.whole (h : Row w g t cs) (ds : List Value) : Row (w.setRow g ds.toArray) g t ds := setRow_heap w g _ _ t _ h
theorem Row.wholeOff (h : Row w g t cs) {k : Nat} (hk : g ≠ k) (ds : Array Value) : Row (w.setRow k ds) g t cs := h.same (setRow_other w k g ds hk)
end
theorem by_refl (w : World) (g : Option Nat) : w.grownBy w g := World.grownBy.refl w g
section
variable {a w w' : World} {g : Option Nat}
theorem by_drewN (h : a.grownBy w g) (n : Nat) : a.grownBy (w.drewN n) g := ⟨h.os, h.tape, h.output, h.size, h.block⟩
theorem by_drew (h : a.grownBy w g) : a.grownBy w.drew g := ⟨h.os, h.tape, h.output, h.size, h.block⟩
theorem by_trans (h : a.grownBy w g) (k : w.grownBy w' g) : a.grownBy w' g :=
  ⟨k.os.trans h.os, k.tape.trans h.tape, k.output.trans h.output, Nat.le_trans h.size k.size, fun i hi hn => (k.block i (Nat.lt_of_lt_of_le hi h.size) hn).trans (h.block i hi hn)⟩
theorem by_alloc (h : a.grownBy w g) (o : Obj) : a.grownBy (w.alloc o) g := by_trans h (World.grownBy_alloc w o g)
theorem by_below (h : a.grownBy w g) (k : Below w.heap.size w w') : a.grownBy w' g := by_trans h ⟨k.os, k.tape, k.output, k.size, fun i hi _ => k.block i hi⟩
theorem by_setCell (h : a.grownBy w g) {p : Addr} (hp : g = some p.block ∨ a.heap.size ≤ p.block) (u : Value) : a.grownBy (w.setCell p u) g := by
  refine ⟨h.os, h.tape, h.output, by simpa [World.setCell] using h.size, fun i hi hn => ?_⟩
  rw [heap_setCell_other w p i u (fun e => by
    rcases hp with hp | hp
    · exact hn (by rw [hp, e])
    · omega)]
  exact h.block i hi hn
theorem by_setRow (h : a.grownBy w g) {k : Nat} (hp : g = some k ∨ a.heap.size ≤ k) (ds : Array Value) : a.grownBy (w.setRow k ds) g := by
  refine ⟨h.os, h.tape, h.output, by simpa using h.size, fun i hi hn => ?_⟩
  rw [setRow_other w k i ds (fun e => by
    rcases hp with hp | hp
    · exact hn (by rw [hp, e])
    · omega)]
  exact h.block i hi hn
theorem by_to_below (h : a.grownBy w none) : Below a.heap.size a w := ⟨h.os, h.tape, h.output, h.size, fun i hi => h.block i hi (by simp)⟩
theorem below_to_by (h : Below a.heap.size a w) (g : Option Nat) : a.grownBy w g := ⟨h.os, h.tape, h.output, h.size, fun i hi _ => h.block i hi⟩
theorem below_drewN {B : Nat} (h : Below B a w) (n : Nat) : Below B a (w.drewN n) := ⟨h.os, h.tape, h.output, h.size, h.block⟩
theorem below_setRow' {B : Nat} (h : Below B a w) {k : Nat} (hk : B ≤ k) (ds : Array Value) : Below B a (w.setRow k ds) := below_setRow h hk ds
end
def Sees (w : World) (b off : Nat) (xs : List Value) : Prop := ∀ j u, xs[j]? = some u → w.cell? ⟨b, off + j, none⟩ = some u
section
variable {w w' : World} {b off : Nat} {xs : List Value}
theorem Sees.at_ (h : Sees w b off xs) {j : Nat} {u : Value} (hj : xs[j]? = some u) : w.cell? ⟨b, off + j, none⟩ = some u := h j u hj
theorem Sees.same (h : Sees w b off xs) (k : w'.heap[b]? = w.heap[b]?) : Sees w' b off xs := fun j u hu => (World.cell?_of_block (w := w) k).trans (h j u hu)
theorem Sees.below {B : Nat} (h : Sees w b off xs) (hb : Below B w w') (hB : b < B) : Sees w' b off xs := h.same (hb.block b hB)
theorem Sees.grown {row : Option Nat} (h : Sees w b off xs) (hb : w.grownBy w' row) (hl : b < w.heap.size) (hg : some b ≠ row) : Sees w' b off xs := h.same (hb.block b hl hg)
theorem Sees.drewN (h : Sees w b off xs) (n : Nat) : Sees (w.drewN n) b off xs := h
theorem Sees.alloc (h : Sees w b off xs) (hl : b < w.heap.size) (o : Obj) : Sees (w.alloc o) b off xs := h.same (Below.heap_alloc w o b hl)
theorem Sees.setCell (h : Sees w b off xs) {p : Addr} (hp : b ≠ p.block) (u : Value) : Sees (w.setCell p u) b off xs := h.same (heap_setCell_other w p b u hp)
theorem Sees.piece (h : Sees w b off xs) (i n : Nat) : Sees w b (off + i) ((xs.drop i).take n) := fun j u hu => by
  rw [Nat.add_assoc]
  refine h _ u ?_
  rw [List.getElem?_take] at hu
  split at hu
  · rwa [List.getElem?_drop] at hu
  · cases hu
theorem Sees.tail (h : Sees w b off xs) (i : Nat) : Sees w b (off + i) (xs.drop i) := fun j u hu => by
  rw [Nat.add_assoc]
  exact h _ u (by rwa [List.getElem?_drop] at hu)
theorem Row.sees {g : Nat} {t : TypeId} {cs : List Value} (h : Row w g t cs) : Sees w g 0 cs := fun j u hu => by
  rw [Nat.zero_add, h.cell]; exact hu
theorem Sees.lt (h : Sees w b off xs) (hp : 0 < xs.length) : b < w.heap.size := by
  have hc := h 0 _ (List.getElem?_eq_getElem hp)
  rcases Nat.lt_or_ge b w.heap.size with k | k
  · exact k
  · simp [World.cell?, Array.getElem?_eq_none k] at hc
theorem Sees.nil : Sees w b off [] := fun j u hu => by simp at hu
end
theorem leave_wp {P : Program} {c : Code} {Q : Exit → Act → World → Prop} {a : Act} {w : World} (F : World → Prop) (h : F w) (k : ∀ w2, F w2 → c.wp P Q a w2) : c.wp P Q a w := k w h
end Go.Proofs.YthbmknpbcgnabaaGreatDoor.Hm
end
section
namespace Go.Proofs.YthbmknpbcgnabaaGreatDoor.Hm
namespace Sha
def be8 (L : Nat) : List UInt8 := [UInt8.ofNat (L / 256 ^ 7), UInt8.ofNat (L / 256 ^ 6), UInt8.ofNat (L / 256 ^ 5), UInt8.ofNat (L / 256 ^ 4), UInt8.ofNat (L / 256 ^ 3), UInt8.ofNat (L / 256 ^ 2), UInt8.ofNat (L / 256), UInt8.ofNat L]
def filled (b : List UInt8) : List UInt8 := b ++ [128] ++ List.replicate ((119 - b.length % 64) % 64) 0 ++ be8 (8 * b.length)
def sizeOf_ (n : Nat) : Nat := if 64 < n + 1 + 8 then 128 else 64
def lays (row : List UInt8) (size L : Nat) : Nat → List UInt8
  | 0 => row
  | j + 1 => (lays row size L j).set (size - (j + 1)) (UInt8.ofNat (L / 256 ^ j))
theorem lays_length (row : List UInt8) (size L j : Nat) : (lays row size L j).length = row.length := by
  induction j with
  | zero => rfl
  | succ j ih => simp [lays, ih]
theorem set_mid (A X : List UInt8) (i k : Nat) (v : UInt8) (h : i = A.length + k) : (A ++ X).set i v = A ++ X.set k v := by
  subst h
  rw [List.set_append_right _ _ (by omega), Nat.add_sub_cancel_left]
theorem lays_all (A B : List UInt8) (size L : Nat) (h : A.length + 8 = size) :
    lays (A ++ ([0, 0, 0, 0, 0, 0, 0, 0] ++ B)) size L 8 = A ++ (be8 L ++ B) := by
  simp only [lays]
  rw [set_mid A _ _ 7 _ (by omega), set_mid A _ _ 6 _ (by omega), set_mid A _ _ 5 _ (by omega), set_mid A _ _ 4 _ (by omega), set_mid A _ _ 3 _ (by omega), set_mid A _ _ 2 _ (by omega), set_mid A _ _ 1 _ (by omega), set_mid A _ _ 0 _ (by omega)]
  simp [be8]
def ended (rest : List UInt8) (total : Nat) : List UInt8 := lays (pad8 128 (rest ++ [128])) (sizeOf_ rest.length) (8 * total) 8
theorem ended_length (rest : List UInt8) (total : Nat) (h : rest.length < 64) : (ended rest total).length = 128 := by
  rw [ended, lays_length, pad8_length]; simp; omega
theorem pad8_split (l : List UInt8) (m : Nat) (hl : l.length ≤ m) (hm : m + 8 ≤ 128) : pad8 128 l = pad8 m l ++ ([0, 0, 0, 0, 0, 0, 0, 0] ++ List.replicate (120 - m) 0) := by
  have e8 : ([0, 0, 0, 0, 0, 0, 0, 0] : List UInt8) = List.replicate 8 0 := rfl
  rw [e8, pad8, pad8, List.append_assoc, ← List.append_assoc (List.replicate _ _), List.replicate_append_replicate, List.replicate_append_replicate]
  congr 2
  omega
theorem ended_take (rest : List UInt8) (total : Nat) (h : rest.length < 64) :
    (ended rest total).take (sizeOf_ rest.length) = rest ++ [128] ++ List.replicate ((119 - rest.length) % 64) 0 ++ be8 (8 * total) := by
  have hs : sizeOf_ rest.length = 64 ∧ rest.length ≤ 55 ∨ sizeOf_ rest.length = 128 ∧ 55 < rest.length := by
    unfold sizeOf_; split
    · right; omega
    · left; omega
  have key : ∀ m, rest.length + 1 ≤ m → m + 8 ≤ 128 → m - (rest.length + 1) = (119 - rest.length) % 64 → sizeOf_ rest.length = m + 8 →
      (ended rest total).take (sizeOf_ rest.length) = rest ++ [128] ++ List.replicate ((119 - rest.length) % 64) 0 ++ be8 (8 * total) := by
    intro m h1 h2 h3 h4
    rw [ended, h4, pad8_split _ m (by simp; omega) h2, lays_all _ _ _ _ (by rw [pad8_length _ _ (by simp; omega)])]
    rw [← List.append_assoc, List.take_append_of_le_length (by rw [List.length_append, pad8_length _ _ (by simp; omega)]; simp [be8])]
    rw [List.take_of_length_le (by rw [List.length_append, pad8_length _ _ (by simp; omega)]; simp [be8])]
    rw [pad8]
    simp only [List.length_append, List.length_cons, List.length_nil, Nat.zero_add]
    rw [h3]
  rcases hs with ⟨e, hl⟩ | ⟨e, hl⟩
  · exact key 56 (by omega) (by omega) (by omega) (by rw [e])
  · exact key 120 (by omega) (by omega) (by omega) (by rw [e])
theorem run_prefix (c : List UInt32) (s : St) (x y : List UInt8) (q : Nat) (h : 64 * q ≤ x.length) : run c s (x ++ y) q = run c s x q := by
  induction q with
  | zero => rfl
  | succ q ih =>
    rw [run, run, ih (by omega), List.drop_append_of_le_length (by omega), List.take_append_of_le_length (by simp; omega)]
theorem run_append (c : List UInt32) (s : St) (x y : List UInt8) (q j : Nat) (h : x.length = 64 * q) : run c s (x ++ y) (q + j) = run c (run c s x q) y j := by
  induction j with
  | zero => rw [Nat.add_zero, run_prefix c s x y q (by omega)]; rfl
  | succ j ih =>
    rw [← Nat.add_assoc, run, ih, run]
    congr 2
    rw [Nat.mul_add, ← h, List.drop_append]
    rw [List.drop_of_length_le (by omega), List.nil_append]
    congr 1
    omega
def sumSt (c : List UInt32) (b : List UInt8) : St := run c R0 (filled b) ((filled b).length / 64)
theorem sum_split (c : List UInt32) (b : List UInt8) :
    run c (run c R0 b (b.length / 64)) (ended (b.drop (64 * (b.length / 64))) b.length) (sizeOf_ (b.length % 64) / 64) = sumSt c b := by
  have hr : (b.drop (64 * (b.length / 64))).length = b.length % 64 := by rw [List.length_drop]; omega
  have ht := ended_take (b.drop (64 * (b.length / 64))) b.length (by rw [hr]; omega)
  rw [hr] at ht
  have hf : filled b = b.take (64 * (b.length / 64)) ++ (ended (b.drop (64 * (b.length / 64))) b.length).take (sizeOf_ (b.length % 64)) := by
    rw [ht, filled]
    simp only [← List.append_assoc, List.take_append_drop]
  have hq : (b.take (64 * (b.length / 64))).length = 64 * (b.length / 64) := by rw [List.length_take]; omega
  have hsz : sizeOf_ (b.length % 64) = 64 ∨ sizeOf_ (b.length % 64) = 128 := by unfold sizeOf_; split <;> omega
  have hel : (ended (b.drop (64 * (b.length / 64))) b.length).length = 128 := ended_length _ _ (by rw [hr]; omega)
  have hd : (filled b).length / 64 = b.length / 64 + sizeOf_ (b.length % 64) / 64 := by
    rw [hf, List.length_append, hq, List.length_take, hel]
    rcases hsz with e | e <;> rw [e] <;> omega
  rw [sumSt, hd, hf, run_append c R0 _ _ _ _ hq]
  have e1 : run c R0 (b.take (64 * (b.length / 64))) (b.length / 64) = run c R0 b (b.length / 64) := by
    rw [← run_prefix c R0 _ (b.drop (64 * (b.length / 64))) _ (by omega), List.take_append_drop]
  rw [e1]
  have e2 := run_prefix c (run c R0 b (b.length / 64)) ((ended (b.drop (64 * (b.length / 64))) b.length).take (sizeOf_ (b.length % 64))) ((ended (b.drop (64 * (b.length / 64))) b.length).drop (sizeOf_ (b.length % 64))) (sizeOf_ (b.length % 64) / 64)
    (by rw [List.length_take, hel]; rcases hsz with e | e <;> rw [e] <;> omega)
  rw [← e2, List.take_append_drop]
end Sha
end Go.Proofs.YthbmknpbcgnabaaGreatDoor.Hm
end
