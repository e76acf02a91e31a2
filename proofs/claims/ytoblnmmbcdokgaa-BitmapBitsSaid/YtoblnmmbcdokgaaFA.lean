/-
  PLAIN (no program): bytes as bits, bits as bytes; how many are set, which is the first.
-/
import Derived.Test.YtoblnmmbcdokgaaO
namespace Go.Proofs.Ytoblnmmbcdokgaa
namespace Bm

/-- Bit k of a byte. -/
def bt (x : UInt8) (k : Nat) : Bool := x.toNat / 2 ^ k % 2 == 1
/-- Bit i of bytes; what lies in no byte is 0. -/
def tb (b : List UInt8) (i : Nat) : Bool := bt (b.getD (i / 8) 0) (i % 8)
/-- Bytes as bits. -/
def bitsOf (b : List UInt8) : List Bool := (List.range (8 * b.length)).map (tb b)
theorem bits_length (b : List UInt8) : (bitsOf b).length = 8 * b.length := by simp [bitsOf]
theorem bits_get (b : List UInt8) (i : Nat) (h : i < 8 * b.length) : (bitsOf b).getD i false = tb b i := by
  rw [bitsOf, List.getD_eq_getElem?_getD, List.getElem?_map, List.getElem?_range h]; rfl
theorem tb_out (b : List UInt8) (i : Nat) (h : 8 * b.length ≤ i) : tb b i = false := by
  unfold tb
  rw [List.getD_eq_getElem?_getD, List.getElem?_eq_none (by omega)]
  simp [bt]
theorem bits_snoc (b : List UInt8) (m : Nat) : (List.range (m + 1)).map (tb b) = (List.range m).map (tb b) ++ [tb b m] := by
  rw [List.range_succ, List.map_append]; rfl
theorem tb_at (b : List UInt8) (m k : Nat) (hk : k < 8) : tb b (8 * m + k) = bt (b.getD m 0) k := by
  unfold tb
  rw [show (8 * m + k) / 8 = m by omega, show (8 * m + k) % 8 = k by omega]

/-- The number of the c highest bits of eight. -/
def hb (f : Nat → Bool) : Nat → Nat
  | 0 => 0
  | c + 1 => 2 * hb f c + if f (7 - c) then 1 else 0
theorem hb_lt (f : Nat → Bool) (c : Nat) : hb f c < 2 ^ c := by
  induction c with
  | zero => simp [hb]
  | succ c ih => rw [hb, Nat.pow_succ]; split <;> omega
theorem hb_congr (f g : Nat → Bool) (h : ∀ k, k < 8 → f k = g k) : ∀ c, hb f c = hb g c := by
  intro c
  induction c with
  | zero => rfl
  | succ c ih => rw [hb, hb, ih, h (7 - c) (by omega)]
theorem hb_bt (x : UInt8) : UInt8.ofNat (hb (bt x) 8) = x := by
  have : ∀ n : Fin 256, UInt8.ofNat (hb (bt (UInt8.ofNat n)) 8) = UInt8.ofNat n := by decide +kernel
  have h := this ⟨x.toNat, x.toNat_lt⟩
  simpa using h
/-- Byte a of bits. -/
def byteAt (l : List Bool) (a : Nat) : UInt8 := UInt8.ofNat (hb (fun k => l.getD (8 * a + k) false) 8)
/-- The first m bytes of bits. -/
def bytesN (l : List Bool) (m : Nat) : List UInt8 := (List.range m).map (byteAt l)
theorem bytesN_succ (l : List Bool) (m : Nat) : bytesN l (m + 1) = bytesN l m ++ [byteAt l m] := by
  rw [bytesN, List.range_succ, List.map_append]; rfl
theorem bytesN_length (l : List Bool) (m : Nat) : (bytesN l m).length = m := by simp [bytesN]
theorem bytes_bits (b : List UInt8) : bytesN (bitsOf b) b.length = b := by
  apply List.ext_getElem?
  intro m
  rcases Nat.lt_or_ge m b.length with h | h
  · rw [bytesN, List.getElem?_map, List.getElem?_range h, Option.map_some, List.getElem?_eq_getElem h]
    congr 1
    unfold byteAt
    rw [hb_congr _ (bt (b.getD m 0)) (fun k hk => by rw [bits_get b _ (by omega), tb_at b m k hk]), hb_bt]
    simp [List.getD_eq_getElem?_getD, List.getElem?_eq_getElem h]
  · rw [List.getElem?_eq_none (by rw [bytesN_length]; exact h), List.getElem?_eq_none h]

/-- Is there such a bit? -/
def has (b : List UInt8) (i : Int) : Bool := decide (0 ≤ i) && decide (i < 8 * b.length)
theorem has_iff {b : List UInt8} {i : Int} : has b i = true ↔ 0 ≤ i ∧ i < 8 * b.length := by simp [has]
theorem has_no {b : List UInt8} {i : Int} (h : ¬ (0 ≤ i ∧ i < 8 * b.length)) : has b i = false := by
  rw [← Bool.not_eq_true, has_iff]; exact h
/-- A bit. -/
def get (b : List UInt8) (i : Int) : Bool := has b i && tb b i.toNat
/-- A byte with a bit set. -/
def setBit (x : UInt8) (k : Nat) (on : Bool) : UInt8 := if on then (if bt x k then x else UInt8.ofNat (x.toNat + 2 ^ k)) else (if bt x k then UInt8.ofNat (x.toNat - 2 ^ k) else x)
/-- Bytes with a bit set. -/
def setB (b : List UInt8) (i : Nat) (on : Bool) : List UInt8 := b.set (i / 8) (setBit (b.getD (i / 8) 0) (i % 8) on)
theorem setB_length (b : List UInt8) (i : Nat) (on : Bool) : (setB b i on).length = b.length := by simp [setB]
theorem bt_setBit (x : UInt8) (k j : Nat) (hk : k < 8) (hj : j < 8) (on : Bool) : bt (setBit x k on) j = if j = k then on else bt x j := by
  have : ∀ (n : Fin 256) (k j : Fin 8), (bt (setBit (UInt8.ofNat n) k true) j = if (j : Nat) = k then true else bt (UInt8.ofNat n) j) ∧ (bt (setBit (UInt8.ofNat n) k false) j = if (j : Nat) = k then false else bt (UInt8.ofNat n) j) := by decide +kernel
  have h := this ⟨x.toNat, x.toNat_lt⟩ ⟨k, hk⟩ ⟨j, hj⟩
  simp only [UInt8.ofNat_toNat] at h
  cases on
  · exact h.2
  · exact h.1
theorem tb_setB (b : List UInt8) (i : Nat) (on : Bool) (hi : i < 8 * b.length) (j : Nat) : tb (setB b i on) j = if j = i then on else tb b j := by
  unfold tb setB
  rw [List.getD_eq_getElem?_getD, List.getElem?_set]
  by_cases h : i / 8 = j / 8
  · rw [if_pos h, if_pos (by omega), Option.getD_some, bt_setBit _ _ _ (by omega) (by omega)]
    by_cases hij : j = i
    · rw [if_pos (by omega), if_pos hij]
    · rw [if_neg (by omega), if_neg hij, h]
  · rw [if_neg h, if_neg (by rintro rfl; exact h rfl), List.getD_eq_getElem?_getD]
theorem bits_setB (b : List UInt8) (i : Nat) (on : Bool) (hi : i < 8 * b.length) : bitsOf (setB b i on) = (bitsOf b).set i on := by
  apply List.ext_getElem?
  intro j
  rw [List.getElem?_set, bits_length]
  unfold bitsOf
  rw [setB_length]
  rcases Nat.lt_or_ge j (8 * b.length) with h | h
  · rw [List.getElem?_map, List.getElem?_range h, Option.map_some, tb_setB b i on hi]
    by_cases hij : i = j
    · rw [if_pos hij.symm, if_pos hij, if_pos hi]
    · rw [if_neg (fun e => hij e.symm), if_neg hij, List.getElem?_map, List.getElem?_range h]; rfl
  · rw [List.getElem?_eq_none (by simp; exact h), if_neg (by omega), List.getElem?_eq_none (by simp; exact h)]
theorem bytes_set (b : List UInt8) (i : Nat) (on : Bool) (hi : i < 8 * b.length) : bytesN ((bitsOf b).set i on) b.length = setB b i on := by
  rw [← bits_setB b i on hi]
  have := bytes_bits (setB b i on)
  rwa [setB_length] at this

/-- How many below n. -/
def cnt (p : Nat → Bool) : Nat → Nat
  | 0 => 0
  | n + 1 => cnt p n + if p n then 1 else 0
theorem cnt_le (p : Nat → Bool) (n : Nat) : cnt p n ≤ n := by
  induction n with
  | zero => simp [cnt]
  | succ n ih => rw [cnt]; split <;> omega
theorem cnt_congr (p q : Nat → Bool) (n : Nat) (h : ∀ i, i < n → p i = q i) : cnt p n = cnt q n := by
  induction n with
  | zero => rfl
  | succ n ih => rw [cnt, cnt, ih (fun i hi => h i (by omega)), h n (by omega)]
theorem cnt_one (p q : Nat → Bool) (i : Nat) (hp : p i = false) (hq : q i = true) (h : ∀ j, j ≠ i → p j = q j) (n : Nat) (hn : i < n) : cnt q n = cnt p n + 1 := by
  induction n with
  | zero => omega
  | succ n ih =>
    rw [cnt, cnt]
    by_cases e : i = n
    · subst e
      rw [cnt_congr p q i (fun j hj => h j (by omega)), hp, hq]
      simp
    · rw [ih (by omega), h n (fun x => e x.symm)]
      omega
/-- The first below n, or -1. -/
def fst (p : Nat → Bool) : Nat → Int
  | 0 => -1
  | n + 1 => if 0 ≤ fst p n then fst p n else if p n then n else -1
theorem fst_none (p : Nat → Bool) (n : Nat) (h : ∀ i, i < n → p i = false) : fst p n = -1 := by
  induction n with
  | zero => rfl
  | succ n ih => rw [fst, ih (fun i hi => h i (by omega)), if_neg (by omega), h n (by omega)]; rfl
theorem fst_some (p : Nat → Bool) (k : Nat) (h : ∀ i, i < k → p i = false) (hk : p k = true) (n : Nat) (hn : k < n) : fst p n = k := by
  induction n with
  | zero => omega
  | succ n ih =>
    rw [fst]
    by_cases e : k = n
    · subst e; rw [fst_none p k h, if_neg (by omega), hk]; rfl
    · rw [ih (by omega), if_pos (by omega)]
theorem fst_cases (p : Nat → Bool) (n : Nat) : (fst p n = -1 ∧ ∀ i, i < n → p i = false) ∨ ∃ k : Nat, k < n ∧ fst p n = k ∧ p k = true ∧ ∀ i, i < k → p i = false := by
  induction n with
  | zero => exact .inl ⟨rfl, fun i hi => by omega⟩
  | succ n ih =>
    rw [fst]
    rcases ih with ⟨e, h⟩ | ⟨k, hk, e, hp, h⟩
    · rw [e, if_neg (by omega)]
      by_cases hp : p n = true
      · rw [if_pos hp]; exact .inr ⟨n, by omega, rfl, hp, h⟩
      · rw [if_neg hp]
        refine .inl ⟨rfl, fun i hi => ?_⟩
        by_cases hi' : i = n
        · subst hi'; simpa using hp
        · exact h i (by omega)
    · rw [e, if_pos (by omega)]; exact .inr ⟨k, by omega, rfl, hp, h⟩

/-- Does i lie from f on, below t? -/
def inR (f t : Int) (i : Nat) : Bool := decide (f ≤ i) && decide ((i : Int) < t)
def setP (b : List UInt8) (f t : Int) (i : Nat) : Bool := tb b i && inR f t i
def freeP (b : List UInt8) (f t : Int) (i : Nat) : Bool := !tb b i && inR f t i
def count (b : List UInt8) (f t : Int) : Nat := cnt (setP b f t) (8 * b.length)
def first (b : List UInt8) (f t : Int) : Int := fst (freeP b f t) (8 * b.length)
def many (b : List UInt8) (f t : Int) : Nat := cnt (inR f t) (8 * b.length)
theorem count_le (b : List UInt8) (f t : Int) : count b f t ≤ 8 * b.length := cnt_le _ _
theorem many_le (b : List UInt8) (f t : Int) : many b f t ≤ 8 * b.length := cnt_le _ _

/-- None is first: all are counted. -/
theorem takes_none (b : List UInt8) (f t : Int) (h : first b f t < 0) : count b f t = many b f t := by
  rcases fst_cases (freeP b f t) (8 * b.length) with ⟨_, hn⟩ | ⟨k, _, e, _⟩
  · refine cnt_congr _ _ _ fun i hi => ?_
    have := hn i hi
    unfold freeP at this
    unfold setP
    cases h1 : tb b i <;> cases h2 : inR f t i <;> simp_all
  · unfold first at h; omega
/-- One is first: what follows. -/
theorem takes_some (b : List UInt8) (f t : Int) (h : 0 ≤ first b f t) :
    has b (first b f t) = true ∧ get b (first b f t) = false ∧ get (setB b (first b f t).toNat true) (first b f t) = true ∧ count (setB b (first b f t).toNat true) f t = count b f t + 1 ∧
      (first (setB b (first b f t).toNat true) f t = -1 ∨ first b f t < first (setB b (first b f t).toNat true) f t) := by
  rcases fst_cases (freeP b f t) (8 * b.length) with ⟨e, _⟩ | ⟨k, hk, e, hp, hn⟩
  · unfold first at h; omega
  · have e' : first b f t = k := e
    rw [e']
    have hk' : ((k : Int)).toNat = k := by omega
    rw [hk']
    have hh : has b k = true := has_iff.2 ⟨by omega, by omega⟩
    have hf : tb b k = false ∧ inR f t k = true := by unfold freeP at hp; simpa using hp
    have hs : ∀ j, tb (setB b k true) j = if j = k then true else tb b j := tb_setB b k true hk
    refine ⟨hh, by simp [get, hf.1], ?_, ?_, ?_⟩
    · have : has (setB b k true) k = true := has_iff.2 ⟨by omega, by rw [setB_length]; omega⟩
      rw [get, this, hk', hs, if_pos rfl]; rfl
    · unfold count
      rw [setB_length]
      refine cnt_one _ _ k ?_ ?_ ?_ _ hk
      · simp [setP, hf.1]
      · simp [setP, hs, hf.2]
      · intro j hj; simp [setP, hs, hj]
    · unfold first
      rw [setB_length]
      rcases fst_cases (freeP (setB b k true) f t) (8 * b.length) with ⟨e2, _⟩ | ⟨j, _, e2, hp2, _⟩
      · exact .inl e2
      · right
        rw [e2]
        by_cases hlt : j < k
        · have h1 := hn j hlt
          have h2 : freeP (setB b k true) f t j = freeP b f t j := by simp [freeP, hs, show ¬ j = k by omega]
          rw [h2, h1] at hp2; cases hp2
        · by_cases hjk : j = k
          · subst hjk
            simp [freeP, hs] at hp2
          · omega
end Bm
end Go.Proofs.Ytoblnmmbcdokgaa
