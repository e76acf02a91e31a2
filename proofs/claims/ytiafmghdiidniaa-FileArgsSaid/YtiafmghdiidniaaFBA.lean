/-
  2 texts in one (FA, FBA): each says at its own head what it holds.
-/
import Derived.Test.YtiafmghdiidniaaO
import Derived.Test.YtiafmghdiidniaaKA

section
/-
  PLAIN (no program): bytes as bits, bits as bytes; how many are set, which is the first.
-/
namespace Go.Proofs.Ytiafmghdiidniaa
namespace Bm

/-- Bit k of a byte. -/
def bt (x : UInt8) (k : Nat) : Bool := x.toNat / 2 ^ k % 2 == 1
/-- Bit i of bytes; what lies in no byte is 0. -/
def tb (b : List UInt8) (i : Nat) : Bool := bt (b.getD (i / 8) 0) (i % 8)
/-- Bytes as bits. -/
def bitsOf (b : List UInt8) : List Bool := (List.range (8 * b.length)).map (tb b)
theorem bits_length (b : List UInt8) : (bitsOf b).length = 8 * b.length := by simp [bitsOf]
theorem bits_get (b : List UInt8) (i : Nat) (h : i < 8 * b.length) : (bitsOf b).getD i false = tb b i := by
  rw [bitsOf, List.getD_eq_getElem?_getD, List.getElem?_map, List.getElem?_range h]; rfl
theorem tb_out (b : List UInt8) (i : Nat) (h : 8 * b.length ≤ i) : tb b i = false := by
  unfold tb
  rw [List.getD_eq_getElem?_getD, List.getElem?_eq_none (by omega)]
  simp [bt]
theorem bits_snoc (b : List UInt8) (m : Nat) : (List.range (m + 1)).map (tb b) = (List.range m).map (tb b) ++ [tb b m] := by
  rw [List.range_succ, List.map_append]; rfl
theorem tb_at (b : List UInt8) (m k : Nat) (hk : k < 8) : tb b (8 * m + k) = bt (b.getD m 0) k := by
  unfold tb
  rw [show (8 * m + k) / 8 = m by omega, show (8 * m + k) % 8 = k by omega]

/-- The number of the c highest bits of eight. -/
def hb (f : Nat → Bool) : Nat → Nat
  | 0 => 0
  | c + 1 => 2 * hb f c + if f (7 - c) then 1 else 0
theorem hb_lt (f : Nat → Bool) (c : Nat) : hb f c < 2 ^ c := by
  induction c with
  | zero => simp [hb]
  | succ c ih => rw [hb, Nat.pow_succ]; split <;> omega
theorem hb_congr (f g : Nat → Bool) (h : ∀ k, k < 8 → f k = g k) : ∀ c, hb f c = hb g c := by
  intro c
  induction c with
  | zero => rfl
  | succ c ih => rw [hb, hb, ih, h (7 - c) (by omega)]
theorem hb_bt (x : UInt8) : UInt8.ofNat (hb (bt x) 8) = x := by
  have : ∀ n : Fin 256, UInt8.ofNat (hb (bt (UInt8.ofNat n)) 8) = UInt8.ofNat n := by decide +kernel
  have h := this ⟨x.toNat, x.toNat_lt⟩
  simpa using h
/-- Byte a of bits. -/
def byteAt (l : List Bool) (a : Nat) : UInt8 := UInt8.ofNat (hb (fun k => l.getD (8 * a + k) false) 8)
/-- The first m bytes of bits. -/
def bytesN (l : List Bool) (m : Nat) : List UInt8 := (List.range m).map (byteAt l)
theorem bytesN_succ (l : List Bool) (m : Nat) : bytesN l (m + 1) = bytesN l m ++ [byteAt l m] := by
  rw [bytesN, List.range_succ, List.map_append]; rfl
theorem bytesN_length (l : List Bool) (m : Nat) : (bytesN l m).length = m := by simp [bytesN]
theorem bytes_bits (b : List UInt8) : bytesN (bitsOf b) b.length = b := by
  apply List.ext_getElem?
  intro m
  rcases Nat.lt_or_ge m b.length with h | h
  · rw [bytesN, List.getElem?_map, List.getElem?_range h, Option.map_some, List.getElem?_eq_getElem h]
    congr 1
    unfold byteAt
    rw [hb_congr _ (bt (b.getD m 0)) (fun k hk => by rw [bits_get b _ (by omega), tb_at b m k hk]), hb_bt]
    simp [List.getD_eq_getElem?_getD, List.getElem?_eq_getElem h]
  · rw [List.getElem?_eq_none (by rw [bytesN_length]; exact h), List.getElem?_eq_none h]

/-- Is there such a bit? -/
def has (b : List UInt8) (i : Int) : Bool := decide (0 ≤ i) && decide (i < 8 * b.length)
theorem has_iff {b : List UInt8} {i : Int} : has b i = true ↔ 0 ≤ i ∧ i < 8 * b.length := by simp [has]
theorem has_no {b : List UInt8} {i : Int} (h : ¬ (0 ≤ i ∧ i < 8 * b.length)) : has b i = false := by
  rw [← Bool.not_eq_true, has_iff]; exact h
/-- A bit. -/
def get (b : List UInt8) (i : Int) : Bool := has b i && tb b i.toNat
/-- A byte with a bit set. -/
def setBit (x : UInt8) (k : Nat) (on : Bool) : UInt8 := if on then (if bt x k then x else UInt8.ofNat (x.toNat + 2 ^ k)) else (if bt x k then UInt8.ofNat (x.toNat - 2 ^ k) else x)
/-- Bytes with a bit set. -/
def setB (b : List UInt8) (i : Nat) (on : Bool) : List UInt8 := b.set (i / 8) (setBit (b.getD (i / 8) 0) (i % 8) on)
theorem setB_length (b : List UInt8) (i : Nat) (on : Bool) : (setB b i on).length = b.length := by simp [setB]
theorem bt_setBit (x : UInt8) (k j : Nat) (hk : k < 8) (hj : j < 8) (on : Bool) : bt (setBit x k on) j = if j = k then on else bt x j := by
  have : ∀ (n : Fin 256) (k j : Fin 8), (bt (setBit (UInt8.ofNat n) k true) j = if (j : Nat) = k then true else bt (UInt8.ofNat n) j) ∧ (bt (setBit (UInt8.ofNat n) k false) j = if (j : Nat) = k then false else bt (UInt8.ofNat n) j) := by decide +kernel
  have h := this ⟨x.toNat, x.toNat_lt⟩ ⟨k, hk⟩ ⟨j, hj⟩
  simp only [UInt8.ofNat_toNat] at h
  cases on
  · exact h.2
  · exact h.1
theorem tb_setB (b : List UInt8) (i : Nat) (on : Bool) (hi : i < 8 * b.length) (j : Nat) : tb (setB b i on) j = if j = i then on else tb b j := by
  unfold tb setB
  rw [List.getD_eq_getElem?_getD, List.getElem?_set]
  by_cases h : i / 8 = j / 8
  · rw [if_pos h, if_pos (by omega), Option.getD_some, bt_setBit _ _ _ (by omega) (by omega)]
    by_cases hij : j = i
    · rw [if_pos (by omega), if_pos hij]
    · rw [if_neg (by omega), if_neg hij, h]
  · rw [if_neg h, if_neg (by rintro rfl; exact h rfl), List.getD_eq_getElem?_getD]
theorem bits_setB (b : List UInt8) (i : Nat) (on : Bool) (hi : i < 8 * b.length) : bitsOf (setB b i on) = (bitsOf b).set i on := by
  apply List.ext_getElem?
  intro j
  rw [List.getElem?_set, bits_length]
  unfold bitsOf
  rw [setB_length]
  rcases Nat.lt_or_ge j (8 * b.length) with h | h
  · rw [List.getElem?_map, List.getElem?_range h, Option.map_some, tb_setB b i on hi]
    by_cases hij : i = j
    · rw [if_pos hij.symm, if_pos hij, if_pos hi]
    · rw [if_neg (fun e => hij e.symm), if_neg hij, List.getElem?_map, List.getElem?_range h]; rfl
  · rw [List.getElem?_eq_none (by simp; exact h), if_neg (by omega), List.getElem?_eq_none (by simp; exact h)]
theorem bytes_set (b : List UInt8) (i : Nat) (on : Bool) (hi : i < 8 * b.length) : bytesN ((bitsOf b).set i on) b.length = setB b i on := by
  rw [← bits_setB b i on hi]
  have := bytes_bits (setB b i on)
  rwa [setB_length] at this

/-- How many below n. -/
def cnt (p : Nat → Bool) : Nat → Nat
  | 0 => 0
  | n + 1 => cnt p n + if p n then 1 else 0
theorem cnt_le (p : Nat → Bool) (n : Nat) : cnt p n ≤ n := by
  induction n with
  | zero => simp [cnt]
  | succ n ih => rw [cnt]; split <;> omega
theorem cnt_congr (p q : Nat → Bool) (n : Nat) (h : ∀ i, i < n → p i = q i) : cnt p n = cnt q n := by
  induction n with
  | zero => rfl
  | succ n ih => rw [cnt, cnt, ih (fun i hi => h i (by omega)), h n (by omega)]
theorem cnt_one (p q : Nat → Bool) (i : Nat) (hp : p i = false) (hq : q i = true) (h : ∀ j, j ≠ i → p j = q j) (n : Nat) (hn : i < n) : cnt q n = cnt p n + 1 := by
  induction n with
  | zero => omega
  | succ n ih =>
    rw [cnt, cnt]
    by_cases e : i = n
    · subst e
      rw [cnt_congr p q i (fun j hj => h j (by omega)), hp, hq]
      simp
    · rw [ih (by omega), h n (fun x => e x.symm)]
      omega
/-- The first below n, or -1. -/
def fst (p : Nat → Bool) : Nat → Int
  | 0 => -1
  | n + 1 => if 0 ≤ fst p n then fst p n else if p n then n else -1
theorem fst_none (p : Nat → Bool) (n : Nat) (h : ∀ i, i < n → p i = false) : fst p n = -1 := by
  induction n with
  | zero => rfl
  | succ n ih => rw [fst, ih (fun i hi => h i (by omega)), if_neg (by omega), h n (by omega)]; rfl
theorem fst_some (p : Nat → Bool) (k : Nat) (h : ∀ i, i < k → p i = false) (hk : p k = true) (n : Nat) (hn : k < n) : fst p n = k := by
  induction n with
  | zero => omega
  | succ n ih =>
    rw [fst]
    by_cases e : k = n
    · subst e; rw [fst_none p k h, if_neg (by omega), hk]; rfl
    · rw [ih (by omega), if_pos (by omega)]
theorem fst_cases (p : Nat → Bool) (n : Nat) : (fst p n = -1 ∧ ∀ i, i < n → p i = false) ∨ ∃ k : Nat, k < n ∧ fst p n = k ∧ p k = true ∧ ∀ i, i < k → p i = false := by
  induction n with
  | zero => exact .inl ⟨rfl, fun i hi => by omega⟩
  | succ n ih =>
    rw [fst]
    rcases ih with ⟨e, h⟩ | ⟨k, hk, e, hp, h⟩
    · rw [e, if_neg (by omega)]
      by_cases hp : p n = true
      · rw [if_pos hp]; exact .inr ⟨n, by omega, rfl, hp, h⟩
      · rw [if_neg hp]
        refine .inl ⟨rfl, fun i hi => ?_⟩
        by_cases hi' : i = n
        · subst hi'; simpa using hp
        · exact h i (by omega)
    · rw [e, if_pos (by omega)]; exact .inr ⟨k, by omega, rfl, hp, h⟩

/-- Does i lie from f on, below t? -/
def inR (f t : Int) (i : Nat) : Bool := decide (f ≤ i) && decide ((i : Int) < t)
def setP (b : List UInt8) (f t : Int) (i : Nat) : Bool := tb b i && inR f t i
def freeP (b : List UInt8) (f t : Int) (i : Nat) : Bool := !tb b i && inR f t i
def count (b : List UInt8) (f t : Int) : Nat := cnt (setP b f t) (8 * b.length)
def first (b : List UInt8) (f t : Int) : Int := fst (freeP b f t) (8 * b.length)
def many (b : List UInt8) (f t : Int) : Nat := cnt (inR f t) (8 * b.length)
theorem count_le (b : List UInt8) (f t : Int) : count b f t ≤ 8 * b.length := cnt_le _ _
theorem many_le (b : List UInt8) (f t : Int) : many b f t ≤ 8 * b.length := cnt_le _ _

/-- None is first: all are counted. -/
theorem takes_none (b : List UInt8) (f t : Int) (h : first b f t < 0) : count b f t = many b f t := by
  rcases fst_cases (freeP b f t) (8 * b.length) with ⟨_, hn⟩ | ⟨k, _, e, _⟩
  · refine cnt_congr _ _ _ fun i hi => ?_
    have := hn i hi
    unfold freeP at this
    unfold setP
    cases h1 : tb b i <;> cases h2 : inR f t i <;> simp_all
  · unfold first at h; omega
/-- One is first: what follows. -/
theorem takes_some (b : List UInt8) (f t : Int) (h : 0 ≤ first b f t) :
    has b (first b f t) = true ∧ get b (first b f t) = false ∧ get (setB b (first b f t).toNat true) (first b f t) = true ∧ count (setB b (first b f t).toNat true) f t = count b f t + 1 ∧
      (first (setB b (first b f t).toNat true) f t = -1 ∨ first b f t < first (setB b (first b f t).toNat true) f t) := by
  rcases fst_cases (freeP b f t) (8 * b.length) with ⟨e, _⟩ | ⟨k, hk, e, hp, hn⟩
  · unfold first at h; omega
  · have e' : first b f t = k := e
    rw [e']
    have hk' : ((k : Int)).toNat = k := by omega
    rw [hk']
    have hh : has b k = true := has_iff.2 ⟨by omega, by omega⟩
    have hf : tb b k = false ∧ inR f t k = true := by unfold freeP at hp; simpa using hp
    have hs : ∀ j, tb (setB b k true) j = if j = k then true else tb b j := tb_setB b k true hk
    refine ⟨hh, by simp [get, hf.1], ?_, ?_, ?_⟩
    · have : has (setB b k true) k = true := has_iff.2 ⟨by omega, by rw [setB_length]; omega⟩
      rw [get, this, hk', hs, if_pos rfl]; rfl
    · unfold count
      rw [setB_length]
      refine cnt_one _ _ k ?_ ?_ ?_ _ hk
      · simp [setP, hf.1]
      · simp [setP, hs, hf.2]
      · intro j hj; simp [setP, hs, hj]
    · unfold first
      rw [setB_length]
      rcases fst_cases (freeP (setB b k true) f t) (8 * b.length) with ⟨e2, _⟩ | ⟨j, _, e2, hp2, _⟩
      · exact .inl e2
      · right
        rw [e2]
        by_cases hlt : j < k
        · have h1 := hn j hlt
          have h2 : freeP (setB b k true) f t j = freeP b f t j := by simp [freeP, hs, show ¬ j = k by omega]
          rw [h2, h1] at hp2; cases hp2
        · by_cases hjk : j = k
          · subst hjk
            simp [freeP, hs] at hp2
          · omega
end Bm
end Go.Proofs.Ytiafmghdiidniaa
end

section
/-
  THE WALK of the reference's Bits.
-/
namespace Go.Proofs.Ytiafmghdiidniaa
open Go.RowKit Bm

theorem infoB1 : (Try.prog.info? 4).map (fun i => (i.zero, i.size, i.bytes)) = some (some (.bool false), 1, 1) := by kernel_rfl
theorem oneCB (l : List Bool) : ∀ y ∈ l.map Value.bool, y.oneCell' = true := fun y hy => by obtain ⟨x, _, rfl⟩ := List.mem_map.1 hy; rfl
/-- The first m bits of bytes. -/
def bitsN (b : List UInt8) (m : Nat) : List Bool := (List.range m).map (tb b)
theorem bitsN_length (b : List UInt8) (m : Nat) : (bitsN b m).length = m := by simp [bitsN]
theorem bitsN_succ (b : List UInt8) (m : Nat) : bitsN b (m + 1) = bitsN b m ++ [tb b m] := bits_snoc b m
theorem bt_half (x : UInt8) (j : Nat) : (((x.toNat / 2 ^ j : Nat) : Int) % 2 == 1) = bt x j := by
  unfold bt
  rcases Nat.mod_two_eq_zero_or_one (x.toNat / 2 ^ j) with h | h
  · rw [h, show (((x.toNat / 2 ^ j : Nat) : Int) % 2) = 0 by omega]; rfl
  · rw [h, show (((x.toNat / 2 ^ j : Nat) : Int) % 2) = 1 by omega]; rfl

set_option maxRecDepth 100000 in
set_option maxHeartbeats 1000000 in
theorem RBits_any (b : List UInt8) (hl : b.length ≤ 1000) (v : Value) (w : World) (h : Arg w v b) :
    Calls Try.prog 40 #[v] w fun e w' => ∃ r, e = .returned r ∧ Hid (Own w' w.heap.size 4 r ((bitsOf b).map Value.bool)) ∧ Below w.heap.size w w' := by
  obtain ⟨A, cap, rfl, hs⟩ := (arg_from h).parts
  rw [List.length_map] at hs ⊢
  obtain ⟨n, hnl⟩ : ∃ n, n = b.length := ⟨_, rfl⟩
  rw [← hnl] at hs hl ⊢
  have HS := Lib.hid hs
  have HNl := Lib.hid hnl
  clear hs hnl h
  go_enter Try.func40, Try.ntmps40
  go_wp2
  go_loopw [3, 4, 5, 6] (fun out i _ _ wr => ∃ k : Nat, k ≤ n ∧ i = .int .i64 k ∧ Hid (Own wr w.heap.size 4 out ((bitsN b (8 * k)).map Value.bool)) ∧ Hid (Below w.heap.size w wr)) (fun _ i _ _ _ => n - (intOf i).toNat)
  case atStart => exact ⟨0, by omega, rfl, Own.nil _ _ _, Below.refl _ _⟩
  case round =>
    obtain ⟨k, hk, rfl, Hown, Hbel⟩ := hrel
    by_cases hlt : k < n
    · obtain ⟨bb, o, rfl, hb, hsee⟩ := HS.out (by omega)
      have hx := at8 (hsee.below Hbel.out hb) k (by rw [← HNl.out]; exact hlt)
      have Htb := Lib.hid (tb_at b k)
      clear hsee HS
      generalize b.getD k 0 = x at *
      have hx8 := lt8 x
      go_wp2
      go_loopw [3, 5, 6] (fun out nn kk wr => ∃ j y : Nat, j ≤ 8 ∧ kk = .int .i64 j ∧ nn = .int .u8 y ∧ y < 256 ∧ Hid (y = x.toNat / 2 ^ j) ∧ Hid (Own wr w.heap.size 4 out ((bitsN b (8 * k + j)).map Value.bool)) ∧ Hid (Below w.heap.size w wr)) (fun _ _ kk _ => 8 - (intOf kk).toNat)
      case atStart => exact ⟨0, x.toNat, by omega, rfl, rfl, hx8, by show _ = _; simp, Hown, Hbel⟩
      case round =>
        rename World => w2
        clear hx Hown Hbel
        obtain ⟨j, y, hj, rfl, rfl, hy, Hy, Hown, Hbel⟩ := hrel
        by_cases hj8 : j < 8
        · have HB : Hid (((y : Int) % 2 == 1) = tb b (8 * k + j)) := by
            show _ = _
            rw [Hy.out, bt_half, Htb.out j hj8]
          have HL : Hid (((bitsN b (8 * k + j)).map Value.bool).length + 1 ≤ 100000000) := by show _ ≤ _; rw [List.length_map, bitsN_length]; omega
          have HB2 := Lib.hid (Hbel.out.size)
          go_wp2_with (at_builtin; refine wpList_app rfl (.tmp 21) (.tmp 25) 34 rfl w.heap.size 4 Try.underlying34 infoB1 rfl (by decide) _ ((bitsN b (8 * k + j)).map Value.bool) rfl (Hown.out.alloc _) _ [.bool ((y : Int) % 2 == 1)] rfl (from_new w2 4 [.bool ((y : Int) % 2 == 1)]) (oneCB [(y : Int) % 2 == 1]) HL.out (by have := HB2.out; simp; omega) ?_; intro v' w3 hown3 hg3 _)
          have HO3 : Hid (Own w3 w.heap.size 4 v' ((bitsN b (8 * k + (j + 1))).map Value.bool)) := by
            rw [← Nat.add_assoc, bitsN_succ, List.map_append, ← HB.out]
            exact hown3
          have HB3 : Hid (Below w.heap.size w w3) := below_app (Hbel.out.alloc Hbel.out.size _) (Hown.out.alloc _) hg3 (Nat.le_refl _) (by have := HB2.out; simp; omega)
          clear hown3 hg3 Hown Hbel HB HL HB2
          have Hy' : Hid (y / 2 = x.toNat / 2 ^ (j + 1)) := by show _ = _; rw [Hy.out, Nat.pow_succ, Nat.div_div_eq_div_mul]
          go_wp2
          go_roundw
          case rel => exact ⟨j + 1, y / 2, by omega, by go_num, by rw [Int.natCast_ediv]; rfl, by omega, Hy', HO3, HB3⟩
          case measure => simp [intOf] <;> omega
        · obtain rfl : j = 8 := by omega
          go_wp2
          go_roundw
          case rel => exact ⟨k + 1, by omega, by go_num, by rw [show 8 * (k + 1) = 8 * k + 8 by omega]; exact Hown, Hbel⟩
          case measure => simp [intOf] <;> omega
    · obtain rfl : k = n := by omega
      go_wp2
      go_ret
      have : bitsOf b = bitsN b (8 * k) := by rw [HNl.out]; rfl
      rw [this]
      exact ⟨_, rfl, Hown, Hbel.out⟩

/-- A slice of bytes that lie from block B on. -/
def ArgHi (w : World) (B : Nat) (v : Value) (bs : List UInt8) : Prop :=
  (∃ A, v = .slice A 0 0 ∧ bs = []) ∨ ∃ b o cap, v = .slice (some ⟨b, o, none⟩) bs.length cap ∧ B ≤ b ∧ b < w.heap.size ∧ bs.length ≤ cap ∧ Sees w b o (bs.map V8)
theorem ArgHi.arg {w : World} {B : Nat} {v : Value} {bs : List UInt8} (h : ArgHi w B v bs) : Arg w v bs := by
  rcases h with h | ⟨b, o, cap, e, _, hl, hc, hs⟩
  · exact .inl h
  · exact .inr ⟨b, o, cap, e, hl, hc, hs⟩
theorem ArgHi.below {w w' : World} {B : Nat} {v : Value} {bs : List UInt8} (h : ArgHi w B v bs) (hb : Below w.heap.size w w') : ArgHi w' B v bs := by
  rcases h with h | ⟨b, o, cap, e, hB, hl, hc, hs⟩
  · exact .inl h
  · exact .inr ⟨b, o, cap, e, hB, Nat.lt_of_lt_of_le hl hb.size, hc, hs.below hb hl⟩
/-- A cell below is turned. -/
theorem ArgHi.turned {w : World} {B : Nat} {v : Value} {bs : List UInt8} (h : ArgHi w B v bs) {p : Addr} (hp : p.block < B) (u : Value) : Arg (w.setCell p u) v bs := by
  rcases h with h | ⟨b, o, cap, e, hB, hl, hc, hs⟩
  · exact .inl h
  · exact .inr ⟨b, o, cap, e, by simpa [World.setCell] using hl, hc, hs.setCell (by omega) u⟩
theorem Own.argHi {w : World} {B : Nat} {v : Value} {bs : List UInt8} (h : Own w B 5 v (bs.map V8)) : ArgHi w B v bs := by
  rcases h.2 with ⟨rfl, h0⟩ | ⟨g, cap, cur, rfl, hB, hg, hc, _⟩
  · exact .inl ⟨none, rfl, List.eq_nil_of_length_eq_zero (by simpa using h0)⟩
  · rw [List.length_map] at hc
    refine .inr ⟨g, 0, cap, by rw [List.length_map], hB, (Array.getElem?_eq_some_iff.1 hg).1, hc, fun j u hu => ?_⟩
    have := World.ownsRow.cells h (g := g) rfl j u hu
    rwa [add_off] at this
end Go.Proofs.Ytiafmghdiidniaa
end
