/-
  PLAIN (no program): numbers as bytes of given widths, and back.
-/
import Derived.Test.YtaamhdgngnpmoaaO
namespace Go.Proofs.Ytaamhdgngnpmoaa
namespace Cdc

/-- The last k bytes of a number, the most significant one first. -/
def big : Nat → Nat → List UInt8
  | 0, _ => []
  | k + 1, n => big k (n / 256) ++ [UInt8.ofNat n]
theorem big_length (k : Nat) : ∀ n, (big k n).length = k := by
  induction k with
  | zero => intro n; rfl
  | succ k ih => intro n; simp [big, ih]
/-- The number that bytes are, the most significant one first, behind the number acc. -/
def num : Nat → List UInt8 → Nat
  | acc, [] => acc
  | acc, x :: l => num (acc * 256 + x.toNat) l
theorem num_append (l : List UInt8) : ∀ (acc : Nat) (x : UInt8), num acc (l ++ [x]) = num acc l * 256 + x.toNat := by
  induction l with
  | nil => intro acc x; rfl
  | cons y l ih => intro acc x; exact ih _ _
theorem num_lt (l : List UInt8) : ∀ acc c, acc < c → num acc l < c * 256 ^ l.length := by
  induction l with
  | nil => intro acc c h; simpa [num] using h
  | cons x l ih =>
    intro acc c h
    have hx := lt8 x
    have := ih (acc * 256 + x.toNat) (c * 256) (by omega)
    rw [num, List.length_cons, Nat.pow_succ, Nat.mul_comm (256 ^ l.length) 256, ← Nat.mul_assoc]
    exact this
theorem num_big (k : Nat) : ∀ n, n < 256 ^ k → num 0 (big k n) = n := by
  induction k with
  | zero => intro n h; simp at h; simp [big, num, h]
  | succ k ih =>
    intro n h
    rw [Nat.pow_succ] at h
    rw [big, num_append, ih (n / 256) (by omega), UInt8.toNat_ofNat']
    omega
theorem big_num (k : Nat) : ∀ l : List UInt8, l.length = k → big k (num 0 l) = l := by
  induction k with
  | zero => intro l h; rw [List.eq_nil_of_length_eq_zero h]; rfl
  | succ k ih =>
    intro l h
    have hne : l ≠ [] := fun e => by rw [e] at h; simp at h
    obtain ⟨m, z, rfl⟩ : ∃ m z, l = m ++ [z] := ⟨l.dropLast, l.getLast hne, (List.dropLast_concat_getLast hne).symm⟩
    have hz := lt8 z
    have hm : m.length = k := by simpa using h
    rw [num_append, big]
    have e1 : (num 0 m * 256 + z.toNat) / 256 = num 0 m := by omega
    have e2 : UInt8.ofNat (num 0 m * 256 + z.toNat) = z := by
      apply UInt8.toNat_inj.1
      rw [UInt8.toNat_ofNat']
      omega
    rw [e1, e2, ih m hm]
theorem big_step (k m n : Nat) (h : m < k) : big (k - (m + 1)) (n / 256 ^ (m + 1)) ++ [UInt8.ofNat (n / 256 ^ m)] = big (k - m) (n / 256 ^ m) := by
  obtain ⟨j, hj⟩ : ∃ j, k - m = j + 1 := ⟨k - m - 1, by omega⟩
  rw [show k - (m + 1) = j by omega, hj, big, Nat.pow_succ, Nat.div_div_eq_div_mul]

/-- A width. -/
def okw (x : Int) : Bool := decide (1 ≤ x) && decide (x ≤ 8)
theorem okw_iff {x : Int} : okw x = true ↔ 1 ≤ x ∧ x ≤ 8 := by simp [okw]
/-- The sum of widths. -/
def sumw : List Int → Nat
  | [] => 0
  | x :: l => x.toNat + sumw l
theorem sumw_append (a b : List Int) : sumw (a ++ b) = sumw a + sumw b := by
  induction a with
  | nil => simp [sumw]
  | cons x a ih => simp [sumw, ih]; omega
theorem sumw_le (a : List Int) (h : a.all okw = true) : sumw a ≤ 8 * a.length := by
  induction a with
  | nil => simp [sumw]
  | cons x a ih =>
    simp only [List.all_cons, Bool.and_eq_true, okw_iff] at h
    have := ih h.2
    simp only [sumw, List.length_cons]
    omega
/-- How many bytes; -1: a width may not be. -/
def wide (ws : List Int) : Int := if ws.all okw = true then (sumw ws : Int) else -1
theorem wide_ok {ws : List Int} (h : ws.all okw = true) : wide ws = (sumw ws : Int) := if_pos h
theorem wide_bad {ws : List Int} (h : ¬ ws.all okw = true) : wide ws = -1 := if_neg h
theorem wide_neg {ws : List Int} : wide ws < 0 ↔ ¬ ws.all okw = true := by
  unfold wide
  split <;> simp_all

/-- Are numbers less than 256 to the power of their widths? -/
def fit : List Int → List Nat → Bool
  | x :: ws, n :: l => decide (n < 256 ^ x.toNat) && fit ws l
  | _, _ => true
/-- The bytes of numbers. -/
def encs : List Int → List Nat → List UInt8
  | x :: ws, n :: l => big x.toNat n ++ encs ws l
  | _, _ => []
/-- The numbers of bytes. -/
def nums : List Int → List UInt8 → List Nat
  | [], _ => []
  | x :: ws, b => num 0 (b.take x.toNat) :: nums ws (b.drop x.toNat)
theorem nums_length (ws : List Int) : ∀ b, (nums ws b).length = ws.length := by
  induction ws with
  | nil => intro b; rfl
  | cons x ws ih => intro b; simp [nums, ih]
theorem encs_length (ws : List Int) : ∀ l : List Nat, ws.length = l.length → (encs ws l).length = sumw ws := by
  induction ws with
  | nil => intro l h; cases l <;> simp_all [encs, sumw]
  | cons x ws ih =>
    intro l h
    cases l with
    | nil => simp at h
    | cons n l => simp only [encs, sumw, List.length_append, big_length, ih l (by simpa using h)]
theorem encs_append (a : List Int) : ∀ (l : List Nat) (x : Int) (n : Nat), a.length = l.length → encs (a ++ [x]) (l ++ [n]) = encs a l ++ big x.toNat n := by
  induction a with
  | nil => intro l x n h; cases l <;> simp_all [encs]
  | cons y a ih =>
    intro l x n h
    cases l with
    | nil => simp at h
    | cons m l => simp only [List.cons_append, encs, ih l x n (by simpa using h), List.append_assoc]
theorem fit_append (a : List Int) : ∀ (l : List Nat) (x : Int) (n : Nat), a.length = l.length → fit (a ++ [x]) (l ++ [n]) = (fit a l && decide (n < 256 ^ x.toNat)) := by
  induction a with
  | nil => intro l x n h; cases l <;> simp_all [fit]
  | cons y a ih =>
    intro l x n h
    cases l with
    | nil => simp at h
    | cons m l => simp only [List.cons_append, fit, ih l x n (by simpa using h), Bool.and_assoc]
theorem fit_app (a : List Int) : ∀ (l : List Nat) (c : List Int) (d : List Nat), a.length = l.length → fit (a ++ c) (l ++ d) = (fit a l && fit c d) := by
  induction a with
  | nil => intro l c d h; cases l <;> simp_all [fit]
  | cons y a ih =>
    intro l c d h
    cases l with
    | nil => simp at h
    | cons m l => simp only [List.cons_append, fit, ih l c d (by simpa using h), Bool.and_assoc]
theorem fit_take {ws : List Int} {l : List Nat} (k : Nat) (hl : ws.length = l.length) (h : fit (ws.take k) (l.take k) = false) : fit ws l = false := by
  have := fit_app (ws.take k) (l.take k) (ws.drop k) (l.drop k) (by simp [hl])
  rw [List.take_append_drop, List.take_append_drop, h] at this
  simpa using this
theorem pow_eight (k : Nat) : 2 ^ (8 * k) = 256 ^ k := by rw [Nat.pow_mul]
theorem shr_big (x : Int) (hx : 0 ≤ x) (y : Nat) : (y : Int) / 2 ^ (8 * x).toNat = ((y / 256 ^ x.toNat : Nat) : Int) := by
  have e : (8 * x).toNat = 8 * x.toNat := by omega
  rw [e, ← pow_eight, Int.natCast_ediv]
  congr 1
theorem shr_fit (x : Int) (hx : 0 ≤ x) (y : Nat) : ((y : Int) / 2 ^ (8 * x).toNat != 0) = !decide (y < 256 ^ x.toNat) := by
  have hp : 0 < 256 ^ x.toNat := Nat.pow_pos (by omega)
  rw [shr_big x hx]
  by_cases h : y < 256 ^ x.toNat
  · simp [Nat.div_eq_of_lt h, h]
  · have : y / 256 ^ x.toNat ≠ 0 := by
      intro e
      rcases Nat.div_eq_zero_iff.1 e with e | e <;> omega
    simp only [h, decide_false, Bool.not_false, bne_iff_ne, ne_eq]
    omega
theorem or_byte (a x : Nat) (ha : a < 2 ^ 56) (hx : x < 256) : bits .or .u64 ((a : Int) * 256) (x : Int) = ((a * 256 + x : Nat) : Int) := by
  have e : (a : Int) * 256 = ((a * 256 : Nat) : Int) := by omega
  rw [e, u64_or_nat _ _ (by omega) (by omega)]
  congr 1
  have := Nat.shiftLeft_add_eq_or_of_lt (i := 8) (by omega : x < 2 ^ 8) a
  rw [Nat.shiftLeft_eq] at this
  exact this.symm
theorem nums_append (a : List Int) : ∀ (b : List UInt8) (x : Int), nums (a ++ [x]) b = nums a b ++ [num 0 ((b.drop (sumw a)).take x.toNat)] := by
  induction a with
  | nil => intro b x; simp [nums, sumw]
  | cons y a ih =>
    intro b x
    simp only [List.cons_append, nums, ih, sumw, List.drop_drop]
theorem nums_encs (ws : List Int) : ∀ l : List Nat, ws.length = l.length → fit ws l = true → nums ws (encs ws l) = l := by
  induction ws with
  | nil => intro l h _; cases l <;> simp_all [nums]
  | cons x ws ih =>
    intro l h hf
    cases l with
    | nil => simp at h
    | cons n l =>
      simp only [fit, Bool.and_eq_true, decide_eq_true_eq] at hf
      have hb := big_length x.toNat n
      simp only [encs, nums]
      rw [List.take_left' hb, List.drop_left' hb, num_big _ _ hf.1, ih l (by simpa using h) hf.2]
theorem encs_nums (ws : List Int) : ∀ b : List UInt8, b.length = sumw ws → encs ws (nums ws b) = b := by
  induction ws with
  | nil => intro b h; rw [List.eq_nil_of_length_eq_zero h]; rfl
  | cons x ws ih =>
    intro b h
    simp only [sumw] at h
    simp only [nums, encs]
    rw [big_num _ _ (by rw [List.length_take]; omega), ih _ (by rw [List.length_drop]; omega), List.take_append_drop]
theorem fit_nums (ws : List Int) : ∀ b : List UInt8, b.length = sumw ws → fit ws (nums ws b) = true := by
  induction ws with
  | nil => intro b _; rfl
  | cons x ws ih =>
    intro b h
    simp only [sumw] at h
    simp only [nums, fit, Bool.and_eq_true, decide_eq_true_eq]
    refine ⟨?_, ih _ (by rw [List.length_drop]; omega)⟩
    have := num_lt (b.take x.toNat) 0 1 (by omega)
    rw [List.length_take, Nat.min_eq_left (by omega)] at this
    omega
theorem nums_lt (ws : List Int) (hw : ws.all okw = true) : ∀ (b : List UInt8), ∀ n ∈ nums ws b, n < 2 ^ 64 := by
  induction ws with
  | nil => intro b n h; simp [nums] at h
  | cons x ws ih =>
    intro b n h
    simp only [List.all_cons, Bool.and_eq_true, okw_iff] at hw
    simp only [nums, List.mem_cons] at h
    rcases h with rfl | h
    · have := num_lt (b.take x.toNat) 0 1 (by omega)
      have h8 : 256 ^ (b.take x.toNat).length ≤ 256 ^ 8 := Nat.pow_le_pow_right (by omega) (by rw [List.length_take]; omega)
      have : (256 : Nat) ^ 8 = 2 ^ 64 := by decide
      omega
    · exact ih hw.2 _ n h

/-- May numbers be put? -/
def okP (ws : List Int) (l : List Nat) : Bool := ws.all okw && decide (ws.length = l.length) && fit ws l
/-- What is put. -/
def putB (ws : List Int) (l : List Nat) : List UInt8 := if okP ws l then encs ws l else []
/-- May bytes be got? -/
def okG (ws : List Int) (b : List UInt8) : Bool := ws.all okw && decide (b.length = sumw ws)
/-- What is got. -/
def getL (ws : List Int) (b : List UInt8) : List Nat := if okG ws b then nums ws b else []
theorem okP_iff {ws : List Int} {l : List Nat} : okP ws l = true ↔ ws.all okw = true ∧ ws.length = l.length ∧ fit ws l = true := by
  simp only [okP, Bool.and_eq_true, decide_eq_true_eq, and_assoc]
theorem okG_iff {ws : List Int} {b : List UInt8} : okG ws b = true ↔ ws.all okw = true ∧ b.length = sumw ws := by
  simp only [okG, Bool.and_eq_true, decide_eq_true_eq]
theorem okG_wide {ws : List Int} {b : List UInt8} : okG ws b = true ↔ wide ws = (b.length : Int) := by
  rw [okG_iff]
  by_cases h : ws.all okw = true
  · rw [wide_ok h]
    constructor
    · intro h1; rw [h1.2]
    · intro h1; exact ⟨h, by omega⟩
  · rw [wide_bad h]
    constructor
    · intro h1; exact absurd h1.1 h
    · intro h1; omega
theorem back_put {ws : List Int} {l : List Nat} (h : okP ws l = true) : okG ws (putB ws l) = true ∧ getL ws (putB ws l) = l := by
  obtain ⟨h1, h2, h3⟩ := okP_iff.1 h
  have hg : okG ws (putB ws l) = true := by
    rw [putB, if_pos h]
    exact okG_iff.2 ⟨h1, encs_length ws l h2⟩
  refine ⟨hg, ?_⟩
  rw [getL, if_pos hg, putB, if_pos h, nums_encs ws l h2 h3]
theorem back_get {ws : List Int} {b : List UInt8} (h : okG ws b = true) : okP ws (getL ws b) = true ∧ putB ws (getL ws b) = b := by
  obtain ⟨h1, h2⟩ := okG_iff.1 h
  have hp : okP ws (getL ws b) = true := by
    rw [getL, if_pos h]
    exact okP_iff.2 ⟨h1, (nums_length ws b).symm, fit_nums ws b h2⟩
  refine ⟨hp, ?_⟩
  rw [putB, if_pos hp, getL, if_pos h, encs_nums ws b h2]
end Cdc

/-- The number of the error that is told. -/
def errI (ok : Bool) : Int := if ok then 0 else 1
theorem errI_ok {b : Bool} (h : b = true) : errI b = 0 := by rw [h]; rfl
theorem errI_bad {b : Bool} (h : ¬ b = true) : errI b = 1 := by rw [Bool.not_eq_true] at h; rw [h]; rfl

theorem byte_shr (y i : Nat) : V8 (UInt8.ofNat (y / 256 ^ i)) = .int .u8 ((y : Int) / 2 ^ (8 * i) % 256) := by
  unfold V8
  congr 1
  rw [← byte_eq, Int.natCast_ediv, ← Cdc.pow_eight, Int.natCast_pow]
  rfl

/-- Ints as cells; numbers as cells. -/
def VI (x : Int) : Value := .int .i64 x
def VU (n : Nat) : Value := .int .u64 (n : Int)
/-- A slice that is read, its parts. -/
theorem From.parts {w : World} {v : Value} {ys : List Value} (h : From w v ys) : ∃ A cap, v = .slice A ys.length cap ∧ (0 < ys.length → ∃ b o, A = some ⟨b, o, none⟩ ∧ b < w.heap.size ∧ Sees w b o ys) := by
  rcases h with ⟨A, e, rfl⟩ | ⟨b, o, c, e, hl, hs⟩
  · exact ⟨A, 0, e, fun h => by simp at h⟩
  · exact ⟨_, c, e, fun _ => ⟨b, o, rfl, hl, hs⟩⟩
theorem atI {w : World} {b off : Nat} {ws : List Int} (h : Sees w b off (ws.map VI)) (i : Nat) (hi : i < ws.length) : w.cell? ⟨b, off + i, none⟩ = some (.int .i64 (ws.getD i 0)) :=
  h.at_ (by rw [List.getElem?_map, List.getElem?_eq_getElem hi]; simp [VI, hi])
theorem atU {w : World} {b off : Nat} {l : List Nat} (h : Sees w b off (l.map VU)) (i : Nat) (hi : i < l.length) : w.cell? ⟨b, off + i, none⟩ = some (.int .u64 ((l.getD i 0 : Nat) : Int)) :=
  h.at_ (by rw [List.getElem?_map, List.getElem?_eq_getElem hi]; simp [VU, hi])
theorem take_snoc {α : Type} (l : List α) (i : Nat) (hi : i < l.length) (d : α) : l.take (i + 1) = l.take i ++ [l.getD i d] := by
  rw [List.take_succ_eq_append_getElem hi, List.getD_eq_getElem?_getD, List.getElem?_eq_getElem hi]; rfl
end Go.Proofs.Ytaamhdgngnpmoaa
