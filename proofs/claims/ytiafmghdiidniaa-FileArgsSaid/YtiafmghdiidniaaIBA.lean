/-
  2 texts in one (IA, IBA): each says at its own head what it holds.
-/
import Derived.Test.YtiafmghdiidniaaKA
import Derived.Deep.RegionHeld3

section
/-
  PLAIN (no program): inodes.
-/
namespace Go.Proofs.Ytiafmghdiidniaa
open Cdc
namespace Inn

/-- An inode: its kind, its bytes, its four blocks, the indirect one. -/
structure Ino where
  k : Int
  b : Int
  b0 : Int
  b1 : Int
  b2 : Int
  b3 : Int
  d : Int
deriving DecidableEq
/-- Its numbers. -/
def Ino.l (x : Ino) : List Int := [x.k, x.b, x.b0, x.b1, x.b2, x.b3, x.d]
theorem Ino.ext_l {x y : Ino} (h : x.l = y.l) : x = y := by
  cases x; cases y
  simp only [Ino.l, List.cons.injEq, and_true] at h
  simp only [Ino.mk.injEq]
  exact h
def zero : Ino := ⟨0, 0, 0, 0, 0, 0, 0⟩
/-- Ints. -/
def In64 (i : Int) : Prop := -9223372036854775808 ≤ i ∧ i ≤ 9223372036854775807
def Ino.fits (x : Ino) : Prop := ∀ z ∈ x.l, In64 z

/-- How many blocks a file's bytes need; and all in all. -/
def data (n : Int) : Nat := ((n + 63) / 64).toNat
def need (n : Int) : Nat := if 4 < data n then data n + 1 else data n
theorem data_le {n : Int} (h : n ≤ 2304) : data n ≤ 36 := by unfold data; omega
theorem data_mono {a b : Int} (h : a ≤ b) : data a ≤ data b := by unfold data; omega
theorem need_mono {a b : Int} (h : a ≤ b) : need a ≤ need b := by
  have := data_mono h
  unfold need
  split <;> split <;> omega

/-- Is number i of the blocks (2 to 6) needed? -/
def needed (n i : Nat) : Bool := if i < 6 then decide (i < n + 2) else decide (4 < n)
/-- May number i be what it is, as those before it are? -/
def okAt (l : List Int) (n i : Nat) : Bool :=
  decide (0 ≤ l.getD i 0) && decide (l.getD i 0 ≤ 127) && (decide (0 < l.getD i 0) == needed n i) && (List.range i).all fun j => decide (j < 2) || !(decide (l.getD j 0 = l.getD i 0) && decide (0 < l.getD i 0))
/-- May an inode be? -/
def may (x : Ino) : Bool :=
  if x.k = 0 then decide (x.l = zero.l)
  else (decide (x.k = 1) || decide (x.k = 2)) && decide (0 ≤ x.b) && decide (x.b ≤ 2304) && (List.range 5).all fun j => okAt x.l (data x.b) (j + 2)
theorem okAt_iff {l : List Int} {n i : Nat} : okAt l n i = true ↔ 0 ≤ l.getD i 0 ∧ l.getD i 0 ≤ 127 ∧ (decide (0 < l.getD i 0) = needed n i) ∧ ∀ j, 2 ≤ j → j < i → ¬ (l.getD j 0 = l.getD i 0 ∧ 0 < l.getD i 0) := by
  unfold okAt
  simp only [Bool.and_eq_true, decide_eq_true_eq, beq_iff_eq, List.all_eq_true, List.mem_range, Bool.or_eq_true, Bool.not_eq_true', Bool.and_eq_false_iff, decide_eq_false_iff_not]
  constructor
  · rintro ⟨⟨⟨h1, h2⟩, h3⟩, h4⟩
    refine ⟨h1, h2, h3, fun j hj hi h => ?_⟩
    rcases h4 j hi with h5 | h5 | h5
    · omega
    · exact h5 h.1
    · exact h5 h.2
  · rintro ⟨h1, h2, h3, h4⟩
    refine ⟨⟨⟨h1, h2⟩, h3⟩, fun j hi => ?_⟩
    by_cases hj : j < 2
    · exact .inl hj
    · by_cases he : l.getD j 0 = l.getD i 0
      · exact .inr (.inr fun hp => h4 j (by omega) hi ⟨he, hp⟩)
      · exact .inr (.inl he)
theorem may_free {x : Ino} (h : x.k = 0) : may x = true ↔ x = zero := by
  unfold may
  rw [if_pos h, decide_eq_true_eq]
  exact ⟨fun h => Ino.ext_l h, fun h => by rw [h]⟩
theorem may_used {x : Ino} (h : x.k ≠ 0) : may x = true ↔ (x.k = 1 ∨ x.k = 2) ∧ 0 ≤ x.b ∧ x.b ≤ 2304 ∧ ∀ i, 2 ≤ i → i < 7 → okAt x.l (data x.b) i = true := by
  unfold may
  rw [if_neg h]
  simp only [Bool.and_eq_true, decide_eq_true_eq, List.all_eq_true, List.mem_range, Bool.or_eq_true]
  constructor
  · rintro ⟨⟨⟨h1, h2⟩, h3⟩, h4⟩
    exact ⟨h1, h2, h3, fun i hi h7 => by have := h4 (i - 2) (by omega); rwa [show i - 2 + 2 = i by omega] at this⟩
  · rintro ⟨h1, h2, h3, h4⟩
    exact ⟨⟨⟨h1, h2⟩, h3⟩, fun j hj => h4 (j + 2) (by omega) (by omega)⟩
/-- Its parts' bounds. -/
theorem may_bounds {x : Ino} (h : may x = true) : 0 ≤ x.k ∧ x.k ≤ 2 ∧ 0 ≤ x.b ∧ x.b ≤ 2304 ∧ 0 ≤ x.b0 ∧ x.b0 ≤ 127 ∧ 0 ≤ x.b1 ∧ x.b1 ≤ 127 ∧ 0 ≤ x.b2 ∧ x.b2 ≤ 127 ∧ 0 ≤ x.b3 ∧ x.b3 ≤ 127 ∧ 0 ≤ x.d ∧ x.d ≤ 127 := by
  by_cases hk : x.k = 0
  · rw [may_free hk] at h
    subst h
    decide
  · obtain ⟨h1, h2, h3, h4⟩ := (may_used hk).1 h
    have e2 := okAt_iff.1 (h4 2 (by omega) (by omega))
    have e3 := okAt_iff.1 (h4 3 (by omega) (by omega))
    have e4 := okAt_iff.1 (h4 4 (by omega) (by omega))
    have e5 := okAt_iff.1 (h4 5 (by omega) (by omega))
    have e6 := okAt_iff.1 (h4 6 (by omega) (by omega))
    have f2 : 0 ≤ x.b0 ∧ x.b0 ≤ 127 := ⟨e2.1, e2.2.1⟩
    have f3 : 0 ≤ x.b1 ∧ x.b1 ≤ 127 := ⟨e3.1, e3.2.1⟩
    have f4 : 0 ≤ x.b2 ∧ x.b2 ≤ 127 := ⟨e4.1, e4.2.1⟩
    have f5 : 0 ≤ x.b3 ∧ x.b3 ≤ 127 := ⟨e5.1, e5.2.1⟩
    have f6 : 0 ≤ x.d ∧ x.d ≤ 127 := ⟨e6.1, e6.2.1⟩
    omega

/-- A number's byte. -/
def by8 (z : Int) : UInt8 := UInt8.ofNat (z % 256).toNat
/-- Its bytes. -/
def enc (x : Ino) : List UInt8 := [by8 x.k, by8 (x.b / 256), by8 x.b, by8 x.b0, by8 x.b1, by8 x.b2, by8 x.b3, by8 x.d]
theorem enc_length (x : Ino) : (enc x).length = 8 := rfl
/-- The inode of eight bytes. -/
def dec (b : List UInt8) : Ino :=
  ⟨(b.getD 0 0).toNat, 256 * ((b.getD 1 0).toNat : Int) + (b.getD 2 0).toNat, (b.getD 3 0).toNat, (b.getD 4 0).toNat, (b.getD 5 0).toNat, (b.getD 6 0).toNat, (b.getD 7 0).toNat⟩
/-- The error's number of any bytes' inode; and the inode. -/
def getE (b : List UInt8) : Int := if b.length = 8 then (if may (dec b) then 0 else 10) else 1
def getI (b : List UInt8) : Ino := if b.length = 8 ∧ may (dec b) = true then dec b else zero
/-- The error's number of an inode's bytes; and the bytes. -/
def putE (x : Ino) : Int := if may x then 0 else 1
def putB (x : Ino) : List UInt8 := if may x then enc x else []
theorem by8_nat (z : Int) (h0 : 0 ≤ z) (h : z < 256) : ((by8 z).toNat : Int) = z := by
  unfold by8
  rw [toNat_ofNat8 (by omega)]
  omega
theorem by8_of (x : UInt8) : by8 (x.toNat : Int) = x := by
  unfold by8
  have := lt8 x
  apply UInt8.toNat_inj.1
  rw [toNat_ofNat8 (by omega)]
  omega
theorem dec_enc {x : Ino} (h : may x = true) : dec (enc x) = x := by
  have := may_bounds h
  apply Ino.ext_l
  have e1 := by8_nat x.k (by omega) (by omega)
  have e2 := by8_nat (x.b / 256) (by omega) (by omega)
  have e3 : ((by8 x.b).toNat : Int) = x.b % 256 := by
    unfold by8
    rw [toNat_ofNat8 (by omega)]
    omega
  have e4 := by8_nat x.b0 (by omega) (by omega)
  have e5 := by8_nat x.b1 (by omega) (by omega)
  have e6 := by8_nat x.b2 (by omega) (by omega)
  have e7 := by8_nat x.b3 (by omega) (by omega)
  have e8 := by8_nat x.d (by omega) (by omega)
  show [_, _, _, _, _, _, _] = [_, _, _, _, _, _, _]
  simp only [enc, List.getD_cons_zero, List.getD_cons_succ, dec]
  rw [e1, e2, e3, e4, e5, e6, e7, e8, show 256 * (x.b / 256) + x.b % 256 = x.b by omega]
theorem enc_dec {b : List UInt8} (h : b.length = 8) : enc (dec b) = b := by
  match b, h with
  | [a0, a1, a2, a3, a4, a5, a6, a7], _ =>
    have l1 := lt8 a1
    have l2 := lt8 a2
    show [_, _, _, _, _, _, _, _] = _
    simp only [dec, List.getD_cons_zero, List.getD_cons_succ]
    rw [by8_of, show (256 * (a1.toNat : Int) + a2.toNat) / 256 = a1.toNat by omega, by8_of, by8_of, by8_of, by8_of, by8_of, by8_of]
    have : by8 (256 * (a1.toNat : Int) + a2.toNat) = a2 := by
      unfold by8
      rw [show (256 * (a1.toNat : Int) + a2.toNat) % 256 = a2.toNat by omega]
      have := by8_of a2
      unfold by8 at this
      rw [show (a2.toNat : Int) % 256 = a2.toNat by omega] at this
      exact this
    rw [this]
theorem back_put {x : Ino} (h : may x = true) : getE (putB x) = 0 ∧ getI (putB x) = x := by
  have e : putB x = enc x := if_pos h
  rw [e]
  refine ⟨?_, ?_⟩
  · rw [getE, if_pos (enc_length x), dec_enc h, if_pos h]
  · rw [getI, dec_enc h, if_pos ⟨enc_length x, h⟩]
theorem back_get {b : List UInt8} (h : getE b = 0) : putE (getI b) = 0 ∧ putB (getI b) = b := by
  unfold getE at h
  split at h
  · next hl =>
    split at h
    · next hm =>
      have e : getI b = dec b := if_pos ⟨hl, hm⟩
      rw [e, putE, putB, if_pos hm, if_pos hm]
      exact ⟨rfl, enc_dec hl⟩
    · omega
  · omega
theorem getE_cases (b : List UInt8) : getE b = 0 ∨ getE b = 1 ∨ getE b = 10 := by
  unfold getE; split
  · split
    · exact .inl rfl
    · exact .inr (.inr rfl)
  · exact .inr (.inl rfl)
end Inn
end Go.Proofs.Ytiafmghdiidniaa
end

section
/-
  THE WALKS of the reference's Data, Need.
-/
namespace Go.Proofs.Ytiafmghdiidniaa
open Go.RowKit Cdc Inn

/-- An inode as a value, as cells. -/
def inoC (x : Ino) : Array Value := #[.int .i64 x.k, .int .i64 x.b, .int .i64 x.b0, .int .i64 x.b1, .int .i64 x.b2, .int .i64 x.b3, .int .i64 x.d]
theorem inoC_l (x : Ino) : (inoC x) = (x.l.map VI).toArray := rfl

set_option maxRecDepth 100000 in
set_option maxHeartbeats 400000 in
theorem RInData_any (n : Int) (hn : n ≤ 1000000) (hi : In64 n) (w : World) :
    Calls Try.prog 41 #[.int .i64 n] w fun e w' => e = .returned (.int .i64 (data n)) ∧ Below w.heap.size w w' := by
  obtain ⟨hi1, _⟩ := hi
  obtain ⟨D, hD⟩ : ∃ D, D = data n := ⟨_, rfl⟩
  have hD1 : n ≤ 64 * (D : Int) := by rw [hD]; unfold data; omega
  have hD2 : 0 < D → 64 * ((D : Int) - 1) < n := by intro h; rw [hD] at h ⊢; unfold data at h ⊢; omega
  rw [← hD]
  have hD3 : D ≤ 20000 := by omega
  clear hD
  go_enter Try.func41, Try.ntmps41
  go_wp2
  go_loop [3, 4] (fun c i => ∃ m : Nat, m ≤ D ∧ i = .int .i64 (64 * (m : Int)) ∧ c = .int .i64 m) (fun c _ => D - (intOf c).toNat)
  case atStart => exact ⟨0, by omega, rfl, rfl⟩
  case round =>
    obtain ⟨m, hm, rfl, rfl⟩ := hrel
    by_cases hlt : 64 * (m : Int) < n
    · go_wp2
      go_round
      case rel => exact ⟨m + 1, by omega, by go_num, by go_num⟩
      case measure => simp [intOf] <;> omega
    · obtain rfl : m = D := by omega
      go_wp2
      go_ret
      exact ⟨rfl, Below.refl _ _⟩

set_option maxRecDepth 100000 in
set_option maxHeartbeats 400000 in
theorem RInNeed_any (n : Int) (hn : n ≤ 1000000) (hi : In64 n) (w : World) :
    Calls Try.prog 31 #[.int .i64 n] w fun e w' => e = .returned (.int .i64 (need n)) ∧ Below w.heap.size w w' := by
  have HD := Lib.hid (RInData_any n hn hi w)
  have hb : data n ≤ 20000 := by unfold data; omega
  unfold need
  generalize data n = D at *
  clear hi
  go_enter Try.func31, Try.ntmps31
  go_wp2_with fail
  refine HD.out.mono ?_
  rintro e w1 ⟨rfl, hb⟩
  by_cases h4 : 4 < D
  · go_wp2
    go_ret
    exact ⟨rfl, hb⟩
  · go_wp2
    go_ret
    exact ⟨rfl, hb⟩
end Go.Proofs.Ytiafmghdiidniaa
end
