/-
  THE WALKS of the reference's Root and Prime.
-/
import Derived.Test.YtcmledlghipcbaaDoorU
namespace Go.Proofs.YtcmledlghipcbaaDoor
open Go.RowKit Sha

theorem ret32' {a b : Int} (h : a = b) : Ending.returned (.int .u32 a) = .returned (.int .u32 b) := by rw [h]
/-- The bit at round j. -/
def bitN (j : Nat) : Nat := 1099511627776 / 2 ^ j
theorem bitN_half (j : Nat) : bitN j / 2 = bitN (j + 1) := by rw [bitN, bitN, Nat.div_div_eq_div_mul, Nat.pow_succ]
theorem bitN_le (j : Nat) : bitN j ≤ 1099511627776 := Nat.div_le_self _ _
theorem bitN_41 : bitN 41 = 0 := by decide
theorem bitN_0 : 1099511627776 = bitN 0 := by decide
theorem bit_pow (j : Nat) (h : j ≤ 40) : bitN j = 2 ^ (40 - j) := by
  rw [bitN, show (1099511627776 : Nat) = 2 ^ 40 from rfl, Nat.pow_div h (by omega)]
theorem rootGo_lt (n : Nat) (c : Bool) (j : Nat) (hj : j ≤ 41) : rootGo n c j + 2 ^ (41 - j) ≤ 2199023255552 := by
  induction j with
  | zero => simp [rootGo]
  | succ j ih =>
    have h := ih (by omega)
    have e : 2 ^ (41 - j) = 2 * 2 ^ (40 - j) := by rw [← Nat.pow_succ']; congr 1; omega
    rw [e] at h
    rw [show 41 - (j + 1) = 40 - j by omega]
    simp only [rootGo]
    split <;> omega

theorem rootGo_false (n j X B : Nat) (hX : X = rootGo n false j) (hB : B = 2 ^ (40 - j)) : rootGo n false (j + 1) = if aboveN (timesN (digitsN (X + B)) (digitsN (X + B))) n 4 then X else X + B := by
  subst hX hB
  rw [rootGo, tooMuch]
  simp only [Bool.false_eq_true, if_false]
theorem rootGo_true (n j X B : Nat) (hX : X = rootGo n true j) (hB : B = 2 ^ (40 - j)) : rootGo n true (j + 1) = if aboveN (timesN (timesN (digitsN (X + B)) (digitsN (X + B))) (digitsN (X + B))) n 6 then X else X + B := by
  subst hX hB
  rw [rootGo, tooMuch]
  simp only [if_true]

/-- r is the root behind one more round. -/
def Rnext (n : Nat) (c : Bool) (j r : Nat) : Prop := r = rootGo n c (j + 1)

theorem Times_len (ab ao ac la bb bo bc lb : Nat) (a b : List Nat) (hla : a.length = la) (hlb : b.length = lb) (ha : la ≤ 100) (hb : lb ≤ 100) (w : World) (hal : ab < w.heap.size) (hbl : bb < w.heap.size) (hA : Sees w ab ao (a.map V64)) (hB : Sees w bb bo (b.map V64)) :
    Calls Tryd.prog 24 #[.slice (some ⟨ab, ao, none⟩) la ac, .slice (some ⟨bb, bo, none⟩) lb bc] w fun e w' =>
      e = .returned (.slice (some ⟨w.heap.size, 0, none⟩) (la + lb) (la + lb)) ∧ Row w' w.heap.size 47 ((timesN a b).map V64) ∧ Below w.heap.size w w' := by
  subst hla hlb
  exact Times_any ab ao ac bb bo bc a b ha hb w hal hbl hA hB
theorem Above_len (z : Nat) (zi : Int) (hzi : zi = (z : Int)) (hz : z ≤ 10) (ab ao ac la : Nat) (a : List Nat) (hla : a.length = la) (ha : la ≤ 100) (ha0 : 0 < la) (n : Nat) (hn : n < 18446744073709551616) (w : World) (hal : ab < w.heap.size) (hA : Sees w ab ao (a.map V64)) :
    Calls Tryd.prog 25 #[.slice (some ⟨ab, ao, none⟩) la ac, .int .u64 n, .int .i64 zi] w fun e w' =>
      e = .returned (.bool (aboveN a n z)) ∧ Below w.heap.size w w' := by
  subst hla hzi
  exact Above_z z hz ab ao ac a ha ha0 n hn w hal hA

set_option maxRecDepth 100000 in
set_option maxHeartbeats 400000 in
theorem Root_false (n : Nat) (hn : n < 18446744073709551616) (w : World) :
    Calls Tryd.prog 19 #[.int .u64 n, .bool false] w fun e w' => e = .returned (.int .u32 (rootN n false : Nat)) ∧ Below w.heap.size w w' := by
  go_enter Tryd.func19, Tryd.ntmps19
  go_wp2
  go_loopw [5, 6, 7, 8, 9] (fun x b _ _ _ wr => ∃ j X B : Nat, j ≤ 41 ∧ x = .int .u64 X ∧ b = .int .u64 B ∧ X < 4398046511104 ∧ Hid (X = rootGo n false j) ∧ Hid (B = bitN j) ∧ Below w.heap.size w wr) (fun _ b _ _ _ _ => (intOf b).toNat)
  case atStart => exact ⟨0, 0, 1099511627776, by omega, rfl, rfl, by omega, rfl, bitN_0, Below.refl _ _⟩
  case round =>
    obtain ⟨j, X, B, hj, rfl, rfl, hX, HX, HB, hbel⟩ := hrel
    have hsz := hbel.size
    by_cases hlt : j < 41
    · have hB1 : B ≤ 1099511627776 := by rw [HB.out]; exact bitN_le j
      have hB2 : 1 ≤ B := by rw [HB.out, bit_pow j (by omega)]; exact Nat.one_le_two_pow
      obtain ⟨y, hy⟩ : ∃ y, y = digitsN (X + B) := ⟨_, rfl⟩
      obtain ⟨tb, htb⟩ : ∃ tb, tb = aboveN (timesN y y) n 4 := ⟨_, rfl⟩
      have HR : Rnext n false j (if tb then X else X + B) := by rw [htb, hy]; exact (rootGo_false n j X B HX.out (HB.out.trans (bit_pow j (by omega)))).symm
      have HTB := Lib.hid htb
      have HY := Lib.hid hy
      clear htb hy
      have HB' : Hid (B / 2 = bitN (j + 1)) := by show _ = _; rw [HB.out, bitN_half]
      have hXB : X + B < 4398046511104 := by have h := rootGo_lt n false j (by omega); rw [← HX.out] at h; generalize 2 ^ (41 - j) = q at h; omega
      go_wp2_with fail
      refine (Digits_int ((X : Int) + B) (by omega) (by omega) _).mono ?_
      rintro e w2 ⟨rfl, rfl⟩
      rw [show ((X : Int) + B).toNat = X + B by omega, ← HY.out]
      have Hyl : Hid (y.length = 4) := by rw [HY.out]; rfl
      clear HY
      have Hy : Hid (Sees (wr.alloc (.cells (y.map V64).toArray 47)) wr.heap.size 0 (y.map V64)) := (Row.new wr _ _).sees
      have hb2 : Below w.heap.size w (wr.alloc (.cells (y.map V64).toArray 47)) := hbel.alloc hsz _
      have hsz2 : (wr.alloc (.cells (y.map V64).toArray 47)).heap.size > wr.heap.size := by simp
      generalize wr.alloc (.cells (y.map V64).toArray 47) = w2 at *
      go_wp2_with fail
      refine (Times_len wr.heap.size 0 4 4 wr.heap.size 0 4 4 y y Hyl.out Hyl.out (by omega) (by omega) w2 (by omega) (by omega) Hy.out Hy.out).mono ?_
      rintro e w3 ⟨rfl, hr3, hb3⟩
      have Hp : Hid (Sees w3 w2.heap.size 0 ((timesN y y).map V64)) := hr3.sees
      have hp3 := hr3.lt
      have Hpl : Hid ((timesN y y).length = 8) := by show _ = _; rw [timesN, timesTo_length, Hyl.out]
      have hb3' : Below w.heap.size w w3 := hb2.trans (hb3.mono hb2.size)
      clear hr3
      go_wp2_with fail
      refine (Above_len 4 4 rfl (by omega) w2.heap.size 0 8 8 (timesN y y) Hpl.out (by omega) (by omega) n hn w3 (by omega) Hp.out).mono ?_
      rintro e w5 ⟨rfl, hb5⟩
      have hb5' : Below w.heap.size w w5 := hb3'.trans (hb5.mono hb3'.size)
      rw [← HTB.out]
      clear HTB
      cases tb
      · rw [if_neg (by simp)] at HR
        go_wp2
        go_roundw
        case rel => exact ⟨j + 1, X + B, B / 2, by omega, by go_num, by go_num, hXB, HR, HB'.out, hb5'⟩
        case measure => simp [intOf]; omega
      · rw [if_pos rfl] at HR
        go_wp2
        go_roundw
        case rel => exact ⟨j + 1, X, B / 2, by omega, rfl, by go_num, hX, HR, HB'.out, hb5'⟩
        case measure => simp [intOf]; omega
    · obtain rfl : j = 41 := by omega
      obtain rfl : B = 0 := HB.out.trans bitN_41
      have HE : Hid (X % 4294967296 = rootN n false) := by show _ = _; rw [HX.out]; rfl
      rw [show ((0 : Nat) : Int) = 0 from rfl]
      go_wp2
      go_ret
      exact ⟨ret32' (by rw [← HE.out]; omega), hbel⟩

set_option maxRecDepth 100000 in
set_option maxHeartbeats 400000 in
theorem Root_true (n : Nat) (hn : n < 18446744073709551616) (w : World) :
    Calls Tryd.prog 19 #[.int .u64 n, .bool true] w fun e w' => e = .returned (.int .u32 (rootN n true : Nat)) ∧ Below w.heap.size w w' := by
  go_enter Tryd.func19, Tryd.ntmps19
  go_wp2
  go_loopw [5, 6, 7, 8, 9] (fun x b _ _ _ wr => ∃ j X B : Nat, j ≤ 41 ∧ x = .int .u64 X ∧ b = .int .u64 B ∧ X < 4398046511104 ∧ Hid (X = rootGo n true j) ∧ Hid (B = bitN j) ∧ Below w.heap.size w wr) (fun _ b _ _ _ _ => (intOf b).toNat)
  case atStart => exact ⟨0, 0, 1099511627776, by omega, rfl, rfl, by omega, rfl, bitN_0, Below.refl _ _⟩
  case round =>
    obtain ⟨j, X, B, hj, rfl, rfl, hX, HX, HB, hbel⟩ := hrel
    have hsz := hbel.size
    by_cases hlt : j < 41
    · have hB1 : B ≤ 1099511627776 := by rw [HB.out]; exact bitN_le j
      have hB2 : 1 ≤ B := by rw [HB.out, bit_pow j (by omega)]; exact Nat.one_le_two_pow
      obtain ⟨y, hy⟩ : ∃ y, y = digitsN (X + B) := ⟨_, rfl⟩
      obtain ⟨tb, htb⟩ : ∃ tb, tb = aboveN (timesN (timesN y y) y) n 6 := ⟨_, rfl⟩
      have HR : Rnext n true j (if tb then X else X + B) := by rw [htb, hy]; exact (rootGo_true n j X B HX.out (HB.out.trans (bit_pow j (by omega)))).symm
      have HTB := Lib.hid htb
      have HY := Lib.hid hy
      clear htb hy
      have HB' : Hid (B / 2 = bitN (j + 1)) := by show _ = _; rw [HB.out, bitN_half]
      have hXB : X + B < 4398046511104 := by have h := rootGo_lt n true j (by omega); rw [← HX.out] at h; generalize 2 ^ (41 - j) = q at h; omega
      go_wp2_with fail
      refine (Digits_int ((X : Int) + B) (by omega) (by omega) _).mono ?_
      rintro e w2 ⟨rfl, rfl⟩
      rw [show ((X : Int) + B).toNat = X + B by omega, ← HY.out]
      have Hyl : Hid (y.length = 4) := by rw [HY.out]; rfl
      clear HY
      have Hy : Hid (Sees (wr.alloc (.cells (y.map V64).toArray 47)) wr.heap.size 0 (y.map V64)) := (Row.new wr _ _).sees
      have hb2 : Below w.heap.size w (wr.alloc (.cells (y.map V64).toArray 47)) := hbel.alloc hsz _
      have hsz2 : (wr.alloc (.cells (y.map V64).toArray 47)).heap.size > wr.heap.size := by simp
      generalize wr.alloc (.cells (y.map V64).toArray 47) = w2 at *
      go_wp2_with fail
      refine (Times_len wr.heap.size 0 4 4 wr.heap.size 0 4 4 y y Hyl.out Hyl.out (by omega) (by omega) w2 (by omega) (by omega) Hy.out Hy.out).mono ?_
      rintro e w3 ⟨rfl, hr3, hb3⟩
      have Hp : Hid (Sees w3 w2.heap.size 0 ((timesN y y).map V64)) := hr3.sees
      have hp3 := hr3.lt
      have Hpl : Hid ((timesN y y).length = 8) := by show _ = _; rw [timesN, timesTo_length, Hyl.out]
      have hb3' : Below w.heap.size w w3 := hb2.trans (hb3.mono hb2.size)
      clear hr3
      go_wp2_with fail
      refine (Times_len w2.heap.size 0 8 8 wr.heap.size 0 4 4 (timesN y y) y Hpl.out Hyl.out (by omega) (by omega) w3 (by omega) (by omega) Hp.out (Hy.out.below hb3 (by omega))).mono ?_
      rintro e w4 ⟨rfl, hr4, hb4⟩
      have Hq : Hid (Sees w4 w3.heap.size 0 ((timesN (timesN y y) y).map V64)) := hr4.sees
      have hp4 := hr4.lt
      have Hql : Hid ((timesN (timesN y y) y).length = 12) := by show _ = _; rw [timesN, timesTo_length, Hpl.out, Hyl.out]
      have hb4' : Below w.heap.size w w4 := hb3'.trans (hb4.mono hb3'.size)
      clear hr4
      go_wp2_with fail
      refine (Above_len 6 6 rfl (by omega) w3.heap.size 0 12 12 (timesN (timesN y y) y) Hql.out (by omega) (by omega) n hn w4 (by omega) Hq.out).mono ?_
      rintro e w5 ⟨rfl, hb5⟩
      have hb5' : Below w.heap.size w w5 := hb4'.trans (hb5.mono hb4'.size)
      rw [← HTB.out]
      clear HTB
      cases tb
      · rw [if_neg (by simp)] at HR
        go_wp2
        go_roundw
        case rel => exact ⟨j + 1, X + B, B / 2, by omega, by go_num, by go_num, hXB, HR, HB'.out, hb5'⟩
        case measure => simp [intOf]; omega
      · rw [if_pos rfl] at HR
        go_wp2
        go_roundw
        case rel => exact ⟨j + 1, X, B / 2, by omega, rfl, by go_num, hX, HR, HB'.out, hb5'⟩
        case measure => simp [intOf]; omega
    · obtain rfl : j = 41 := by omega
      obtain rfl : B = 0 := HB.out.trans bitN_41
      have HE : Hid (X % 4294967296 = rootN n true) := by show _ = _; rw [HX.out]; rfl
      rw [show ((0 : Nat) : Int) = 0 from rfl]
      go_wp2
      go_ret
      exact ⟨ret32' (by rw [← HE.out]; omega), hbel⟩
end Go.Proofs.YtcmledlghipcbaaDoor
