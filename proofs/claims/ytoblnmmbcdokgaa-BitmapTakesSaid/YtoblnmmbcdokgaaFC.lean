/-
  WHAT IS WANTED OF THE PROGRAM (BitC); the walk of the laws' knows over it.
-/
import Derived.Test.YtoblnmmbcdokgaaFB
namespace Go.Proofs.Ytoblnmmbcdokgaa
open Go.RowKit Bm

namespace Bm
/-- An int. -/
def In64 (i : Int) : Prop := -9223372036854775808 ≤ i ∧ i ≤ 9223372036854775807
/-- The error's number of a set bit. -/
def setE (ok : Bool) : Int := if ok then 0 else 1
/-- What Set hands back. -/
def setR (b : List UInt8) (i : Int) (on : Bool) : List UInt8 := if has b i then setB b i.toNat on else []
end Bm

structure BitC : Prop where
  get : ∀ (b : List UInt8) (i : Int) (v : Value) (w : World), b.length ≤ 1000 → In64 i → Arg w v b → Calls Try.prog 12 #[v, .int .i64 i] w fun e w' => e = .returned (.bool (get b i)) ∧ Below w.heap.size w w'
  set : ∀ (b : List UInt8) (i : Int) (on : Bool) (v : Value) (w : World), b.length ≤ 1000 → In64 i → Arg w v b → Calls Try.prog 7 #[v, .int .i64 i, .bool on] w fun e w' => ∃ r, e = .returned (.tuple #[r, .int .i64 (setE (has b i))]) ∧ Hid (ArgHi w' w.heap.size r (setR b i on)) ∧ Below w.heap.size w w'
  count : ∀ (b : List UInt8) (f t : Int) (v : Value) (w : World), b.length ≤ 1000 → In64 f → In64 t → Arg w v b → Calls Try.prog 8 #[v, .int .i64 f, .int .i64 t] w fun e w' => e = .returned (.int .i64 (count b f t)) ∧ Below w.heap.size w w'
  first : ∀ (b : List UInt8) (f t : Int) (v : Value) (w : World), b.length ≤ 1000 → In64 f → In64 t → Arg w v b → Calls Try.prog 10 #[v, .int .i64 f, .int .i64 t] w fun e w' => e = .returned (.int .i64 (first b f t)) ∧ Below w.heap.size w w'

theorem bm_ex1 : first [5, 0] 0 16 = 1 ∧ count [5, 0] 0 16 = 2 ∧ get [] 0 = false ∧ get [4] 2 = true ∧ has [] 0 = false := by decide +kernel
theorem argNil (w : World) : Arg w (.slice none 0 0) [] := .inl ⟨none, rfl, rfl⟩
theorem argLit (w : World) (bs : List UInt8) : Arg (w.alloc (.cells (bs.map V8).toArray 5)) (.slice (some ⟨w.heap.size, 0, none⟩) bs.length bs.length) bs :=
  .inr ⟨w.heap.size, 0, bs.length, rfl, by simp, Nat.le_refl _, (Row.new w 5 (bs.map V8)).sees⟩

set_option maxRecDepth 100000 in
set_option maxHeartbeats 1000000 in
theorem Bmknows_any (X : BitC) (w : World) : Calls Try.prog 5 #[] w fun e w' => e = .returned (.bool true) ∧ Below w.heap.size w w' := by
  have i0 : In64 0 := ⟨by decide, by decide⟩
  have i16 : In64 16 := ⟨by decide, by decide⟩
  have i2 : In64 2 := ⟨by decide, by decide⟩
  have HSet : Hid (∀ W, Calls Try.prog 7 #[.slice none 0 0, .int .i64 0, .bool true] W fun e w' => ∃ r, e = .returned (.tuple #[r, .int .i64 1]) ∧ Below W.heap.size W w') := fun W =>
    (X.set [] 0 true _ W (by decide) i0 (argNil W)).mono fun e w' ⟨r, he, _, hb⟩ => ⟨r, by rw [he, bm_ex1.2.2.2.2]; rfl, hb⟩
  have HFst : Hid (∀ W, Calls Try.prog 10 #[.slice (some ⟨W.heap.size, 0, none⟩) 2 2, .int .i64 0, .int .i64 16] (W.alloc (.cells #[.int .u8 5, .int .u8 0] 5)) fun e w' => e = .returned (.int .i64 1) ∧ Below W.heap.size W w') := fun W =>
    (X.first [5, 0] 0 16 _ _ (by decide) i0 i16 (argLit W [5, 0])).mono fun e w' ⟨he, hb⟩ => ⟨by rw [he, bm_ex1.1], ((Below.refl _ W).alloc (Nat.le_refl _) _).trans (hb.mono (by simp))⟩
  have HCnt : Hid (∀ W, Calls Try.prog 8 #[.slice (some ⟨W.heap.size, 0, none⟩) 2 2, .int .i64 0, .int .i64 16] (W.alloc (.cells #[.int .u8 5, .int .u8 0] 5)) fun e w' => e = .returned (.int .i64 2) ∧ Below W.heap.size W w') := fun W =>
    (X.count [5, 0] 0 16 _ _ (by decide) i0 i16 (argLit W [5, 0])).mono fun e w' ⟨he, hb⟩ => ⟨by rw [he, bm_ex1.2.1]; rfl, ((Below.refl _ W).alloc (Nat.le_refl _) _).trans (hb.mono (by simp))⟩
  have HGet0 : Hid (∀ W, Calls Try.prog 12 #[.slice none 0 0, .int .i64 0] W fun e w' => e = .returned (.bool false) ∧ Below W.heap.size W w') := fun W =>
    (X.get [] 0 _ W (by decide) i0 (argNil W)).mono fun e w' ⟨he, hb⟩ => ⟨by rw [he, bm_ex1.2.2.1], hb⟩
  have HGet1 : Hid (∀ W, Calls Try.prog 12 #[.slice (some ⟨W.heap.size, 0, none⟩) 1 1, .int .i64 2] (W.alloc (.cells #[.int .u8 4] 5)) fun e w' => e = .returned (.bool true) ∧ Below W.heap.size W w') := fun W =>
    (X.get [4] 2 _ _ (by decide) i2 (argLit W [4])).mono fun e w' ⟨he, hb⟩ => ⟨by rw [he, bm_ex1.2.2.2.1], ((Below.refl _ W).alloc (Nat.le_refl _) _).trans (hb.mono (by simp))⟩
  clear i0 i16 i2
  go_enter Try.func5, Try.ntmps5
  go_wp2_with fail
  refine (HSet.out w).mono ?_
  rintro e w1 ⟨r1, rfl, hb⟩
  have HC : Hid (Below w.heap.size w w1) := hb
  clear hb
  go_wp2_with fail
  refine (HFst.out w1).mono ?_
  rintro e w2 ⟨rfl, hb⟩
  replace HC := Lib.hid (HC.out.trans (hb.mono HC.out.size))
  clear hb
  go_wp2_with fail
  refine (HCnt.out w2).mono ?_
  rintro e w3 ⟨rfl, hb⟩
  replace HC := Lib.hid (HC.out.trans (hb.mono HC.out.size))
  clear hb
  go_wp2_with fail
  refine (HGet0.out w3).mono ?_
  rintro e w4 ⟨rfl, hb⟩
  replace HC := Lib.hid (HC.out.trans (hb.mono HC.out.size))
  clear hb
  go_wp2_with fail
  refine (HGet1.out w4).mono ?_
  rintro e w5 ⟨rfl, hb⟩
  replace HC := Lib.hid (HC.out.trans (hb.mono HC.out.size))
  clear hb
  go_wp2
  go_ret
  exact ⟨rfl, HC.out⟩
end Go.Proofs.Ytoblnmmbcdokgaa
