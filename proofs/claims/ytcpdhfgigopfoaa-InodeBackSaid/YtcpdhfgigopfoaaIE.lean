/-
  WHAT IS WANTED OF THE PROGRAM (InC); the walk of the laws' knows over it.
-/
import Derived.Test.YtcpdhfgigopfoaaIC
import Derived.Test.YtcpdhfgigopfoaaID
namespace Go.Proofs.Ytcpdhfgigopfoaa
open Go.RowKit Cdc Inn

structure InC : Prop where
  need : ∀ (n : Int) (w : World), In64 n → n ≤ 1000000 → Calls Try.prog 9 #[.int .i64 n] w fun e w' => e = .returned (.int .i64 (need n)) ∧ Below w.heap.size w w'
  may : ∀ (x : Ino) (w : World), x.fits → Calls Try.prog 8 #[.agg (inoC x)] w fun e w' => e = .returned (.bool (may x)) ∧ Below w.heap.size w w'
  put : ∀ (x : Ino) (w : World), x.fits → Calls Try.prog 6 #[.agg (inoC x)] w fun e w' => ∃ r, e = .returned (.tuple #[r, .int .i64 (putE x)]) ∧ Hid (Arg w' r (putB x)) ∧ Below w.heap.size w w'
  get : ∀ (b : List UInt8) (v : Value) (w : World), b.length ≤ 1000 → Arg w v b → Calls Try.prog 12 #[v] w fun e w' => e = .returned (.tuple #[.agg (inoC (getI b)), .int .i64 (getE b)]) ∧ Below w.heap.size w w'

theorem in_ex1 : need 256 = 4 ∧ need 257 = 6 := by decide +kernel
def inX : Ino := ⟨1, 65, 9, 10, 0, 0, 0⟩
def inY : Ino := ⟨3, 0, 0, 0, 0, 0, 0⟩
theorem in_ex2 : putE inX = 0 ∧ putB inX = [1, 0, 65, 9, 10, 0, 0, 0] ∧ may inY = false ∧ getE [] = 1 ∧ getI [] = zero := by decide +kernel
theorem argNilI (w : World) : Arg w (.slice none 0 0) [] := .inl ⟨none, rfl, rfl⟩

set_option maxRecDepth 100000 in
set_option maxHeartbeats 1000000 in
theorem Inknows_any (X : InC) (w : World) : Calls Try.prog 5 #[] w fun e w' => e = .returned (.bool true) ∧ Below w.heap.size w w' := by
  have HPut : Hid (∀ W, Calls Try.prog 6 #[.agg #[.int .i64 1, .int .i64 65, .int .i64 9, .int .i64 10, .int .i64 0, .int .i64 0, .int .i64 0]] W fun e w' => ∃ r, e = .returned (.tuple #[r, .int .i64 0]) ∧ Hid (Arg w' r [1, 0, 65, 9, 10, 0, 0, 0]) ∧ Below W.heap.size W w') := fun W => by
    have := X.put inX W (by unfold Ino.fits In64; decide)
    rwa [in_ex2.1, in_ex2.2.1] at this
  have HGet : Hid (∀ W, Calls Try.prog 12 #[.slice none 0 0] W fun e w' => e = .returned (.tuple #[.agg #[.int .i64 0, .int .i64 0, .int .i64 0, .int .i64 0, .int .i64 0, .int .i64 0, .int .i64 0], .int .i64 1]) ∧ Below W.heap.size W w') := fun W => by
    have := X.get [] _ W (by decide) (argNilI W)
    rw [in_ex2.2.2.2.1, in_ex2.2.2.2.2] at this
    exact this
  have HN1 : Hid (∀ W, Calls Try.prog 9 #[.int .i64 256] W fun e w' => e = .returned (.int .i64 4) ∧ Below W.heap.size W w') := fun W => by
    have := X.need 256 W ⟨by decide, by decide⟩ (by decide)
    rwa [in_ex1.1] at this
  have HN2 : Hid (∀ W, Calls Try.prog 9 #[.int .i64 257] W fun e w' => e = .returned (.int .i64 6) ∧ Below W.heap.size W w') := fun W => by
    have := X.need 257 W ⟨by decide, by decide⟩ (by decide)
    rwa [in_ex1.2] at this
  have HM : Hid (∀ W, Calls Try.prog 8 #[.agg #[.int .i64 3, .int .i64 0, .int .i64 0, .int .i64 0, .int .i64 0, .int .i64 0, .int .i64 0]] W fun e w' => e = .returned (.bool false) ∧ Below W.heap.size W w') := fun W => by
    have := X.may inY W (by unfold Ino.fits In64; decide)
    rwa [in_ex2.2.2.1] at this
  go_enter Try.func5, Try.ntmps5
  go_wp2_with fail
  refine (HPut.out w).mono ?_
  rintro e w1 ⟨r1, rfl, HR, hb⟩
  have HC : Hid (Below w.heap.size w w1) := hb
  clear hb HPut
  go_wp2_with fail
  refine (HGet.out w1).mono ?_
  rintro e w2 ⟨rfl, hb⟩
  replace HC := Lib.hid (HC.out.trans (hb.mono HC.out.size))
  replace HR := Lib.hid (HR.out.below hb)
  clear hb HGet
  have HC3 : Hid (Below w.heap.size w (w2.alloc (.cells #[.int .i64 0, .int .i64 0, .int .i64 0, .int .i64 0, .int .i64 0, .int .i64 0, .int .i64 0] 24))) := HC.out.alloc HC.out.size _
  have HR3 : Hid (Arg (w2.alloc (.cells #[.int .i64 0, .int .i64 0, .int .i64 0, .int .i64 0, .int .i64 0, .int .i64 0, .int .i64 0] 24)) r1 [1, 0, 65, 9, 10, 0, 0, 0]) := HR.out.below ((Below.refl _ _).alloc (Nat.le_refl _) _)
  clear HC HR
  go_wp2_with fail
  generalize w2.alloc (.cells #[.int .i64 0, .int .i64 0, .int .i64 0, .int .i64 0, .int .i64 0, .int .i64 0, .int .i64 0] 24) = w3 at *
  refine (HN1.out w3).mono ?_
  rintro e w4 ⟨rfl, hb⟩
  replace HC3 := Lib.hid (HC3.out.trans (hb.mono HC3.out.size))
  replace HR3 := Lib.hid (HR3.out.below hb)
  clear hb HN1
  go_wp2_with fail
  refine (HN2.out w4).mono ?_
  rintro e w5 ⟨rfl, hb⟩
  replace HC3 := Lib.hid (HC3.out.trans (hb.mono HC3.out.size))
  replace HR3 := Lib.hid (HR3.out.below hb)
  clear hb HN2
  have cv : (convert 25 9 r1).run Try.prog w5 = .ok (.string ⟨#[1, 0, 65, 9, 10, 0, 0, 0]⟩) w5 := conv_arg HR3.out
  go_wp2_with fail
  refine (HM.out w5).mono ?_
  rintro e w6 ⟨rfl, hb⟩
  replace HC3 := Lib.hid (HC3.out.trans (hb.mono HC3.out.size))
  clear hb HM HR3 cv
  go_wp2
  go_ret
  exact ⟨rfl, HC3.out⟩
end Go.Proofs.Ytcpdhfgigopfoaa
