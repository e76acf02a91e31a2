/-
  THE WALK of the law BitmapTakes, over the contracts.
-/
import Derived.Test.YtoblnmmbcdokgaaFC
namespace Go.Proofs.Ytoblnmmbcdokgaa
open Go.RowKit Bm

theorem setR_has {b : List UInt8} {i : Int} (on : Bool) (h : has b i = true) : setR b i on = setB b i.toNat on := by rw [setR, if_pos h]

set_option maxRecDepth 100000 in
set_option maxHeartbeats 1000000 in
theorem BmTakes_any (X : BitC) (A : Option Addr) (n cap : Nat) (b : List UInt8) (hn : b.length = n) (f t : Int) (hf : In64 f) (ht : In64 t) (w : World) (h : Arg w (.slice A n cap) b) :
    Calls Try.prog 4 #[.slice A n cap, .int .i64 f, .int .i64 t] w fun e w' => e = .returned (.bool true) ∧ Below w.heap.size w w' := by
  have HK : Hid (∀ W, Calls Try.prog 5 #[] W fun e w' => e = .returned (.bool true) ∧ Below W.heap.size W w') := fun W => Bmknows_any X W
  rcases Nat.lt_or_ge 100 n with hl | hl
  · clear hf ht h
    go_enter Try.func4, Try.ntmps4
    go_wp2_with fail
    refine (HK.out w).mono ?_
    rintro e w1 ⟨rfl, hb⟩
    go_wp2
    go_ret
    exact ⟨rfl, hb⟩
  have hL : b.length ≤ 1000 := by omega
  have HFst : Hid (∀ W, Below w.heap.size w W → Calls Try.prog 10 #[.slice A n cap, .int .i64 f, .int .i64 t] W fun e w' => e = .returned (.int .i64 (first b f t)) ∧ Below W.heap.size W w') := fun W hW => X.first b f t _ W hL hf ht (h.below hW)
  have HCnt : Hid (∀ W, Below w.heap.size w W → Calls Try.prog 8 #[.slice A n cap, .int .i64 f, .int .i64 t] W fun e w' => e = .returned (.int .i64 (count b f t)) ∧ Below W.heap.size W w') := fun W hW => X.count b f t _ W hL hf ht (h.below hW)
  have HMan : Hid (∀ W, Below w.heap.size w W → Calls Try.prog 14 #[.slice A n cap, .int .i64 f, .int .i64 t] W fun e w' => e = .returned (.int .i64 (many b f t)) ∧ Below W.heap.size W w') := fun W hW => Bmmany_any b hL f t _ W (h.below hW)
  rcases Int.lt_or_le (first b f t) 0 with hi | hi
  · rw [← takes_none b f t hi] at HMan
    generalize first b f t = i at *
    generalize (count b f t : Int) = c at *
    clear hf ht h hL hn
    go_enter Try.func4, Try.ntmps4
    go_wp2_with fail
    refine (HFst.out w (Below.refl _ _)).mono ?_
    rintro e w1 ⟨rfl, hb⟩
    have HC : Hid (Below w.heap.size w w1) := hb
    clear hb
    go_wp2_with fail
    refine (HCnt.out w1 HC.out).mono ?_
    rintro e w2 ⟨rfl, hb⟩
    replace HC := Lib.hid (HC.out.trans (hb.mono HC.out.size))
    clear hb
    go_wp2_with fail
    refine (HMan.out w2 HC.out).mono ?_
    rintro e w3 ⟨rfl, hb⟩
    replace HC := Lib.hid (HC.out.trans (hb.mono HC.out.size))
    clear hb
    go_wp2_with fail
    refine (HK.out w3).mono ?_
    rintro e w4 ⟨rfl, hb⟩
    replace HC := Lib.hid (HC.out.trans (hb.mono HC.out.size))
    clear hb
    go_wp2
    go_ret
    exact ⟨rfl, HC.out⟩
  · obtain ⟨h1, h2, h3, h4, h5⟩ := takes_some b f t hi
    have hiB : first b f t < 8 * b.length := (has_iff.1 h1).2
    have hI : In64 (first b f t) := ⟨by omega, by omega⟩
    have HGet : Hid (∀ W, Below w.heap.size w W → Calls Try.prog 12 #[.slice A n cap, .int .i64 (first b f t)] W fun e w' => e = .returned (.bool false) ∧ Below W.heap.size W w') := fun W hW => by
      have := X.get b _ _ W hL hI (h.below hW)
      rwa [h2] at this
    have HSet : Hid (∀ W, Below w.heap.size w W → Calls Try.prog 7 #[.slice A n cap, .int .i64 (first b f t), .bool true] W fun e w' => ∃ r, e = .returned (.tuple #[r, .int .i64 0]) ∧ Hid (Arg w' r (setB b (first b f t).toNat true)) ∧ Below W.heap.size W w') := fun W hW => by
      have := X.set b _ true _ W hL hI (h.below hW)
      rw [setR_has true h1, h1] at this
      exact this.mono fun e w' ⟨r, he, hr, hb⟩ => ⟨r, he, hr.out.arg, hb⟩
    have hL2 : (setB b (first b f t).toNat true).length ≤ 1000 := by rw [setB_length]; exact hL
    have HGet2 : Hid (∀ W v, Arg W v (setB b (first b f t).toNat true) → Calls Try.prog 12 #[v, .int .i64 (first b f t)] W fun e w' => e = .returned (.bool true) ∧ Below W.heap.size W w') := fun W v hv => by
      have := X.get _ _ v W hL2 hI hv
      rwa [h3] at this
    have HCnt2 : Hid (∀ W v, Arg W v (setB b (first b f t).toNat true) → Calls Try.prog 8 #[v, .int .i64 f, .int .i64 t] W fun e w' => e = .returned (.int .i64 ((count b f t + 1 : Nat) : Int)) ∧ Below W.heap.size W w') := fun W v hv => by
      have := X.count _ f t v W hL2 hf ht hv
      rwa [h4] at this
    have HFst2 : Hid (∀ W v, Arg W v (setB b (first b f t).toNat true) → Calls Try.prog 10 #[v, .int .i64 f, .int .i64 t] W fun e w' => e = .returned (.int .i64 (first (setB b (first b f t).toNat true) f t)) ∧ Below W.heap.size W w') := fun W v hv => X.first _ f t v W hL2 hf ht hv
    have hcl := count_le b f t
    generalize first (setB b (first b f t).toNat true) f t = j at *
    generalize setB b (first b f t).toNat true = b2 at *
    generalize first b f t = i at *
    obtain ⟨c, hc⟩ : ∃ c, c = count b f t := ⟨_, rfl⟩
    rw [← hc] at HCnt HCnt2 hcl
    have hc8 : c ≤ 8000 := by omega
    clear hf ht h hL hn hiB hI h1 h2 h3 h4 hL2 hc hcl HMan
    go_enter Try.func4, Try.ntmps4
    go_wp2_with fail
    refine (HFst.out w (Below.refl _ _)).mono ?_
    rintro e w1 ⟨rfl, hb⟩
    have HC : Hid (Below w.heap.size w w1) := hb
    clear hb
    go_wp2_with fail
    refine (HSet.out w1 HC.out).mono ?_
    rintro e w2 ⟨r, rfl, HR, hb⟩
    replace HC := Lib.hid (HC.out.trans (hb.mono HC.out.size))
    clear hb
    go_wp2_with fail
    refine (HFst2.out w2 _ HR.out).mono ?_
    rintro e w3 ⟨rfl, hb⟩
    replace HC := Lib.hid (HC.out.trans (hb.mono HC.out.size))
    replace HR := Lib.hid (HR.out.below hb)
    clear hb
    go_wp2_with fail
    refine (HGet.out w3 HC.out).mono ?_
    rintro e w4 ⟨rfl, hb⟩
    replace HC := Lib.hid (HC.out.trans (hb.mono HC.out.size))
    replace HR := Lib.hid (HR.out.below hb)
    clear hb
    go_wp2_with fail
    refine (HGet2.out w4 _ HR.out).mono ?_
    rintro e w5 ⟨rfl, hb⟩
    replace HC := Lib.hid (HC.out.trans (hb.mono HC.out.size))
    replace HR := Lib.hid (HR.out.below hb)
    clear hb
    go_wp2_with fail
    refine (HCnt2.out w5 _ HR.out).mono ?_
    rintro e w6 ⟨rfl, hb⟩
    replace HC := Lib.hid (HC.out.trans (hb.mono HC.out.size))
    clear hb HR
    go_wp2_with fail
    refine (HCnt.out w6 HC.out).mono ?_
    rintro e w7 ⟨rfl, hb⟩
    replace HC := Lib.hid (HC.out.trans (hb.mono HC.out.size))
    clear hb
    rcases h5 with rfl | h5
    · go_wp2_with fail
      refine (HK.out w7).mono ?_
      rintro e w8 ⟨rfl, hb⟩
      replace HC := Lib.hid (HC.out.trans (hb.mono HC.out.size))
      clear hb
      go_wp2
      go_ret
      exact ⟨rfl, HC.out⟩
    · go_wp2_with fail
      refine (HK.out w7).mono ?_
      rintro e w8 ⟨rfl, hb⟩
      replace HC := Lib.hid (HC.out.trans (hb.mono HC.out.size))
      clear hb
      go_wp2
      go_ret
      exact ⟨rfl, HC.out⟩
end Go.Proofs.Ytoblnmmbcdokgaa
