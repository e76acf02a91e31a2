/-
  THE WALK of the program's visit, for whatever function is handed over.
-/
import Derived.Test.YtoblnmmbcdokgaaFP
namespace Go.Proofs.Ytoblnmmbcdokgaa
open Go.RowKit Bm

set_option maxRecDepth 100000 in
set_option maxHeartbeats 1000000 in
theorem Bmvisit_any (k : FuncId) (caps : Array Value) (b : List UInt8) (f t : Int) (A : Option Addr) (cap : Nat) (J : Nat → World → Prop) (Q : World → Prop) (w : World) (hl : b.length ≤ 1000000) (hf : In64 f) (ht : In64 t)
    (hEn : ∀ (args : Array Value) (W : World), (callFunc k args).run Try.prog W = .ok (.enter k args) W)
    (hDo : ∀ (i : Nat) W, f ≤ i → has b i = true → (i : Int) < t → J i W → Calls Try.prog k (#[.int .i64 i] ++ caps) W fun e w' => ∃ c, e = .returned (.bool c) ∧ (c = true → J (i + 1) w') ∧ (c = false → Q w'))
    (hEnd : ∀ (i : Nat) W, f ≤ i → ¬ ((i : Int) < t ∧ has b i = true) → J i W → Q W) (h0 : J f.toNat w) :
    Calls Try.prog 17 #[.slice A b.length cap, .int .i64 f, .int .i64 t, .func (.func k) #[] caps] w fun e w' => e = .returned (.tuple #[]) ∧ Q w' := by
  have HH : Hid (∀ (i : Int) W, In64 i → Calls Try.prog 15 #[.slice A b.length cap, .int .i64 i] W fun e w' => e = .returned (.bool (has b i)) ∧ w' = W) := fun i W hi => Bmhas_any b i A cap W hl hi
  have HT : Hid (∀ i : Nat, has b i = true → i ≤ 8000000) := fun i h => by have := has_iff.1 h; omega
  obtain ⟨f1, f2⟩ := hf
  obtain ⟨t1, t2⟩ := ht
  generalize has b = p at *
  generalize b.length = n at *
  have HDo := Lib.hid hDo
  have HEnd := Lib.hid hEnd
  have H0 := Lib.hid h0
  clear hDo hEnd h0 hl b
  have hmax : ∀ W : World, (Builtin.max_ #[3, 3] 3 #[.int .i64 f, .int .i64 0]).run Try.prog W = .ok (.int .i64 (f.toNat : Int)) W := by
    intro W
    by_cases h : f < 0
    · rw [show f.toNat = 0 by omega]; simp [Builtin.max_, Builtin.max2, h]
    · rw [show ((f.toNat : Nat) : Int) = f by omega]; simp [Builtin.max_, Builtin.max2, h]
  go_enter Try.func17, Try.ntmps17
  go_wp2
  go_loopw [8] (fun i wr => ∃ m : Nat, i = .int .i64 m ∧ f ≤ m ∧ Hid (In64 m) ∧ Hid (J m wr)) (fun i _ => 8000001 - (intOf i).toNat)
  case atStart => exact ⟨f.toNat, by rw [show max f 0 = ((f.toNat : Nat) : Int) by omega], by omega, ⟨by omega, by omega⟩, H0⟩
  case round =>
    obtain ⟨m, rfl, hm, HM, HJ⟩ := hrel
    clear H0
    have HHm := Lib.hid (HH.out m wr HM.out)
    have HEm := Lib.hid (HEnd.out m wr hm)
    have HTm := Lib.hid (HT.out m)
    by_cases hlt : (m : Int) < t
    · cases hp : p m
      · rw [hp] at HHm
        have HQ : Hid (Q wr) := HEm.out (fun h => by rw [hp] at h; cases h.2) HJ.out
        clear hp HEm HH HDo HEnd HTm HT HJ
        go_wp2_with fail
        refine HHm.out.mono ?_
        rintro e w1 ⟨rfl, rfl⟩
        go_wp2
        go_end0
        exact ⟨rfl, HQ.out⟩
      · rw [hp] at HHm
        have HD := Lib.hid (HDo.out m wr hm hp hlt HJ.out)
        have hm8 : m ≤ 8000000 := HTm.out hp
        clear hp HEm HH HDo HEnd HTm HT HJ
        go_wp2_with fail
        refine HHm.out.mono ?_
        rintro e w1 ⟨rfl, rfl⟩
        go_wp2_with fail
        refine HD.out.mono ?_
        rintro e w2 ⟨c, rfl, hc1, hc2⟩
        cases c
        · have HQ := Lib.hid (hc2 rfl)
          clear hc1 hc2 HD HHm
          go_wp2
          (try simp only [Exit.inBlock, Exit.then]); refine bodyPost_ret (results_none rfl _ _ _) rfl ?_
          exact ⟨rfl, HQ.out⟩
        · have HQ := Lib.hid (hc1 rfl)
          clear hc1 hc2 HD HHm
          go_wp2
          go_roundw
          case rel => exact ⟨m + 1, by go_num, by omega, ⟨by omega, by omega⟩, HQ⟩
          case measure => simp [intOf]; omega
    · have HQ : Hid (Q wr) := HEm.out (fun h => hlt h.1) HJ.out
      clear HEm HH HDo HEnd HTm HT HJ HHm
      go_wp2
      go_end0
      exact ⟨rfl, HQ.out⟩
end Go.Proofs.Ytoblnmmbcdokgaa
