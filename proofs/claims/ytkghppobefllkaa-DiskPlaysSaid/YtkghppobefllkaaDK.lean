/-
  THE WALK of eachWritten, for whatever function is handed over.
-/
import Derived.Test.YtkghppobefllkaaDJ
namespace Go.Proofs.Ytkghppobefllkaa
open Go.RowKit Dsk

set_option maxRecDepth 100000 in
set_option maxHeartbeats 1000000 in
theorem Deach_any (k : FuncId) (caps : Array Value) (D g n : Nat) (hn : n ≤ 512) (dirty : Nat → Bool) (ps : Nat → Nat) (J : Nat → World → Prop) (w : World)
    (hEn : ∀ (args : Array Value) (W : World), (callFunc k args).run Try.prog W = .ok (.enter k args) W)
    (hB : Calls Try.prog 25 #[.pointer (some ⟨D, 0, none⟩)] w fun e w' => e = .returned (.int .i64 n) ∧ w' = w)
    (hAt : ∀ (i : Nat) W, i < n → J i W → Calls Try.prog 28 #[.pointer (some ⟨D, 0, none⟩), .int .i64 i] W fun e w' => e = .returned (.pointer (some ⟨g, i * 145, none⟩)) ∧ w' = W)
    (hPtr : ∀ (i : Nat) W, i < n → J i W → W.cell? ⟨g, i * 145 + 72, none⟩ = some (.pointer (if dirty i then some ⟨ps i, 0, none⟩ else none)))
    (hDo : ∀ (i : Nat) W, i < n → J i W → dirty i = true → Calls Try.prog k (#[.pointer (some ⟨g, i * 145, none⟩)] ++ caps) W fun e w' => e = .returned (.tuple #[]) ∧ J (i + 1) w')
    (hSkip : ∀ (i : Nat) W, i < n → J i W → dirty i = false → J (i + 1) W) (h0 : J 0 w) :
    Calls Try.prog 30 #[.pointer (some ⟨D, 0, none⟩), .func (.func k) #[] caps] w fun e w' => e = .returned (.tuple #[]) ∧ J n w' := by
  have HB := Lib.hid hB
  have HAt := Lib.hid hAt
  have HP := Lib.hid hPtr
  have HDo := Lib.hid hDo
  have HS := Lib.hid hSkip
  have H0 := Lib.hid h0
  clear hB hAt hPtr hDo hSkip h0
  go_enter Try.func30, Try.ntmps30
  go_wp2_with fail
  refine HB.out.mono ?_
  rintro e w1 ⟨rfl, rfl⟩
  clear HB
  go_wp2
  go_loopw [8] (fun i wr => ∃ m : Nat, m ≤ n ∧ i = .int .i64 m ∧ Hid (J m wr)) (fun i _ => n - (intOf i).toNat)
  case atStart => exact ⟨0, by omega, rfl, H0⟩
  case round =>
    obtain ⟨m, hm, rfl, HJ⟩ := hrel
    clear H0
    by_cases hlt : m < n
    · have HA := Lib.hid (HAt.out m wr hlt HJ.out)
      have hp := HP.out m wr hlt HJ.out
      by_cases hd : dirty m = true
      · have HD := Lib.hid (HDo.out m wr hlt HJ.out hd)
        rw [hd, if_pos rfl] at hp
        clear hd HAt HP HDo HS
        go_wp2_with fail
        refine HA.out.mono ?_
        rintro e w2 ⟨rfl, rfl⟩
        go_wp2_with fail
        refine HD.out.mono ?_
        rintro e w3 ⟨rfl, hJ3⟩
        have HJ3 := Lib.hid hJ3
        clear hJ3 HD HJ hp HA
        go_wp2
        go_roundw
        case rel => exact ⟨m + 1, by omega, by go_num, HJ3⟩
        case measure => simp [intOf]; omega
      · have hd' : dirty m = false := by simpa using hd
        have HJ' := Lib.hid (HS.out m wr hlt HJ.out hd')
        rw [if_neg hd] at hp
        clear hd hd' HAt HP HDo HS HJ
        go_wp2_with fail
        refine HA.out.mono ?_
        rintro e w2 ⟨rfl, rfl⟩
        go_wp2_with fail
        go_roundw
        case rel => exact ⟨m + 1, by omega, by go_num, HJ'⟩
        case measure => simp [intOf]; omega
    · obtain rfl : m = n := by omega
      go_wp2
      go_end0
      exact ⟨rfl, HJ.out⟩
end Go.Proofs.Ytkghppobefllkaa
