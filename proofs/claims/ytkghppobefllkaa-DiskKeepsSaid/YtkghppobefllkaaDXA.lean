/-
  The law DiskKeeps at every input.
-/
import Derived.Test.YtkghppobefllkaaDX
namespace Go.Proofs.Ytkghppobefllkaa
open Go.RowKit Dsk

set_option maxRecDepth 100000 in
set_option maxHeartbeats 1000000 in
theorem DKeeps_long (n : Int) (A0 : Option Addr) (n0 c0 : Nat) (A1 : Option Addr) (n1 c1 : Nat) (A2 : Option Addr) (n2 c2 : Nat) (h : n < 1 ∨ 20 < n ∨ 30 < n0 ∨ 30 < n1 ∨ 100 < n2) (w : World) :
    Calls Try.prog 4 #[.int .i64 n, .slice A0 n0 c0, .slice A1 n1 c1, .slice A2 n2 c2] w fun e w' => e = .returned (.bool true) ∧ Below w.heap.size w w' := by
  go_enter Try.func4, Try.ntmps4
  by_cases h1 : n < 1
  · clear h
    go_wp2_with fail
    refine (Dknows_any w).mono ?_
    rintro e w8 ⟨rfl, hb8⟩
    go_wp2
    go_ret
    exact ⟨rfl, hb8⟩
  · by_cases h2 : 20 < n
    · clear h
      go_wp2_with fail
      refine (Dknows_any w).mono ?_
      rintro e w8 ⟨rfl, hb8⟩
      go_wp2
      go_ret
      exact ⟨rfl, hb8⟩
    · by_cases h3 : 30 < n0
      · clear h
        go_wp2_with fail
        refine (Dknows_any w).mono ?_
        rintro e w8 ⟨rfl, hb8⟩
        go_wp2
        go_ret
        exact ⟨rfl, hb8⟩
      · by_cases h4 : 30 < n1
        · clear h
          go_wp2_with fail
          refine (Dknows_any w).mono ?_
          rintro e w8 ⟨rfl, hb8⟩
          go_wp2
          go_ret
          exact ⟨rfl, hb8⟩
        · have h5 : 100 < n2 := by omega
          clear h
          go_wp2_with fail
          refine (Dknows_any w).mono ?_
          rintro e w8 ⟨rfl, hb8⟩
          go_wp2
          go_ret
          exact ⟨rfl, hb8⟩

theorem DKeeps_any (n : Int) (A0 : Option Addr) (n0 c0 : Nat) (A1 : Option Addr) (n1 c1 : Nat) (A2 : Option Addr) (n2 c2 : Nat) (la lb : List Deed) (ks : List Bool) (w : World)
    (da : Deeds w (.slice A0 n0 c0) la) (db : Deeds w (.slice A1 n1 c1) lb) (hk : From w (.slice A2 n2 c2) (ks.map Value.bool)) (hkn : ks.length = n2) :
    Calls Try.prog 4 #[.int .i64 n, .slice A0 n0 c0, .slice A1 n1 c1, .slice A2 n2 c2] w fun e w' => e = .returned (.bool true) ∧ Below w.heap.size w w' := by
  by_cases h : n < 1 ∨ 20 < n ∨ 30 < n0 ∨ 30 < n1 ∨ 100 < n2
  · exact DKeeps_long n A0 n0 c0 A1 n1 c1 A2 n2 c2 h w
  · obtain ⟨m, rfl⟩ : ∃ m : Nat, n = m := ⟨n.toNat, by omega⟩
    exact DKeeps_short m (by omega) (by omega) A0 n0 c0 A1 n1 c1 A2 n2 c2 la lb ks (by omega) (by omega) (by omega) w da db hk hkn
end Go.Proofs.Ytkghppobefllkaa
