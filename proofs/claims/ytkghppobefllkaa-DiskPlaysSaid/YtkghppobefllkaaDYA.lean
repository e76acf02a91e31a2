/-
  The law DiskPlays at every input.
-/
import Derived.Test.YtkghppobefllkaaDY
namespace Go.Proofs.Ytkghppobefllkaa
open Go.RowKit Dsk

set_option maxRecDepth 100000 in
set_option maxHeartbeats 1000000 in
theorem DPlays_long (n : Int) (A1 : Option Addr) (n1 c1 : Nat) (h : (40 < n ∧ n ≤ 512) ∨ 60 < n1) (w : World) :
    Calls Try.prog 3 #[.int .i64 n, .slice A1 n1 c1] w fun e w' => e = .returned (.bool true) ∧ Below w.heap.size w w' := by
  go_enter Try.func3, Try.ntmps3
  by_cases h1 : 40 < n ∧ n ≤ 512
  · clear h
    obtain ⟨h2, h3⟩ := h1
    go_wp2_with fail
    refine (Dknows_any w).mono ?_
    rintro e w8 ⟨rfl, hb8⟩
    go_wp2
    go_ret
    exact ⟨rfl, hb8⟩
  · have h2 : 60 < n1 := by omega
    clear h
    by_cases h3 : 40 < n
    · have h4 : 512 < n := by omega
      clear h1
      go_wp2_with fail
      refine (Dknows_any w).mono ?_
      rintro e w8 ⟨rfl, hb8⟩
      go_wp2
      go_ret
      exact ⟨rfl, hb8⟩
    · have h4 : n ≤ 40 := by omega
      clear h1 h3
      go_wp2_with fail
      refine (Dknows_any w).mono ?_
      rintro e w8 ⟨rfl, hb8⟩
      go_wp2
      go_ret
      exact ⟨rfl, hb8⟩

set_option maxRecDepth 100000 in
set_option maxHeartbeats 1000000 in
theorem DPlays_none (n : Int) (A1 : Option Addr) (n1 c1 : Nat) (h : n < 1 ∨ 512 < n) (hn1 : n1 ≤ 60) (w : World) :
    Calls Try.prog 3 #[.int .i64 n, .slice A1 n1 c1] w fun e w' => e = .returned (.bool true) ∧ Below w.heap.size w w' := by
  have HN := Lib.hid (DNew_bad n h w)
  go_enter Try.func3, Try.ntmps3
  by_cases h1 : n < 1
  · clear h
    go_wp2_with fail
    refine HN.out.mono ?_
    rintro e w1 ⟨rfl, rfl⟩
    clear HN
    go_wp2_with fail
    refine (Dknows_any w1).mono ?_
    rintro e w8 ⟨rfl, hb8⟩
    go_wp2
    go_ret
    exact ⟨rfl, hb8⟩
  · have h2 : 512 < n := by omega
    clear h h1
    go_wp2_with fail
    refine HN.out.mono ?_
    rintro e w1 ⟨rfl, rfl⟩
    clear HN
    go_wp2_with fail
    refine (Dknows_any w1).mono ?_
    rintro e w8 ⟨rfl, hb8⟩
    go_wp2
    go_ret
    exact ⟨rfl, hb8⟩

theorem DPlays_any (n : Int) (A1 : Option Addr) (n1 c1 : Nat) (lb : List Deed) (w : World) (db : Deeds w (.slice A1 n1 c1) lb) :
    Calls Try.prog 3 #[.int .i64 n, .slice A1 n1 c1] w fun e w' => e = .returned (.bool true) ∧ Below w.heap.size w w' := by
  by_cases h : (40 < n ∧ n ≤ 512) ∨ 60 < n1
  · exact DPlays_long n A1 n1 c1 h w
  · by_cases h2 : n < 1 ∨ 512 < n
    · exact DPlays_none n A1 n1 c1 h2 (by omega) w
    · obtain ⟨m, rfl⟩ : ∃ m : Nat, n = m := ⟨n.toNat, by omega⟩
      exact DPlays_short m (by omega) (by omega) A1 n1 c1 lb (by omega) w db
end Go.Proofs.Ytkghppobefllkaa
