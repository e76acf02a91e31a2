/-
  THE LAW CachePlays, for any arguments (written by wip/mkcany.py).
-/
import Derived.Test.YthcphabfeapjbaaPP
namespace Go.Proofs.Ythcphabfeapjbaa
open Go.RowKit Ca

set_option maxRecDepth 100000 in
set_option maxHeartbeats 8000000 in
theorem CPlays_any {C : Cach} (X : CacheC C) (z1 z2 : Int) (hz1 : In64 z1) (hz2 : In64 z2) (l : List CDeed) (u : Value) (w : World) (hL : CDeeds w u l) :
    Calls Try.prog 3 #[.int .i64 z1, .int .i64 z2, u] w fun e w' => e = .returned (.bool true) ∧ Below w.heap.size w w' := by
  have hLL := hL
  obtain ⟨B, cap2, rfl, -, -⟩ := hLL
  obtain ⟨m, hm⟩ : ∃ n, n = l.length := ⟨_, rfl⟩
  rw [← hm] at hL ⊢
  clear hm
  have HK := Lib.hid (Cknows_any X w)
  rcases Nat.lt_or_ge 120 m with g1 | g1
  · clear hL hz1 hz2
    go_enter Try.func3, Try.ntmps3
    go_wp2_with fail
    refine HK.out.mono ?_
    rintro e w1 ⟨rfl, hb⟩
    go_wp2
    go_ret
    exact ⟨rfl, hb⟩
  rcases Int.lt_or_le 64 z1 with a1 | a1
  · skip
    rcases Int.lt_or_le 64 z2 with b1 | b1
    · have HN := Lib.hid (X.newBad z1 z2 w hz1 hz2 (by omega))
      clear hL hz1 hz2
      go_enter Try.func3, Try.ntmps3
      go_wp2_with fail
      refine HN.out.mono ?_
      rintro e w1 ⟨rfl, hb⟩
      go_wp2_with fail
      refine (Cknows_any X w1).mono ?_
      rintro e w2 ⟨rfl, hb2⟩
      have hb3 := hb.trans (hb2.mono hb.size)
      go_wp2
      go_ret
      exact ⟨rfl, hb3⟩
    rcases Int.lt_or_le 8 z2 with b2 | b2
    · clear hL hz1 hz2
      go_enter Try.func3, Try.ntmps3
      go_wp2_with fail
      refine HK.out.mono ?_
      rintro e w1 ⟨rfl, hb⟩
      go_wp2
      go_ret
      exact ⟨rfl, hb⟩
    rcases Int.lt_or_le z2 1 with b3 | b3
    · have HN := Lib.hid (X.newBad z1 z2 w hz1 hz2 (by omega))
      clear hL hz1 hz2
      go_enter Try.func3, Try.ntmps3
      go_wp2_with fail
      refine HN.out.mono ?_
      rintro e w1 ⟨rfl, hb⟩
      go_wp2_with fail
      refine (Cknows_any X w1).mono ?_
      rintro e w2 ⟨rfl, hb2⟩
      have hb3 := hb.trans (hb2.mono hb.size)
      go_wp2
      go_ret
      exact ⟨rfl, hb3⟩
    have HN := Lib.hid (X.newBad z1 z2 w hz1 hz2 (by omega))
    clear hL hz1 hz2
    go_enter Try.func3, Try.ntmps3
    go_wp2_with fail
    refine HN.out.mono ?_
    rintro e w1 ⟨rfl, hb⟩
    go_wp2_with fail
    refine (Cknows_any X w1).mono ?_
    rintro e w2 ⟨rfl, hb2⟩
    have hb3 := hb.trans (hb2.mono hb.size)
    go_wp2
    go_ret
    exact ⟨rfl, hb3⟩
  rcases Int.lt_or_le 8 z1 with a2 | a2
  · clear hL hz1 hz2
    go_enter Try.func3, Try.ntmps3
    go_wp2_with fail
    refine HK.out.mono ?_
    rintro e w1 ⟨rfl, hb⟩
    go_wp2
    go_ret
    exact ⟨rfl, hb⟩
  rcases Int.lt_or_le z1 1 with a3 | a3
  · skip
    rcases Int.lt_or_le 64 z2 with b1 | b1
    · have HN := Lib.hid (X.newBad z1 z2 w hz1 hz2 (by omega))
      clear hL hz1 hz2
      go_enter Try.func3, Try.ntmps3
      go_wp2_with fail
      refine HN.out.mono ?_
      rintro e w1 ⟨rfl, hb⟩
      go_wp2_with fail
      refine (Cknows_any X w1).mono ?_
      rintro e w2 ⟨rfl, hb2⟩
      have hb3 := hb.trans (hb2.mono hb.size)
      go_wp2
      go_ret
      exact ⟨rfl, hb3⟩
    rcases Int.lt_or_le 8 z2 with b2 | b2
    · clear hL hz1 hz2
      go_enter Try.func3, Try.ntmps3
      go_wp2_with fail
      refine HK.out.mono ?_
      rintro e w1 ⟨rfl, hb⟩
      go_wp2
      go_ret
      exact ⟨rfl, hb⟩
    rcases Int.lt_or_le z2 1 with b3 | b3
    · have HN := Lib.hid (X.newBad z1 z2 w hz1 hz2 (by omega))
      clear hL hz1 hz2
      go_enter Try.func3, Try.ntmps3
      go_wp2_with fail
      refine HN.out.mono ?_
      rintro e w1 ⟨rfl, hb⟩
      go_wp2_with fail
      refine (Cknows_any X w1).mono ?_
      rintro e w2 ⟨rfl, hb2⟩
      have hb3 := hb.trans (hb2.mono hb.size)
      go_wp2
      go_ret
      exact ⟨rfl, hb3⟩
    have HN := Lib.hid (X.newBad z1 z2 w hz1 hz2 (by omega))
    clear hL hz1 hz2
    go_enter Try.func3, Try.ntmps3
    go_wp2_with fail
    refine HN.out.mono ?_
    rintro e w1 ⟨rfl, hb⟩
    go_wp2_with fail
    refine (Cknows_any X w1).mono ?_
    rintro e w2 ⟨rfl, hb2⟩
    have hb3 := hb.trans (hb2.mono hb.size)
    go_wp2
    go_ret
    exact ⟨rfl, hb3⟩
  rcases Int.lt_or_le 64 z2 with b1 | b1
  · have HN := Lib.hid (X.newBad z1 z2 w hz1 hz2 (by omega))
    clear hL hz1 hz2
    go_enter Try.func3, Try.ntmps3
    go_wp2_with fail
    refine HN.out.mono ?_
    rintro e w1 ⟨rfl, hb⟩
    go_wp2_with fail
    refine (Cknows_any X w1).mono ?_
    rintro e w2 ⟨rfl, hb2⟩
    have hb3 := hb.trans (hb2.mono hb.size)
    go_wp2
    go_ret
    exact ⟨rfl, hb3⟩
  rcases Int.lt_or_le 8 z2 with b2 | b2
  · clear hL hz1 hz2
    go_enter Try.func3, Try.ntmps3
    go_wp2_with fail
    refine HK.out.mono ?_
    rintro e w1 ⟨rfl, hb⟩
    go_wp2
    go_ret
    exact ⟨rfl, hb⟩
  rcases Int.lt_or_le z2 1 with b3 | b3
  · have HN := Lib.hid (X.newBad z1 z2 w hz1 hz2 (by omega))
    clear hL hz1 hz2
    go_enter Try.func3, Try.ntmps3
    go_wp2_with fail
    refine HN.out.mono ?_
    rintro e w1 ⟨rfl, hb⟩
    go_wp2_with fail
    refine (Cknows_any X w1).mono ?_
    rintro e w2 ⟨rfl, hb2⟩
    have hb3 := hb.trans (hb2.mono hb.size)
    go_wp2
    go_ret
    exact ⟨rfl, hb3⟩
  obtain ⟨sh, rfl⟩ : ∃ n : Nat, z1 = (n : Int) := ⟨z1.toNat, by omega⟩
  obtain ⟨room, rfl⟩ : ∃ n : Nat, z2 = (n : Int) := ⟨z2.toNat, by omega⟩
  exact CPlays_short X sh room (by omega) (by omega) (by omega) (by omega) B m cap2 l g1 w hL
end Go.Proofs.Ythcphabfeapjbaa
