/-
  The law FilePlays, whole.
-/
import Derived.Test.YtiafmghdiidniaaLR
namespace Go.Proofs.Ytiafmghdiidniaa
open Go.RowKit Cdc Inn Fil

set_option maxRecDepth 100000 in
set_option maxHeartbeats 1000000 in
theorem FiPlays_any {C : Stor} (X : FileC C) (g : Geo) (hgi : geoIn g) (B : Option Addr) (n cap : Nat) (ds : List FDeed) (w : World) (hL : FDeeds w (.slice B n cap) ds) :
    Calls Try.prog 3 #[.agg #[.int .i64 g.n, .int .i64 g.k], .slice B n cap] w fun e w' => e = .returned (.bool true) ∧ Below w.heap.size w w' := by
  by_cases hn : n ≤ 30
  · cases hg : gmay g with
    | true => exact FiPlays_main X g hg B n cap hn ds w hL
    | false => exact FiPlays_bad X g hgi hg B n cap hn w
  · obtain ⟨w1, hw1⟩ : ∃ W, W = w.alloc (.cells #[.int .i64 g.n, .int .i64 g.k] 23) := ⟨_, rfl⟩
    have HB1 : Hid (Below w.heap.size w w1) := by rw [hw1]; exact (Below.refl _ _).alloc (Nat.le_refl _) _
    have HK := Lib.hid (Fiknows_any X w1)
    obtain ⟨gn, gk⟩ := g
    simp only at *
    clear hL hgi
    go_enter Try.func3, Try.ntmps3
    go_wp2_with fail
    rw [← hw1]
    clear hw1
    refine HK.out.mono ?_
    rintro e w2 ⟨rfl, hb⟩
    have HB2 := Lib.hid (HB1.out.trans (hb.mono HB1.out.size))
    clear hb HB1 HK
    go_wp2
    go_ret
    exact ⟨rfl, HB2.out⟩
end Go.Proofs.Ytiafmghdiidniaa
