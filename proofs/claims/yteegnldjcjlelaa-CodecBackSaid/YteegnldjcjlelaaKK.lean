/-
  THE WALK of the law's own example (knows).
-/
import Derived.Test.YteegnldjcjlelaaKF
import Derived.Test.YteegnldjcjlelaaKJ
namespace Go.Proofs.Yteegnldjcjlelaa
open Go.RowKit Cdc

theorem put_ex : okP [1, 2] [7, 258] = true ∧ putB [1, 2] [7, 258] = [7, 1, 2] := by decide +kernel
theorem put_ex2 : okP [1] [256] = false := by decide +kernel
theorem wide_ex : wide [9] = -1 := by decide +kernel

set_option maxRecDepth 100000 in
set_option maxHeartbeats 400000 in
theorem Kknows_any (w : World) : Calls Try.prog 5 #[] w fun e w' => e = .returned (.bool true) ∧ Below w.heap.size w w' := by
  have HP1 : Hid (∀ W v u, From W v ([1, 2].map VI) → From W u ([7, 258].map VU) → Calls Try.prog 6 #[v, u] W fun e w' => ∃ r, e = .returned (.tuple #[r, .int .i64 0]) ∧ Hid (Arg w' r [7, 1, 2]) ∧ Below W.heap.size W w') := fun W v u hv hu => by
    have := KPut_any [1, 2] (by decide) [7, 258] (by decide) v u W hv hu
    rw [put_ex.1, put_ex.2] at this
    exact this
  have HP2 : Hid (∀ W v u, From W v ([1].map VI) → From W u ([256].map VU) → Calls Try.prog 6 #[v, u] W fun e w' => ∃ r, e = .returned (.tuple #[r, .int .i64 1]) ∧ Below W.heap.size W w') := fun W v u hv hu => by
    have := KPut_any [1] (by decide) [256] (by decide) v u W hv hu
    rw [put_ex2] at this
    exact this.mono fun e w' ⟨r, he, _, hb⟩ => ⟨r, he, hb⟩
  have HW : Hid (∀ W v, From W v ([9].map VI) → Calls Try.prog 10 #[v] W fun e w' => e = .returned (.int .i64 (-1)) ∧ Below W.heap.size W w') := fun W v hv => by
    have := KWide_any [9] (by decide) v W hv
    rw [wide_ex] at this
    exact this
  go_enter Try.func5, Try.ntmps5
  go_wp2_with fail
  have hF1 : From ((w.alloc (.cells #[.int .i64 1, .int .i64 2] 3)).alloc (.cells #[.int .u64 7, .int .u64 258] 38)) (.slice (some ⟨w.heap.size, 0, none⟩) 2 2) ([1, 2].map VI) := (from_new w 3 ([1, 2].map VI)).alloc _
  have hU1 : From ((w.alloc (.cells #[.int .i64 1, .int .i64 2] 3)).alloc (.cells #[.int .u64 7, .int .u64 258] 38)) (.slice (some ⟨w.heap.size + 1, 0, none⟩) 2 2) ([7, 258].map VU) := by
    have := from_new (w.alloc (.cells #[.int .i64 1, .int .i64 2] 3)) 38 ([7, 258].map VU)
    rwa [World.size_alloc] at this
  refine (HP1.out _ _ _ hF1 hU1).mono ?_
  rintro e w1 ⟨r1, rfl, Hr1, hb1⟩
  have HB1 : Hid (Below w.heap.size w w1) := (((Below.refl _ w).alloc (Nat.le_refl _) _).alloc (by simp) _).trans (hb1.mono (by simp; omega))
  clear hb1 hF1 hU1
  go_wp2_with fail
  have hF2 : From ((w1.alloc (.cells #[.int .i64 1] 3)).alloc (.cells #[.int .u64 256] 38)) (.slice (some ⟨w1.heap.size, 0, none⟩) 1 1) ([1].map VI) := (from_new w1 3 ([1].map VI)).alloc _
  have hU2 : From ((w1.alloc (.cells #[.int .i64 1] 3)).alloc (.cells #[.int .u64 256] 38)) (.slice (some ⟨w1.heap.size + 1, 0, none⟩) 1 1) ([256].map VU) := by
    have := from_new (w1.alloc (.cells #[.int .i64 1] 3)) 38 ([256].map VU)
    rwa [World.size_alloc] at this
  refine (HP2.out _ _ _ hF2 hU2).mono ?_
  rintro e w2 ⟨r2, rfl, hb2⟩
  have hb12 : Below w1.heap.size w1 w2 := (((Below.refl _ w1).alloc (Nat.le_refl _) _).alloc (by simp) _).trans (hb2.mono (by simp; omega))
  have HB2 : Hid (Below w.heap.size w w2) := HB1.out.trans (hb12.mono HB1.out.size)
  have cv : (convert 24 9 r1).run Try.prog w2 = .ok (.string ⟨#[7, 1, 2]⟩) w2 := conv_arg (Hr1.out.below hb12)
  clear hb2 hb12 hF2 hU2 HP1 HP2 HB1 Hr1
  go_wp2_with fail
  refine (HW.out _ _ (from_new w2 3 ([9].map VI))).mono ?_
  rintro e w3 ⟨rfl, hb3⟩
  have HB3 : Hid (Below w.heap.size w w3) := (HB2.out.alloc HB2.out.size _).trans (hb3.mono (by have := HB2.out.size; simp; omega))
  go_wp2
  go_ret
  exact ⟨rfl, HB3.out⟩
end Go.Proofs.Yteegnldjcjlelaa
