/-
  THE WALK of the program's serve.
-/
import Derived.Test.YtcpdhfgigopfoaaIT
namespace Go.Proofs.Ytcpdhfgigopfoaa
open Go.RowKit Cdc Inn

theorem run_index_num (cs : Array Value) (j : Nat) (hj : j < 5) (x : Int) (h : cs[j]? = some (.int .i64 x)) (w : World) :
    (Instr.index 43 (.agg cs) (.int .i64 (j : Int))).run Try.prog w = .ok (.int .i64 x) w := by
  have hp := part_int cs j _ h w
  have hb : (j : Int) < 5 := by omega
  simp only [Instr.index, asIntOf, run_underlying Try.underlying43, Sem.run_bind, Sem.run_pure, Result.andThen_ok]
  simp [hb, hp]
theorem cutNum (g j : Nat) (hj : j ≤ 5) (W : World) : (Instr.sliceAt 43 (.pointer (some ⟨g, 0, none⟩)) none (some (.int .i64 (j : Int))) none).run Try.prog W = .ok (.slice (some ⟨g, 0, none⟩) j 5) W := by
  have hu : Try.prog.underlying 43 = some (.array (Try.prog.arrayLen 43) (Try.prog.elem 43)) := by kernel_rfl
  have hal : Try.prog.arrayLen 43 = 5 := by kernel_rfl
  have hs : (sizeOf (Try.prog.elem 43)).run Try.prog W = .ok 1 W := by kernel_rfl
  rw [run_sliceAt_array_h W 43 ⟨g, 0, none⟩ hu .i64 (j : Int) (by omega) (by rw [hal]; omega), hs]
  simp only [Result.andThen_ok, slicedAt, hal, Nat.zero_mul, add_off, Nat.add_zero, Nat.sub_zero, Int.toNat_natCast]
  rw [if_neg (by omega)]
theorem from_cut {w : World} {g : Nat} {t : TypeId} {l : List Int} (h : Row w g t (l.map VI)) (j : Nat) (hj : j ≤ l.length) : From w (.slice (some ⟨g, 0, none⟩) j 5) ((l.take j).map VI) := by
  refine .inr ⟨g, 0, 5, by rw [List.length_map, List.length_take, Nat.min_eq_left hj], h.lt, ?_⟩
  have := h.sees.piece 0 j
  rwa [Nat.zero_add, List.drop_zero, ← List.map_take] at this

set_option maxRecDepth 100000 in
set_option maxHeartbeats 1000000 in
theorem InServe_any (l : List Int) (hl : l.length = 5) (n : Nat) (w : World) :
    Calls Try.prog 19 #[.agg (l.map VI).toArray, .int .i64 n] w fun e w' => e = .returned (.bool (serveL l n)) ∧ Below w.heap.size w w' := by
  obtain ⟨r, hr⟩ : ∃ r, r = serveL l n := ⟨_, rfl⟩
  rw [← hr]
  obtain ⟨w0, hw0⟩ : ∃ w0, w0 = w.alloc (.cells (l.map VI).toArray 43) := ⟨_, rfl⟩
  have HR : Hid (Row w0 w.heap.size 43 (l.map VI)) := by rw [hw0]; exact Row.new w 43 (l.map VI)
  have HC : Hid (Below w.heap.size w w0) := by rw [hw0]; exact (Below.refl _ _).alloc (Nat.le_refl _) _
  have Hno : Hid (∀ i, i < 5 → okS l n i = false → r = false) := fun i hi h => by rw [hr]; exact serveL_no hi h
  have Hyes : Hid ((∀ i, i < 5 → okS l n i = true) → r = true) := fun h => by rw [hr]; exact serveL_iff.2 h
  obtain ⟨cs, hcs⟩ : ∃ cs, cs = (l.map VI).toArray := ⟨_, rfl⟩
  have Hcs := Lib.hid hcs
  have Hsz : Hid (cs.size = 5) := by show _ = _; rw [hcs]; simp [hl]
  rw [← hcs] at hw0 ⊢
  have HL := Lib.hid hl
  clear hcs hr hl
  go_enter Try.func19, Try.ntmps19
  go_wp2_with (refine wpList_load_row rfl 43 (.tmp 2) rfl w.heap.size rfl 43 cs (0, 0) _ (by rw [← hw0, Hcs.out]; exact HR.out) Try.underlying43 rfl (by rw [Hsz.out]; kernel_rfl) ?_)
  rw [← hw0]
  clear hw0
  go_loop [8] (fun i => ∃ j : Nat, j ≤ 5 ∧ i = .int .i64 j ∧ Hid (∀ m, m < j → okS l n m = true)) (fun i => 5 - (intOf i).toNat)
  case atStart => exact ⟨0, by omega, rfl, fun m hm => by omega⟩
  case round =>
    obtain ⟨j, hj, rfl, Hok⟩ := hrel
    by_cases hlt : j < 5
    · have hix := run_index_num cs j hlt (l.getD j 0) (by rw [Hcs.out]; simp [VI, HL.out, hlt])
      have hcut := cutNum w.heap.size j (by omega)
      have HCt := Lib.hid (QContI_any (l.take j) (by simp; omega) (l.getD j 0) _ w0 (from_cut HR.out j (by rw [HL.out]; omega)))
      have Hnoj := Lib.hid (Hno.out j hlt)
      have Hnx : Hid (okS l n j = true → ∀ m, m < j + 1 → okS l n m = true) := fun h m hm => by
        by_cases e : m = j
        · rw [e]; exact h
        · exact Hok.out m (by omega)
      obtain ⟨c, hc⟩ : ∃ c, c = decide (l.getD j 0 ∈ l.take j) := ⟨_, rfl⟩
      have Hdef : Hid (okS l n j = if n ≤ j then decide (l.getD j 0 = 0) else decide (1 ≤ l.getD j 0) && decide (l.getD j 0 ≤ 127) && !c) := by rw [hc]; rfl
      rw [← hc] at HCt
      clear hc Hok
      generalize l.getD j 0 = y at *
      by_cases hnj : n ≤ j
      · have hge : ((j : Int) ≥ (n : Int)) := by omega
        rw [if_pos hnj] at Hdef
        by_cases hy : y = 0
        · subst hy
          have H := Lib.hid (Hnx.out (by rw [Hdef.out]; rfl))
          go_wp2
          go_round
          case rel => exact ⟨j + 1, by omega, by go_num, H⟩
          case measure => simp [intOf] <;> omega
        · have hy2 : (y == 0) = false := beq_eq_false_iff_ne.2 hy
          have H := Lib.hid (Hnoj.out (by rw [Hdef.out]; exact decide_eq_false hy))
          go_wp2
          go_ret
          rw [H.out]
          exact ⟨rfl, HC.out⟩
      · rw [if_neg hnj] at Hdef
        by_cases h1 : y < 1
        · have H := Lib.hid (Hnoj.out (by rw [Hdef.out, decide_eq_false (by omega : ¬ 1 ≤ y)]; rfl))
          go_wp2
          go_ret
          rw [H.out]
          exact ⟨rfl, HC.out⟩
        · by_cases h2 : y ≤ 127
          · cases c
            · have H := Lib.hid (Hnx.out (by rw [Hdef.out, decide_eq_true (by omega : 1 ≤ y), decide_eq_true h2]; rfl))
              go_wp2_with fail
              refine HCt.out.mono ?_
              rintro e w1 ⟨rfl, rfl⟩
              go_wp2
              go_round
              case rel => exact ⟨j + 1, by omega, by go_num, H⟩
              case measure => simp [intOf] <;> omega
            · have H := Lib.hid (Hnoj.out (by rw [Hdef.out]; simp))
              go_wp2_with fail
              refine HCt.out.mono ?_
              rintro e w1 ⟨rfl, rfl⟩
              go_wp2
              go_ret
              rw [H.out]
              exact ⟨rfl, HC.out⟩
          · have H := Lib.hid (Hnoj.out (by rw [Hdef.out, decide_eq_false h2]; simp))
            go_wp2
            go_ret
            rw [H.out]
            exact ⟨rfl, HC.out⟩
    · obtain rfl : j = 5 := by omega
      have H := Lib.hid (Hyes.out Hok.out)
      go_wp2
      go_ret
      rw [H.out]
      exact ⟨rfl, HC.out⟩
end Go.Proofs.Ytcpdhfgigopfoaa
