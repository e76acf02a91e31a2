/-
  THE WALKS of the reference's numbers, May.
-/
import Derived.Test.YtiafmghdiidniaaIBA
import Derived.Deep.RegionHeld3
namespace Go.Proofs.Ytiafmghdiidniaa
open Go.RowKit Cdc Inn

set_option maxRecDepth 100000 in
set_option maxHeartbeats 1000000 in
theorem RInNumbers_any (x : Ino) (w : World) :
    Calls Try.prog 42 #[.agg (inoC x)] w fun e w' => ∃ g, e = .returned (.slice (some ⟨g, 0, none⟩) 7 7) ∧ Hid (Row w' g 3 (x.l.map VI)) ∧ w.heap.size ≤ g ∧ Below w.heap.size w w' := by
  obtain ⟨k, b, b0, b1, b2, b3, d⟩ := x
  unfold inoC
  have HR : Hid (Row (w.alloc (.cells #[.int .i64 k, .int .i64 b, .int .i64 b0, .int .i64 b1, .int .i64 b2, .int .i64 b3, .int .i64 d] 40)) w.heap.size 40 [.int .i64 k, .int .i64 b, .int .i64 b0, .int .i64 b1, .int .i64 b2, .int .i64 b3, .int .i64 d]) := Row.new w _ _
  have c0 := HR.out.cell 0
  have c1 := HR.out.cell 1
  have c2 := HR.out.cell 2
  have c3 := HR.out.cell 3
  have c4 := HR.out.cell 4
  have c5 := HR.out.cell 5
  have c6 := HR.out.cell 6
  simp only [List.getElem?_cons_zero, List.getElem?_cons_succ] at c0 c1 c2 c3 c4 c5 c6
  clear HR
  go_enter Try.func42, Try.ntmps42
  go_wp2
  go_ret
  refine ⟨w.heap.size + 1, by simp, ?_, by omega, ((Below.refl _ w).alloc (Nat.le_refl _) _).alloc (by simp) _⟩
  exact Row.newAt 3 [.int .i64 k, .int .i64 b, .int .i64 b0, .int .i64 b1, .int .i64 b2, .int .i64 b3, .int .i64 d] (by simp)

theorem rowI {w : World} {g : Nat} {t : TypeId} {l : List Int} (h : Row w g t (l.map VI)) (i : Nat) (hi : i < l.length) : w.cell? ⟨g, i, none⟩ = some (.int .i64 (l.getD i 0)) := by
  have := atI h.sees i hi
  rwa [Nat.zero_add] at this
theorem l_len (x : Ino) : x.l.length = 7 := rfl
/-- May, as the loops find it out. -/
theorem may_no {x : Ino} (h : x.k ≠ 0) (i : Nat) (h2 : 2 ≤ i) (h7 : i < 7) (ho : okAt x.l (data x.b) i = false) : may x = false := by
  rw [← Bool.not_eq_true]
  intro hm
  have := ((may_used h).1 hm).2.2.2 i h2 h7
  rw [ho] at this
  cases this
theorem okAt_no {l : List Int} {n i : Nat} (h : ¬ (0 ≤ l.getD i 0 ∧ l.getD i 0 ≤ 127 ∧ (decide (0 < l.getD i 0) = needed n i) ∧ ∀ j, 2 ≤ j → j < i → ¬ (l.getD j 0 = l.getD i 0 ∧ 0 < l.getD i 0))) : okAt l n i = false := by
  rw [← Bool.not_eq_true]
  exact fun hm => h (okAt_iff.1 hm)
theorem zero_of {x : Ino} (h : ∀ j, j < 7 → x.l.getD j 0 = 0) : x = zero := by
  apply Ino.ext_l
  apply List.ext_getElem?
  intro j
  rcases Nat.lt_or_ge j 7 with hj | hj
  · have := h j hj
    rw [List.getD_eq_getElem?_getD, List.getElem?_eq_getElem (by rw [l_len]; exact hj)] at this
    rw [List.getElem?_eq_getElem (by rw [l_len]; exact hj), List.getElem?_eq_getElem (by rw [l_len]; exact hj)]
    rw [Option.getD_some] at this
    rw [this]
    have : ∀ j : Fin 7, zero.l[j]? = some 0 := by decide
    have := this ⟨j, hj⟩
    rw [Fin.getElem?_fin, List.getElem?_eq_getElem (by rw [l_len]; exact hj)] at this
    exact this.symm
  · rw [List.getElem?_eq_none (by rw [l_len]; exact hj), List.getElem?_eq_none (by rw [l_len]; exact hj)]

set_option maxRecDepth 100000 in
set_option maxHeartbeats 2000000 in
theorem RInMay_any (x : Ino) (hf : x.fits) (w : World) :
    Calls Try.prog 22 #[.agg (inoC x)] w fun e w' => e = .returned (.bool (may x)) ∧ Below w.heap.size w w' := by
  obtain ⟨r, hr⟩ : ∃ r, r = may x := ⟨_, rfl⟩
  rw [← hr]
  have Hr := Lib.hid hr
  clear hr
  obtain ⟨w0, hw0⟩ : ∃ w0, w0 = w.alloc (.cells (inoC x) 40) := ⟨_, rfl⟩
  have HR : Hid (Row w0 w.heap.size 40 (x.l.map VI)) := by rw [hw0]; exact Row.new w 40 (x.l.map VI)
  have HC : Hid (Below w.heap.size w w0) := by rw [hw0]; exact (Below.refl _ _).alloc (Nat.le_refl _) _
  have HN := Lib.hid (RInNumbers_any x w0)
  have HD : Hid (∀ W, x.b ≤ 2304 → Calls Try.prog 41 #[.int .i64 x.b] W fun e w' => e = .returned (.int .i64 (data x.b)) ∧ Below W.heap.size W w') := fun W h => RInData_any x.b (by omega) (hf _ (by simp [Ino.l])) W
  obtain ⟨cs, hcs⟩ : ∃ cs, cs = inoC x := ⟨_, rfl⟩
  have Hcs : Hid (cs = (x.l.map VI).toArray) := hcs
  have Hsz : Hid (cs.size = 7) := by show _ = _; rw [hcs]; rfl
  rw [← hcs] at hw0 HN ⊢
  clear hcs
  go_enter Try.func22, Try.ntmps22
  go_wp2_with (refine wpList_load_row rfl 40 (.tmp 1) rfl w.heap.size rfl 40 cs (0, 0) _ (by rw [← hw0, Hcs.out]; exact HR.out) Try.underlying40 rfl (by rw [Hsz.out]; kernel_rfl) ?_)
  rw [← hw0]
  refine HN.out.mono ?_
  rintro e w1 ⟨g, rfl, HG, hg, hb⟩
  replace HR := Lib.hid (HR.out.below hb HR.out.lt)
  replace HC := Lib.hid (HC.out.trans (hb.mono HC.out.size))
  clear hw0 HN hb hg
  have ck := rowI HR.out 0 (by rw [l_len]; omega)
  have cb := rowI HR.out 1 (by rw [l_len]; omega)
  have e0 : x.l.getD 0 0 = x.k := rfl
  have e1 : x.l.getD 1 0 = x.b := rfl
  rw [e0] at ck
  rw [e1] at cb
  clear e0 e1
  by_cases hk : x.k = 0
  · have Hk := Lib.hid hk
    rw [hk] at ck
    clear hk
    go_wp2
    go_loop [4] (fun i => ∃ j : Nat, j ≤ 7 ∧ i = .int .i64 j ∧ Hid (∀ m, m < j → x.l.getD m 0 = 0)) (fun i => 7 - (intOf i).toNat)
    case atStart => exact ⟨0, by omega, rfl, fun m hm => by omega⟩
    case round =>
      obtain ⟨j, hj, rfl, Hz⟩ := hrel
      by_cases hlt : j < 7
      · have cj := rowI HG.out j (by rw [l_len]; exact hlt)
        by_cases h0 : x.l.getD j 0 = 0
        · rw [h0] at cj
          go_wp2
          go_round
          case rel => exact ⟨j + 1, by omega, by go_num, fun m hm => by
            by_cases e : m = j
            · rw [e]; exact h0
            · exact Hz.out m (by omega)⟩
          case measure => simp [intOf] <;> omega
        · have Hbad : Hid (r = false) := by
            show _ = _
            rw [Hr.out, ← Bool.not_eq_true, may_free Hk.out]
            rintro rfl
            exact h0 (by have : ∀ j : Fin 7, zero.l.getD j 0 = 0 := by decide
                         exact this ⟨j, hlt⟩)
          generalize x.l.getD j 0 = y at *
          go_wp2
          go_ret
          rw [Hbad.out]
          exact ⟨rfl, HC.out⟩
      · obtain rfl : j = 7 := by omega
        have Hgood : Hid (r = true) := by show _ = _; rw [Hr.out]; exact (may_free Hk.out).2 (zero_of Hz.out)
        go_wp2
        go_ret
        rw [Hgood.out]
        exact ⟨rfl, HC.out⟩
  · by_cases hk12 : x.k = 1 ∨ x.k = 2
    · by_cases hbb : 0 ≤ x.b ∧ x.b ≤ 2304
      · obtain ⟨hb0, hb1⟩ := hbb
        have Hk := Lib.hid hk
        have Hgood : Hid ((∀ i, 2 ≤ i → i < 7 → okAt x.l (data x.b) i = true) → r = true) := fun h => by rw [Hr.out]; exact (may_used hk).2 ⟨hk12, hb0, hb1, h⟩
        have Hbad : Hid (∀ i, 2 ≤ i → i < 7 → okAt x.l (data x.b) i = false → r = false) := fun i h2 h7 h => by rw [Hr.out]; exact may_no hk i h2 h7 h
        have hd := data_le hb1
        have HDD := Lib.hid (HD.out w1 hb1)
        have Hlen := Lib.hid (l_len x)
        generalize data x.b = D at *
        generalize x.l = l at *
        generalize x.b = xb at *
        generalize x.k = xk at *
        clear HD Hk
        rcases hk12 with rfl | rfl
        all_goals
          clear hk
          go_wp2_with fail
          refine HDD.out.mono ?_
          rintro e w2 ⟨rfl, hb⟩
          replace HG := Lib.hid (HG.out.below hb HG.out.lt)
          replace HC := Lib.hid (HC.out.trans (hb.mono HC.out.size))
          clear hb HDD HR ck cb hb0 hb1
          go_wp2
          go_loopw [6, 7] (fun i _ wr => ∃ j : Nat, 2 ≤ j ∧ j ≤ 7 ∧ i = .int .i64 j ∧ Hid (∀ m, 2 ≤ m → m < j → okAt l D m = true) ∧ Hid (Row wr g 3 (l.map VI)) ∧ Hid (Below w.heap.size w wr)) (fun i _ _ => 7 - (intOf i).toNat)
          case atStart => exact ⟨2, by omega, by omega, rfl, fun m h2 hm => by omega, HG, HC⟩
          case round =>
            clear HG HC
            obtain ⟨j, hj2, hj, rfl, Hok, HG, HC⟩ := hrel
            by_cases hlt : j < 7
            · have cj := rowI HG.out j (by rw [Hlen.out]; exact hlt)
              have Hiff := Lib.hid (@okAt_iff l D j)
              have Hbj := Lib.hid (Hbad.out j hj2 hlt)
              by_cases h0 : 0 ≤ l.getD j 0 ∧ l.getD j 0 ≤ 127
              · by_cases hnd : decide (0 < l.getD j 0) = needed D j
                · obtain ⟨h00, h01⟩ := h0
                  have Hin : Hid ((∀ m, 2 ≤ m → m < j → ¬ (l.getD m 0 = l.getD j 0 ∧ 0 < l.getD j 0)) → okAt l D j = true) := fun h => Hiff.out.2 ⟨h00, h01, hnd, h⟩
                  have Hout : Hid (∀ m, 2 ≤ m → m < j → l.getD m 0 = l.getD j 0 → 0 < l.getD j 0 → r = false) := fun m h2 hm h1 h3 => Hbj.out (okAt_no fun h => h.2.2.2 m h2 hm ⟨h1, h3⟩)
                  obtain ⟨y, hy0⟩ : ∃ y, y = l.getD j 0 := ⟨_, rfl⟩
                  have HY := Lib.hid hy0
                  rw [← hy0] at h00 h01 hnd Hin Hout cj
                  clear Hiff Hbj Hbad hy0
                  have hcase : (j < 6 ∧ 0 < y ∧ decide ((j : Int) - 2 < (D : Int)) = true ∧ decide (0 < y) = true) ∨ (j < 6 ∧ ¬ 0 < y ∧ decide ((j : Int) - 2 < (D : Int)) = false ∧ decide (0 < y) = false) ∨
                      (j = 6 ∧ 0 < y ∧ decide (4 < (D : Int)) = true ∧ decide (0 < y) = true) ∨ (j = 6 ∧ ¬ 0 < y ∧ decide (4 < (D : Int)) = false ∧ decide (0 < y) = false) := by
                    unfold needed at hnd
                    by_cases h6 : j < 6
                    · rw [if_pos h6] at hnd
                      by_cases hy : 0 < y
                      · rw [decide_eq_true hy] at hnd
                        have := of_decide_eq_true hnd.symm
                        exact .inl ⟨h6, hy, decide_eq_true (by omega), decide_eq_true hy⟩
                      · rw [decide_eq_false hy] at hnd
                        have := of_decide_eq_false hnd.symm
                        exact .inr (.inl ⟨h6, hy, decide_eq_false (by omega), decide_eq_false hy⟩)
                    · rw [if_neg h6] at hnd
                      by_cases hy : 0 < y
                      · rw [decide_eq_true hy] at hnd
                        have := of_decide_eq_true hnd.symm
                        exact .inr (.inr (.inl ⟨by omega, hy, decide_eq_true (by omega), decide_eq_true hy⟩))
                      · rw [decide_eq_false hy] at hnd
                        have := of_decide_eq_false hnd.symm
                        exact .inr (.inr (.inr ⟨by omega, hy, decide_eq_false (by omega), decide_eq_false hy⟩))
                  clear hnd
                  rcases hcase with hcase | hcase
                  · obtain ⟨h6, hy, q1, q2⟩ : j < 6 ∧ 0 < y ∧ decide ((j : Int) - 2 < (D : Int)) = true ∧ decide (0 < y) = true := hcase
                    go_wp2
                    clear cj q1
                    go_loopw [7] (fun i wr => ∃ m : Nat, 2 ≤ m ∧ m ≤ j ∧ i = .int .i64 m ∧ Hid (∀ t, 2 ≤ t → t < m → ¬ (l.getD t 0 = y ∧ 0 < y)) ∧ Hid (Row wr g 3 (l.map VI)) ∧ Hid (Below w.heap.size w wr)) (fun i _ => j - (intOf i).toNat)
                    case atStart => exact ⟨2, by omega, by omega, rfl, fun t h2 ht => by omega, HG, HC⟩
                    case round =>
                      rename World => w3
                      clear HG HC
                      obtain ⟨m, hm2, hm, rfl, Hap, HG, HC⟩ := hrel
                      by_cases hltm : m < j
                      · have cm := rowI HG.out m (by rw [Hlen.out]; omega)
                        have cj := rowI HG.out j (by rw [Hlen.out]; exact hlt)
                        rw [← HY.out] at cj
                        have Houtm := Lib.hid (Hout.out m hm2 hltm)
                        have Hnext : Hid (¬ (l.getD m 0 = y ∧ 0 < y) → ∀ t, 2 ≤ t → t < m + 1 → ¬ (l.getD t 0 = y ∧ 0 < y)) := fun h t h2 ht => by
                          by_cases e : t = m
                          · rw [e]; exact h
                          · exact Hap.out t h2 (by omega)
                        obtain ⟨z, hz⟩ : ∃ z, z = l.getD m 0 := ⟨_, rfl⟩
                        rw [← hz] at cm Houtm Hnext
                        clear hz
                        by_cases hzy : z = y
                        · subst hzy
                          have Hno : Hid (r = false) := Houtm.out rfl hy
                          go_wp2
                          go_quiet (fail)
                          go_wp2
                          go_ret
                          rw [Hno.out]
                          exact ⟨rfl, below_drewN HC.out _⟩
                        · have hne : (z == y) = false := beq_eq_false_iff_ne.2 hzy
                          have Hn := Lib.hid (Hnext.out fun h => hzy h.1)
                          go_wp2
                          go_quiet (fail)
                          go_wp2
                          go_roundw
                          case rel => exact ⟨m + 1, by omega, by omega, by go_num, Hn, HG.out.drewN _, below_drewN HC.out _⟩
                          case measure => simp [intOf] <;> omega
                      · obtain rfl : m = j := by omega
                        have Hj := Lib.hid (Hin.out Hap.out)
                        go_wp2
                        go_roundw
                        case rel => exact ⟨m + 1, by omega, by omega, by go_num, fun t h2 ht => by
                          by_cases e : t = m
                          · rw [e]; exact Hj.out
                          · exact Hok.out t h2 (by omega), HG, HC⟩
                        case measure => simp [intOf] <;> omega
                  rcases hcase with hcase | hcase
                  · obtain ⟨h6, hy, q1, q2⟩ : j < 6 ∧ ¬ 0 < y ∧ decide ((j : Int) - 2 < (D : Int)) = false ∧ decide (0 < y) = false := hcase
                    go_wp2
                    clear cj q1
                    go_loopw [7] (fun i wr => ∃ m : Nat, 2 ≤ m ∧ m ≤ j ∧ i = .int .i64 m ∧ Hid (∀ t, 2 ≤ t → t < m → ¬ (l.getD t 0 = y ∧ 0 < y)) ∧ Hid (Row wr g 3 (l.map VI)) ∧ Hid (Below w.heap.size w wr)) (fun i _ => j - (intOf i).toNat)
                    case atStart => exact ⟨2, by omega, by omega, rfl, fun t h2 ht => by omega, HG, HC⟩
                    case round =>
                      rename World => w3
                      clear HG HC
                      obtain ⟨m, hm2, hm, rfl, Hap, HG, HC⟩ := hrel
                      by_cases hltm : m < j
                      · have cm := rowI HG.out m (by rw [Hlen.out]; omega)
                        have cj := rowI HG.out j (by rw [Hlen.out]; exact hlt)
                        rw [← HY.out] at cj
                        have Houtm := Lib.hid (Hout.out m hm2 hltm)
                        have Hnext : Hid (¬ (l.getD m 0 = y ∧ 0 < y) → ∀ t, 2 ≤ t → t < m + 1 → ¬ (l.getD t 0 = y ∧ 0 < y)) := fun h t h2 ht => by
                          by_cases e : t = m
                          · rw [e]; exact h
                          · exact Hap.out t h2 (by omega)
                        obtain ⟨z, hz⟩ : ∃ z, z = l.getD m 0 := ⟨_, rfl⟩
                        rw [← hz] at cm Houtm Hnext
                        clear hz
                        by_cases hzy : z = y
                        · subst hzy
                          have Hn := Lib.hid (Hnext.out fun h => by have := h.2; omega)
                          go_wp2
                          go_quiet (fail)
                          go_wp2
                          go_roundw
                          case rel => exact ⟨m + 1, by omega, by omega, by go_num, Hn, HG.out.drewN _, below_drewN HC.out _⟩
                          case measure => simp [intOf] <;> omega
                        · have hne : (z == y) = false := beq_eq_false_iff_ne.2 hzy
                          have Hn := Lib.hid (Hnext.out fun h => hzy h.1)
                          go_wp2
                          go_quiet (fail)
                          go_wp2
                          go_roundw
                          case rel => exact ⟨m + 1, by omega, by omega, by go_num, Hn, HG.out.drewN _, below_drewN HC.out _⟩
                          case measure => simp [intOf] <;> omega
                      · obtain rfl : m = j := by omega
                        have Hj := Lib.hid (Hin.out Hap.out)
                        go_wp2
                        go_roundw
                        case rel => exact ⟨m + 1, by omega, by omega, by go_num, fun t h2 ht => by
                          by_cases e : t = m
                          · rw [e]; exact Hj.out
                          · exact Hok.out t h2 (by omega), HG, HC⟩
                        case measure => simp [intOf] <;> omega
                  rcases hcase with hcase | hcase
                  · obtain ⟨rfl, hy, q1, q2⟩ := hcase
                    go_wp2
                    clear cj q1
                    go_loopw [7] (fun i wr => ∃ m : Nat, 2 ≤ m ∧ m ≤ 6 ∧ i = .int .i64 m ∧ Hid (∀ t, 2 ≤ t → t < m → ¬ (l.getD t 0 = y ∧ 0 < y)) ∧ Hid (Row wr g 3 (l.map VI)) ∧ Hid (Below w.heap.size w wr)) (fun i _ => 6 - (intOf i).toNat)
                    case atStart => exact ⟨2, by omega, by omega, rfl, fun t h2 ht => by omega, HG, HC⟩
                    case round =>
                      rename World => w3
                      clear HG HC
                      obtain ⟨m, hm2, hm, rfl, Hap, HG, HC⟩ := hrel
                      by_cases hltm : m < 6
                      · have cm := rowI HG.out m (by rw [Hlen.out]; omega)
                        have cj := rowI HG.out 6 (by rw [Hlen.out]; exact hlt)
                        rw [← HY.out] at cj
                        have Houtm := Lib.hid (Hout.out m hm2 hltm)
                        have Hnext : Hid (¬ (l.getD m 0 = y ∧ 0 < y) → ∀ t, 2 ≤ t → t < m + 1 → ¬ (l.getD t 0 = y ∧ 0 < y)) := fun h t h2 ht => by
                          by_cases e : t = m
                          · rw [e]; exact h
                          · exact Hap.out t h2 (by omega)
                        obtain ⟨z, hz⟩ : ∃ z, z = l.getD m 0 := ⟨_, rfl⟩
                        rw [← hz] at cm Houtm Hnext
                        clear hz
                        by_cases hzy : z = y
                        · subst hzy
                          have Hno : Hid (r = false) := Houtm.out rfl hy
                          go_wp2
                          go_quiet (fail)
                          go_wp2
                          go_ret
                          rw [Hno.out]
                          exact ⟨rfl, below_drewN HC.out _⟩
                        · have hne : (z == y) = false := beq_eq_false_iff_ne.2 hzy
                          have Hn := Lib.hid (Hnext.out fun h => hzy h.1)
                          go_wp2
                          go_quiet (fail)
                          go_wp2
                          go_roundw
                          case rel => exact ⟨m + 1, by omega, by omega, by go_num, Hn, HG.out.drewN _, below_drewN HC.out _⟩
                          case measure => simp [intOf] <;> omega
                      · obtain rfl : m = 6 := by omega
                        have Hj := Lib.hid (Hin.out Hap.out)
                        go_wp2
                        go_roundw
                        case rel => exact ⟨6 + 1, by omega, by omega, by go_num, fun t h2 ht => by
                          by_cases e : t = 6
                          · rw [e]; exact Hj.out
                          · exact Hok.out t h2 (by omega), HG, HC⟩
                        case measure => simp [intOf] <;> omega
                  · obtain ⟨rfl, hy, q1, q2⟩ := hcase
                    go_wp2
                    clear cj q1
                    go_loopw [7] (fun i wr => ∃ m : Nat, 2 ≤ m ∧ m ≤ 6 ∧ i = .int .i64 m ∧ Hid (∀ t, 2 ≤ t → t < m → ¬ (l.getD t 0 = y ∧ 0 < y)) ∧ Hid (Row wr g 3 (l.map VI)) ∧ Hid (Below w.heap.size w wr)) (fun i _ => 6 - (intOf i).toNat)
                    case atStart => exact ⟨2, by omega, by omega, rfl, fun t h2 ht => by omega, HG, HC⟩
                    case round =>
                      rename World => w3
                      clear HG HC
                      obtain ⟨m, hm2, hm, rfl, Hap, HG, HC⟩ := hrel
                      by_cases hltm : m < 6
                      · have cm := rowI HG.out m (by rw [Hlen.out]; omega)
                        have cj := rowI HG.out 6 (by rw [Hlen.out]; exact hlt)
                        rw [← HY.out] at cj
                        have Houtm := Lib.hid (Hout.out m hm2 hltm)
                        have Hnext : Hid (¬ (l.getD m 0 = y ∧ 0 < y) → ∀ t, 2 ≤ t → t < m + 1 → ¬ (l.getD t 0 = y ∧ 0 < y)) := fun h t h2 ht => by
                          by_cases e : t = m
                          · rw [e]; exact h
                          · exact Hap.out t h2 (by omega)
                        obtain ⟨z, hz⟩ : ∃ z, z = l.getD m 0 := ⟨_, rfl⟩
                        rw [← hz] at cm Houtm Hnext
                        clear hz
                        by_cases hzy : z = y
                        · subst hzy
                          have Hn := Lib.hid (Hnext.out fun h => by have := h.2; omega)
                          go_wp2
                          go_quiet (fail)
                          go_wp2
                          go_roundw
                          case rel => exact ⟨m + 1, by omega, by omega, by go_num, Hn, HG.out.drewN _, below_drewN HC.out _⟩
                          case measure => simp [intOf] <;> omega
                        · have hne : (z == y) = false := beq_eq_false_iff_ne.2 hzy
                          have Hn := Lib.hid (Hnext.out fun h => hzy h.1)
                          go_wp2
                          go_quiet (fail)
                          go_wp2
                          go_roundw
                          case rel => exact ⟨m + 1, by omega, by omega, by go_num, Hn, HG.out.drewN _, below_drewN HC.out _⟩
                          case measure => simp [intOf] <;> omega
                      · obtain rfl : m = 6 := by omega
                        have Hj := Lib.hid (Hin.out Hap.out)
                        go_wp2
                        go_roundw
                        case rel => exact ⟨6 + 1, by omega, by omega, by go_num, fun t h2 ht => by
                          by_cases e : t = 6
                          · rw [e]; exact Hj.out
                          · exact Hok.out t h2 (by omega), HG, HC⟩
                        case measure => simp [intOf] <;> omega
                · have Hno : Hid (r = false) := Hbj.out (okAt_no fun h => hnd h.2.2.1)
                  obtain ⟨h00, h01⟩ := h0
                  unfold needed at hnd
                  generalize l.getD j 0 = y at *
                  clear Hiff Hbj Hbad Hok
                  by_cases h6 : j < 6
                  · rw [if_pos h6] at hnd
                    by_cases hy : 0 < y
                    · have hjd : ¬ (j < D + 2) := fun h => hnd (by rw [decide_eq_true hy, decide_eq_true h])
                      have q1 : decide ((j : Int) - 2 < (D : Int)) = false := decide_eq_false (by omega)
                      have q2 : decide (0 < y) = true := decide_eq_true hy
                      clear hnd
                      go_wp2
                      go_ret
                      rw [Hno.out]
                      exact ⟨rfl, HC.out⟩
                    · have hjd : j < D + 2 := Classical.byContradiction fun h => hnd (by rw [decide_eq_false hy, decide_eq_false h])
                      have q1 : decide ((j : Int) - 2 < (D : Int)) = true := decide_eq_true (by omega)
                      have q2 : decide (0 < y) = false := decide_eq_false hy
                      clear hnd
                      go_wp2
                      go_ret
                      rw [Hno.out]
                      exact ⟨rfl, HC.out⟩
                  · obtain rfl : j = 6 := by omega
                    rw [if_neg h6] at hnd
                    by_cases hy : 0 < y
                    · have hjd : ¬ (4 < D) := fun h => hnd (by rw [decide_eq_true hy, decide_eq_true h])
                      have q1 : decide (4 < (D : Int)) = false := decide_eq_false (by omega)
                      have q2 : decide (0 < y) = true := decide_eq_true hy
                      clear hnd
                      go_wp2
                      go_ret
                      rw [Hno.out]
                      exact ⟨rfl, HC.out⟩
                    · have hjd : 4 < D := Classical.byContradiction fun h => hnd (by rw [decide_eq_false hy, decide_eq_false h])
                      have q1 : decide (4 < (D : Int)) = true := decide_eq_true (by omega)
                      have q2 : decide (0 < y) = false := decide_eq_false hy
                      clear hnd
                      go_wp2
                      go_ret
                      rw [Hno.out]
                      exact ⟨rfl, HC.out⟩
              · have Hno : Hid (r = false) := Hbj.out (okAt_no fun h => h0 ⟨h.1, h.2.1⟩)
                generalize l.getD j 0 = y at *
                clear Hiff Hbj
                rcases Int.lt_or_le y 0 with hy | hy
                · go_wp2
                  go_ret
                  rw [Hno.out]
                  exact ⟨rfl, HC.out⟩
                · have hy2 : 127 < y := by omega
                  go_wp2
                  go_ret
                  rw [Hno.out]
                  exact ⟨rfl, HC.out⟩
            · obtain rfl : j = 7 := by omega
              have Hr : Hid (r = true) := Hgood.out fun i h2 h7 => Hok.out i h2 h7
              go_wp2
              go_ret
              rw [Hr.out]
              exact ⟨rfl, HC.out⟩
      · have Hno : Hid (r = false) := by
          show _ = _
          rw [Hr.out, ← Bool.not_eq_true, may_used hk]
          exact fun h => hbb ⟨h.2.1, h.2.2.1⟩
        generalize x.b = xb at *
        generalize x.k = xk at *
        rcases Int.lt_or_le xb 0 with hy | hy
        · rcases hk12 with rfl | rfl
          all_goals
            go_wp2
            go_ret
            rw [Hno.out]
            exact ⟨rfl, HC.out⟩
        · have hy2 : 2304 < xb := by omega
          rcases hk12 with rfl | rfl
          all_goals
            go_wp2
            go_ret
            rw [Hno.out]
            exact ⟨rfl, HC.out⟩
    · have Hno : Hid (r = false) := by
        show _ = _
        rw [Hr.out, ← Bool.not_eq_true, may_used hk]
        exact fun h => hk12 h.1
      have hk1 : x.k ≠ 1 := fun h => hk12 (.inl h)
      have hk2 : x.k ≠ 2 := fun h => hk12 (.inr h)
      generalize x.k = xk at *
      clear hk12
      go_wp2
      go_ret
      rw [Hno.out]
      exact ⟨rfl, HC.out⟩
end Go.Proofs.Ytiafmghdiidniaa
