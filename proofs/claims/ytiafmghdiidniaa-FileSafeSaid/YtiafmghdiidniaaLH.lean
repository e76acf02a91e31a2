/-
  THE WALK of the law's apart, over what Read is to do.
-/
import Derived.Test.YtiafmghdiidniaaLG
namespace Go.Proofs.Ytiafmghdiidniaa
open Go.RowKit Cdc Inn Fil

theorem fits_of {x : Ino} (h : Inn.may x = true) : x.fits := by
  have := may_bounds h
  intro z hz
  simp only [Ino.l, List.mem_cons, List.not_mem_nil, or_false] at hz
  rcases hz with rfl | rfl | rfl | rfl | rfl | rfl | rfl <;> exact ⟨by omega, by omega⟩
theorem madeIn (n : Nat) (hn : n ≤ 1000000) (W : World) : (Instr.makeSlice 77 (.int .i64 (n : Int)) (.int .i64 (n : Int))).run Try.prog W = .ok (.slice (some ⟨W.heap.size, 0, none⟩) n n) (W.alloc (.cells ((List.replicate n 0).map VI).toArray 3)) := by
  have h := run_make_row' (P := Try.prog) 77 3 (.int .i64 0) 8 Try.underlying77 (by kernel_rfl) rfl .i64 .i64 n (by omega) (by omega) W
  rw [show madeCells #[Value.int .i64 0] n = ((List.replicate n 0).map VI).toArray from by
    unfold madeCells
    apply Array.ext
    · simp
    · intro i h1 h2
      simp [VI, Nat.mod_one]] at h
  exact h
theorem madeI (W : World) : (Instr.makeSlice 77 (.int .i64 200) (.int .i64 200)).run Try.prog W = .ok (.slice (some ⟨W.heap.size, 0, none⟩) 200 200) (W.alloc (.cells ((metL []).map VI).toArray 3)) := by
  rw [metL_nil]
  exact madeIn 200 (by omega) W

set_option maxRecDepth 100000 in
set_option maxHeartbeats 4000000 in
theorem FiApart_any (g : Geo) (hg : gmay g = true) (l : List Ino) (hl : l.length ≤ 4) (hk : ∀ x ∈ l, x.k ≠ 0) (bl : List (List UInt8)) (h : Apart g l bl) (mp lk cap : Nat) (w : World) (hlk : lk < w.heap.size) (hs : Sees w lk 0 (inosC l))
    (hRead : ∀ i : Nat, (i : Int) < g.n → ∀ W, Below w.heap.size w W → Calls Try.prog 39 #[.pointer (some ⟨mp, 0, none⟩), .int .i64 i] W fun e w' => ∃ r, e = .returned (.tuple #[r, .int .i64 0]) ∧ Hid (ArgHi w' W.heap.size r (blk bl i)) ∧ Below W.heap.size W w') :
    Calls Try.prog 21 #[.pointer (some ⟨mp, 0, none⟩), .agg #[.int .i64 g.n, .int .i64 g.k], .slice (some ⟨lk, 0, none⟩) l.length cap] w fun e w' => e = .returned (.bool true) ∧ Below w.heap.size w w' := by
  obtain ⟨g1, g2, g3, g4, g5⟩ := gmay_iff.1 hg
  have HRead := Lib.hid hRead
  have hb0 : (blk bl 0).length = 64 := h.blen (i := 0) (by omega)
  have HR0 : Hid (∀ W, Below w.heap.size w W → Calls Try.prog 39 #[.pointer (some ⟨mp, 0, none⟩), .int .i64 0] W fun e w' => ∃ r, e = .returned (.tuple #[r, .int .i64 0]) ∧ Hid (ArgHi w' W.heap.size r (blk bl 0)) ∧ Below W.heap.size W w') := fun W hW => hRead 0 (by omega) W hW
  have HBits : Hid (∀ W v, Arg W v (blk bl 0) → Calls Try.prog 40 #[v] W fun e w' => ∃ r, e = .returned r ∧ Hid (Own w' W.heap.size 4 r ((Bm.bitsOf (blk bl 0)).map Value.bool)) ∧ Below W.heap.size W w') := fun W v hv => RBits_any _ (by omega) v W hv
  have hF1 := gfirst_le g4
  have HF : Hid (∀ W, Calls Try.prog 11 #[.agg #[.int .i64 g.n, .int .i64 g.k]] W fun e w' => e = .returned (.int .i64 (gfirst g)) ∧ Below W.heap.size W w') := fun W => RFiFirst_any g (by omega) g4 W
  have HH := Lib.hid h
  have hbl : (Bm.bitsOf (blk bl 0)).length = 512 := by rw [Bm.bits_length, hb0]
  have HS := Lib.hid hs
  obtain ⟨m, hm⟩ : ∃ m, m = l.length := ⟨_, rfl⟩
  have Hm := Lib.hid hm
  rw [← hm] at hl ⊢
  have HT0 : Hid (taken g [] bl = List.range (gfirst g)) := by show _ = _; simp [taken]
  obtain ⟨n, hn⟩ : ∃ n, n = g.n := ⟨_, rfl⟩
  obtain ⟨k, hkk⟩ : ∃ k, k = g.k := ⟨_, rfl⟩
  have Hn := Lib.hid hn
  rw [← hn] at HF g1 g2 g5 ⊢
  rw [← hkk] at HF g3 g4 ⊢
  obtain ⟨F, hFF⟩ : ∃ F, F = gfirst g := ⟨_, rfl⟩
  rw [← hFF] at HF hF1 g5 HT0
  obtain ⟨bits, hbits⟩ : ∃ bits, bits = Bm.bitsOf (blk bl 0) := ⟨_, rfl⟩
  rw [← hbits] at HBits hbl
  have Hbits := Lib.hid hbits
  obtain ⟨w0, hw0⟩ : ∃ w0, w0 = w.alloc (.cells #[.int .i64 n, .int .i64 k] 23) := ⟨_, rfl⟩
  have HG : Hid (Row w0 w.heap.size 23 [.int .i64 n, .int .i64 k]) := by rw [hw0]; exact Row.new w _ _
  have HC : Hid (Below w.heap.size w w0) := by rw [hw0]; exact (Below.refl _ _).alloc (Nat.le_refl _) _
  clear h hs hRead hm hn hkk hFF hbits hb0
  go_enter Try.func21, Try.ntmps21
  go_wp2_with fail
  rw [← hw0]
  clear hw0
  refine (HR0.out w0 HC.out).mono ?_
  rintro e w1 ⟨r0, rfl, Hr0, hb⟩
  replace HG := Lib.hid (HG.out.below hb HG.out.lt)
  replace HC := Lib.hid (HC.out.trans (hb.mono HC.out.size))
  clear hb HR0
  go_wp2_with fail
  refine (HBits.out w1 _ Hr0.out.arg).mono ?_
  rintro e w2 ⟨vb, rfl, HB, hb⟩
  replace HG := Lib.hid (HG.out.below hb HG.out.lt)
  replace HC := Lib.hid (HC.out.trans (hb.mono HC.out.size))
  clear hb HBits Hr0
  obtain ⟨bb, cb, hvb, _, hbb, hsee⟩ := HB.out.form (by rw [List.length_map, hbl]; omega)
  rw [List.length_map, hbl] at hvb
  subst hvb
  have hmk := madeI w2
  obtain ⟨gb, hgb⟩ : ∃ gb, gb = w.heap.size := ⟨_, rfl⟩
  obtain ⟨mb, hmb⟩ : ∃ mb, mb = w2.heap.size := ⟨_, rfl⟩
  have HA : Hid (Apt w (w2.alloc (.cells ((metL []).map VI).toArray 3)) gb mb bb n k bits []) := by
    have hsz := HC.out.size
    have hglt := HG.out.lt
    refine ⟨by rw [hgb]; exact HG.out.alloc _, by rw [hmb]; exact Row.new _ _ _, hsee.alloc hbb _, HC.out.alloc HC.out.size _, by omega, by omega, by omega, by simp; omega⟩
  rw [← hgb]
  rw [← hmb] at hmk
  clear HG HC HB hsee hbb hgb hmb
  generalize ((metL []).map VI).toArray = mcs at *
  go_wp2
  generalize w2.alloc (.cells mcs 3) = w3 at *
  clear hmk
  go_loopw [11] (fun i wr => ∃ j : Nat, j ≤ F ∧ i = .int .i64 j ∧ Hid (Apt w wr gb mb bb n k bits (List.range j))) (fun i _ => F - (intOf i).toNat)
  case atStart => exact ⟨0, by omega, rfl, HA⟩
  case round =>
    clear HA
    obtain ⟨j, hj, rfl, HA⟩ := hrel
    have c0 : wr.cell? ⟨gb, 0, none⟩ = some (.int .i64 n) := HA.out.geo.cell 0
    have c1 : wr.cell? ⟨gb, 1, none⟩ = some (.int .i64 k) := HA.out.geo.cell 1
    go_wp2_with fail
    refine (HF.out wr).mono ?_
    rintro e w4 ⟨rfl, hb⟩
    replace HA := Lib.hid (HA.out.below hb)
    clear hb c0 c1
    by_cases hlt : j < F
    · have cj := HA.out.cell j (by omega)
      have fj := HA.out.met.free j
      have HA5 := Lib.hid (HA.out.store j 1 (metL_first j (by omega)))
      clear HA
      go_wp2
      go_roundw
      case rel => exact ⟨j + 1, by omega, by go_num, HA5⟩
      case measure => simp [intOf] <;> omega
    · obtain rfl : j = F := by omega
      rw [← HT0.out] at HA
      go_wp2
      go_loopw [12, 13, 14, 15, 16, 17] (fun i _ _ _ _ _ wr => ∃ q : Nat, q ≤ m ∧ i = .int .i64 q ∧ Hid (Apt w wr gb mb bb n k bits (taken g (l.take q) bl))) (fun i _ _ _ _ _ _ => m - (intOf i).toNat)
      case atStart => exact ⟨0, by omega, rfl, HA⟩
      case round =>
        clear HA
        obtain ⟨q, hq, rfl, HA⟩ := hrel
        by_cases hltq : q < m
        · obtain ⟨x, hx⟩ : ∃ x, l[q]? = some x := ⟨_, List.getElem?_eq_getElem (by rw [← Hm.out]; exact hltq)⟩
          have HX := Lib.hid hx
          have hmem : x ∈ l := List.mem_of_getElem? hx
          have hmay := HH.out.may x hmem
          have hxk := hk x hmem
          have hsl : ∀ j, j < 7 → ∀ W, Below w.heap.size w W → W.cell? ⟨lk, q * 7 + j, none⟩ = some (.int .i64 (x.l.getD j 0)) := fun j hj W hW => by
            have := (HS.out.below hW hlk) _ _ (inosC_at l q j x hx hj)
            rwa [Nat.zero_add, Nat.mul_comm 7 q] at this
          have HSl := Lib.hid hsl
          clear hx hsl
          have c1 := HSl.out 1 (by omega) wr HA.out.bel
          have e1 : x.l.getD 1 0 = x.b := rfl
          rw [e1] at c1
          have hbd := may_bounds hmay
          have hfit := fits_of hmay
          have HD : Hid (∀ W, Calls Try.prog 41 #[.int .i64 x.b] W fun e w' => e = .returned (.int .i64 (data x.b)) ∧ Below W.heap.size W w') := fun W => RInData_any x.b (by omega) (hfit _ (by simp [Ino.l])) W
          have HM : Hid (∀ W, Calls Try.prog 22 #[.agg (inoC x)] W fun e w' => e = .returned (.bool true) ∧ Below W.heap.size W w') := fun W => by
            have := RInMay_any x hfit W
            rwa [hmay] at this
          have hD36 := data_le hbd.2.2.2.1
          obtain ⟨D, hDD⟩ : ∃ D, D = data x.b := ⟨_, rfl⟩
          have HDD := Lib.hid hDD
          rw [← hDD] at HD hD36
          clear hDD e1
          go_wp2_with fail
          refine (HD.out wr).mono ?_
          rintro e w5 ⟨rfl, hb⟩
          replace HA := Lib.hid (HA.out.below hb)
          clear hb HD c1
          have c0 := HSl.out 0 (by omega) w5 HA.out.bel
          have c1 := HSl.out 1 (by omega) w5 HA.out.bel
          have c2 := HSl.out 2 (by omega) w5 HA.out.bel
          have c3 := HSl.out 3 (by omega) w5 HA.out.bel
          have c4 := HSl.out 4 (by omega) w5 HA.out.bel
          have c5 := HSl.out 5 (by omega) w5 HA.out.bel
          have c6 := HSl.out 6 (by omega) w5 HA.out.bel
          have HIno : Hid (inoC x = #[.int .i64 (x.l.getD 0 0), .int .i64 (x.l.getD 1 0), .int .i64 (x.l.getD 2 0), .int .i64 (x.l.getD 3 0), .int .i64 (x.l.getD 4 0), .int .i64 (x.l.getD 5 0), .int .i64 (x.l.getD 6 0)]) := rfl
          have HM2 : Hid (∀ W, Calls Try.prog 22 #[.agg #[.int .i64 (x.l.getD 0 0), .int .i64 (x.l.getD 1 0), .int .i64 (x.l.getD 2 0), .int .i64 (x.l.getD 3 0), .int .i64 (x.l.getD 4 0), .int .i64 (x.l.getD 5 0), .int .i64 (x.l.getD 6 0)]] W fun e w' => e = .returned (.bool true) ∧ Below W.heap.size W w') := fun W => HM.out W
          rw [Nat.add_zero] at c0
          clear HM HIno
          generalize x.l.getD 0 0 = v0 at *
          generalize x.l.getD 1 0 = v1 at *
          generalize x.l.getD 2 0 = v2 at *
          generalize x.l.getD 3 0 = v3 at *
          generalize x.l.getD 4 0 = v4 at *
          generalize x.l.getD 5 0 = v5 at *
          generalize x.l.getD 6 0 = v6 at *
          go_wp2_with fail
          refine (HM2.out w5).mono ?_
          rintro e w6 ⟨rfl, hb⟩
          replace HA := Lib.hid (HA.out.below hb)
          clear hb HM2 c0 c1 c2 c3 c4 c5 c6
          have HD0 : Hid (Apt w w6 gb mb bb n k bits (taken g (l.take q) bl ++ (direct x).take 0)) := by
            have := HA.out
            rwa [List.take_zero, List.append_nil]
          clear HA
          go_wp2
          go_loopw [14] (fun i wr => ∃ kk : Nat, kk ≤ 4 ∧ i = .int .i64 kk ∧ Hid (Apt w wr gb mb bb n k bits (taken g (l.take q) bl ++ (direct x).take kk))) (fun i _ => 4 - (intOf i).toNat)
          case atStart => exact ⟨0, by omega, rfl, HD0⟩
          case round =>
            rename World => w6
            clear HD0
            obtain ⟨kk, hkk, rfl, HA⟩ := hrel
            by_cases hltk : kk < 4
            · have ck := HSl.out (2 + kk) (by omega) w6 HA.out.bel
              rw [← Nat.add_assoc] at ck
              have HSk : Hid (∀ W, Below w.heap.size w W → W.cell? ⟨lk, q * 7 + 2 + kk, none⟩ = some (.int .i64 (x.l.getD (2 + kk) 0))) := fun W hW => by
                have := HSl.out (2 + kk) (by omega) W hW
                rwa [← Nat.add_assoc] at this
              have hpos := direct_at hmay hxk kk hltk
              rw [← HDD.out] at hpos
              obtain ⟨y, hy⟩ : ∃ y, y = x.l.getD (2 + kk) 0 := ⟨_, rfl⟩
              rw [← hy] at ck HSk hpos
              clear hy
              obtain ⟨hy0, hy1, hpos⟩ := hpos
              obtain ⟨a, rfl⟩ : ∃ a : Nat, y = a := ⟨y.toNat, by omega⟩
              rcases hpos with ⟨hkD, ha0, htk⟩ | ⟨hkD, ha0, htk⟩
              · have hmw := HA.out.mw
                obtain ⟨T, hT⟩ : ∃ T, T = taken g (l.take q) bl ++ (direct x).take kk := ⟨_, rfl⟩
                have hcn : ∀ a, T.count a ≤ 1 := fun a => by rw [hT]; exact count_pre HH.out HX.out _ ((direct x).drop kk ++ (if 4 < data x.b then [x.d.toNat] else []) ++ further x bl) (by unfold allOf; rw [← List.append_assoc, ← List.append_assoc, List.take_append_drop]) a
                have HTn : Hid (T ++ [a] = taken g (l.take q) bl ++ (direct x).take (kk + 1)) := by show _ = _; rw [hT, htk, Int.toNat_natCast, List.append_assoc]
                rw [← hT] at HA
                have HW1 : Hid (∀ a, IntKind.i64.wrap ((T.count a : Int) + 1) = (T.count a : Int) + 1) := fun a => wrapI _ ⟨by omega, by have := hcn a; omega⟩
                have HSt : Hid (∀ W, Below w6.heap.size w6 W → ∀ u, (W.setCell ⟨mb, a, none⟩ u).cell? ⟨lk, q * 7 + 2 + kk, none⟩ = some (.int .i64 (a : Int))) := fun W hW u => by
                  rw [World.cell?_setCell_other _ _ _ _ (fun e => by injection e with e1; omega)]
                  exact HSk.out W (HA.out.bel.trans (hW.mono HA.out.bel.size))
                have HKeep : Hid (∀ W, Below w6.heap.size w6 W → W.cell? ⟨lk, q * 7 + 2 + kk, none⟩ = some (.int .i64 (a : Int))) := fun W hW => HSk.out W (HA.out.bel.trans (hW.mono HA.out.bel.size))
                have ha2 : (a : Int) < 200 := by omega
                clear hmw
                clear hT htk HSk
                go_wp2
                clear ck
                have hC : Below w6.heap.size w6 w6.drew := below_drewN (Below.refl _ _) 1
                refine wp_region_held_drew (S := (fun W => W.cell? ⟨lk, q * 7 + 2 + kk, none⟩ = some (.int .i64 (a : Int)))) (by kernel_rfl) (HKeep.out _ hC) (fun hHeld => ?_)
                generalize w6.drew = w6d at *
                refine wpAnyH_take (i := 0) (oi := ⟨some 68, _, _, _, _, _⟩) (v := ?_) rfl (by kernel_rfl) (by kernel_rfl) (by kernel_rfl) (fun _ _ _ h => h) (Or.inl ⟨by rfl, ?_⟩) hHeld ?_
                rotate_left
                · intro w hSw
                  go_simp
                  with_reducible rfl
                try go_frame
                refine wpAnyH_take (i := 1) (oi := ⟨some 69, _, _, _, _, _⟩) (v := ?_) rfl (by kernel_rfl) (by kernel_rfl) (by kernel_rfl) (fun _ _ _ h => h) (Or.inl ⟨by rfl, ?_⟩) hHeld ?_
                rotate_left
                · intro w hSw
                  go_simp
                  with_reducible rfl
                try go_frame
                refine wpAnyH_take (i := 2) (oi := ⟨some 70, _, _, _, _, _⟩) (v := ?_) rfl (by kernel_rfl) (by kernel_rfl) (by kernel_rfl) (fun _ _ _ h => h) (Or.inl ⟨by rfl, ?_⟩) hHeld ?_
                rotate_left
                · intro w hSw
                  go_simp
                  with_reducible rfl
                try go_frame
                refine wpAnyH_take (i := 3) (oi := ⟨some 71, _, _, _, _, _⟩) (v := ?_) rfl (by kernel_rfl) (by kernel_rfl) (by kernel_rfl) (fun _ _ _ h => h) (Or.inl ⟨by rfl, ?_⟩) hHeld ?_
                rotate_left
                · intro w hSw
                  go_simp
                  with_reducible rfl
                try go_frame
                refine wpAnyH_take (i := 4) (oi := ⟨some 72, _, _, _, _, _⟩) (v := ?_) rfl (by kernel_rfl) (by kernel_rfl) (by kernel_rfl) (fun _ _ _ h => h) (Or.inl ⟨by rfl, ?_⟩) hHeld ?_
                rotate_left
                · intro w hSw
                  go_simp
                  with_reducible rfl
                try go_frame
                refine wpAnyH_take (i := 5) (oi := ⟨some 73, _, _, _, _, _⟩) (v := ?_) rfl (by kernel_rfl) (by kernel_rfl) (by kernel_rfl) (fun _ _ _ h => h) (Or.inl ⟨by rfl, ?_⟩) hHeld ?_
                rotate_left
                · intro w hSw
                  go_simp
                  with_reducible rfl
                try go_frame
                refine wpAnyH_take (i := 6) (oi := ⟨some 74, _, _, _, _, _⟩) (v := ?_) rfl (by kernel_rfl) (by kernel_rfl) (by kernel_rfl) (fun _ _ _ h => h) (Or.inl ⟨by rfl, ?_⟩) hHeld ?_
                rotate_left
                · intro w hSw
                  go_simp
                  with_reducible rfl
                try go_frame
                refine wpAnyH_take (i := 7) (oi := ⟨some 75, _, _, _, _, _⟩) (v := ?_) rfl (by kernel_rfl) (by kernel_rfl) (by kernel_rfl) (fun _ _ _ h => h) (Or.inl ⟨by rfl, ?_⟩) hHeld ?_
                rotate_left
                · intro w hSw
                  have s0 := hSw
                  go_simp
                  with_reducible rfl
                try go_frame
                refine wpAnyH_take (i := 8) (oi := ⟨some 76, _, _, _, _, _⟩) (v := ?_) rfl (by kernel_rfl) (by kernel_rfl) (by kernel_rfl) (fun _ _ _ h => h) (Or.inl ⟨by rfl, ?_⟩) hHeld ?_
                rotate_left
                · intro w hSw
                  go_simp
                  with_reducible rfl
                try go_frame
                refine wpAnyH_take (i := 9) (oi := ⟨some 77, _, _, _, _, _⟩) (v := ?_) rfl (by kernel_rfl) (by kernel_rfl) (by kernel_rfl) (fun _ _ _ h => h) (Or.inl ⟨by rfl, ?_⟩) hHeld ?_
                rotate_left
                · intro w hSw
                  go_simp
                  with_reducible rfl
                try go_frame
                refine wpAnyH_take (i := 10) (oi := ⟨some 78, _, _, _, _, _⟩) (v := ?_) rfl (by kernel_rfl) (by kernel_rfl) (by kernel_rfl) (fun _ _ _ h => h) (Or.inl ⟨by rfl, ?_⟩) hHeld ?_
                rotate_left
                · intro w hSw
                  go_simp
                  with_reducible rfl
                try go_frame
                refine wpAnyH_take (i := 11) (oi := ⟨some 79, _, _, _, _, _⟩) (v := ?_) rfl (by kernel_rfl) (by kernel_rfl) (by kernel_rfl) (fun _ _ _ h => h) (Or.inl ⟨by rfl, ?_⟩) hHeld ?_
                rotate_left
                · intro w hSw
                  go_simp
                  with_reducible rfl
                try go_frame
                refine wpAnyH_take (i := 12) (oi := ⟨some 80, _, _, _, _, _⟩) (v := ?_) rfl (by kernel_rfl) (by kernel_rfl) (by kernel_rfl) (fun _ _ _ h => h) (Or.inl ⟨by rfl, ?_⟩) hHeld ?_
                rotate_left
                · intro w hSw
                  go_simp
                  with_reducible rfl
                try go_frame
                refine wpAnyH_take (i := 13) (oi := ⟨some 81, _, _, _, _, _⟩) (v := ?_) rfl (by kernel_rfl) (by kernel_rfl) (by kernel_rfl) (fun _ _ _ h => h) (Or.inl ⟨by rfl, ?_⟩) hHeld ?_
                rotate_left
                · intro w hSw
                  go_simp
                  with_reducible rfl
                try go_frame
                refine wpAnyH_take (i := 14) (oi := ⟨some 82, _, _, _, _, _⟩) (v := ?_) rfl (by kernel_rfl) (by kernel_rfl) (by kernel_rfl) (fun _ _ _ h => h) (Or.inl ⟨by rfl, ?_⟩) hHeld ?_
                rotate_left
                · intro w hSw
                  go_simp
                  with_reducible rfl
                try go_frame
                refine wpAnyH_take (i := 15) (oi := ⟨some 83, _, _, _, _, _⟩) (v := ?_) rfl (by kernel_rfl) (by kernel_rfl) (by kernel_rfl) (fun _ _ _ h => h) (Or.inl ⟨by rfl, ?_⟩) hHeld ?_
                rotate_left
                · intro w hSw
                  have s0 := hSw
                  go_simp
                  with_reducible rfl
                try go_frame
                refine wpAnyH_take (i := 16) (oi := ⟨some 84, _, _, _, _, _⟩) (v := ?_) rfl (by kernel_rfl) (by kernel_rfl) (by kernel_rfl) (fun _ _ _ h => h) (Or.inl ⟨by rfl, ?_⟩) hHeld ?_
                rotate_left
                · intro w hSw
                  go_simp
                  with_reducible rfl
                try go_frame
                refine wpAnyH_ready (rs := [17]) (by kernel_rfl) (by simp) ?_
                refine AllReadyH.cons (o := ⟨some 85, _, _, _, _, _⟩) rfl (fun K hK => ?_) AllReadyH.nil
                have cS := (HA.out.below hC).cell a (by omega)
                go_simp
                refine hK.out _ _ (HKeep.out _ hC) (fun hHeld => ?_)
                clear hK K cS
                try go_frame
                refine wpAnyH_take (i := 18) (oi := ⟨some 86, _, _, _, _, _⟩) (v := ?_) rfl (by kernel_rfl) (by kernel_rfl) (by kernel_rfl) (fun _ _ _ h => h) (Or.inl ⟨by rfl, ?_⟩) hHeld ?_
                rotate_left
                · intro w hSw
                  go_simp
                  with_reducible rfl
                try go_frame
                refine wpAnyH_take (i := 19) (oi := ⟨some 87, _, _, _, _, _⟩) (v := ?_) rfl (by kernel_rfl) (by kernel_rfl) (by kernel_rfl) (fun _ _ _ h => h) (Or.inl ⟨by rfl, ?_⟩) hHeld ?_
                rotate_left
                · intro w hSw
                  go_simp
                  with_reducible rfl
                try go_frame
                refine wpAnyH_ready (rs := [20]) (by kernel_rfl) (by simp) ?_
                refine AllReadyH.cons (o := ⟨none, _, _, _, _, _⟩) rfl (fun K hK => ?_) AllReadyH.nil
                have hA9 := HA.out.below hC
                have cS := hA9.cell a (by omega)
                have fS := hA9.met.free a
                go_simp
                have HA8 : Hid (Apt w (w6d.setCell ⟨mb, a, none⟩ (.int .i64 (IntKind.i64.wrap ((List.count a T : Int) + 1)))) gb mb bb n k bits (T ++ [a])) := by rw [HW1.out]; exact hA9.store a _ (metL_put _ a (by omega))
                refine hK.out _ _ (HSt.out _ hC _) (fun hHeld => ?_)
                generalize (w6d.setCell ⟨mb, a, none⟩ (.int .i64 (IntKind.i64.wrap ((List.count a T : Int) + 1)))) = w6d_st at *
                clear hK K cS fS hA9 hC
                try go_frame
                refine wpAnyH_done (by kernel_rfl) ?_ _
                clear hHeld HKeep HSt HW1 HA
                have HA := HA8
                clear HA8
                generalize w6d_st = w9 at *
                rw [HTn.out] at HA
                go_wp2
                go_roundw
                case rel => exact ⟨kk + 1, by omega, by go_num, HA⟩
                case measure => simp [intOf] <;> omega
              · rw [← htk] at HA
                clear HSk
                go_wp2
                go_roundw
                case rel => exact ⟨kk + 1, by omega, by go_num, HA⟩
                case measure => simp [intOf] <;> omega
            · obtain rfl : kk = 4 := by omega
              rw [show (direct x).take 4 = direct x from List.take_of_length_le (by rw [direct_length]; omega)] at HA
              by_cases hd4 : 4 < D
              · obtain ⟨d, hd⟩ : ∃ d, d = x.d.toNat := ⟨_, rfl⟩
                have hdx : x.d = (d : Int) := by omega
                have e6 : x.l.getD 6 0 = x.d := rfl
                have hd4' : 4 < data x.b := by rw [← HDD.out]; exact hd4
                have hall : allOf x bl = direct x ++ ([d] ++ further x bl) := by unfold allOf; rw [if_pos hd4', ← hd, List.append_assoc]
                have hdm : d ∈ allOf x bl := by rw [hall]; simp
                have hdn := mem_lt HH.out HX.out hdm
                have hdl := HH.out.blen hdn
                rw [← Hn.out] at hdn
                have HSk : Hid (∀ W, Below w.heap.size w W → W.cell? ⟨lk, q * 7 + 6, none⟩ = some (.int .i64 (d : Int))) := fun W hW => by
                  have := HSl.out 6 (by omega) W hW
                  rwa [e6, hdx] at this
                have HRd : Hid (∀ W, Below w.heap.size w W → Calls Try.prog 39 #[.pointer (some ⟨mp, 0, none⟩), .int .i64 d] W fun e w' => ∃ r, e = .returned (.tuple #[r, .int .i64 0]) ∧ Hid (ArgHi w' W.heap.size r (blk bl d)) ∧ Below W.heap.size W w') := fun W hW => HRead.out d (by rw [← Hn.out]; exact hdn) W hW
                have HAll := Lib.hid hall
                have Hdl := Lib.hid hdl
                have hfl : further x bl = ((blk bl d).take (D - 4)).map UInt8.toNat := by unfold further; rw [if_pos hd4', ← hd, ← HDD.out]
                have HFl := Lib.hid hfl
                clear hd hdx e6 hd4' hall hdm hdl hfl HRead HSl
                have hmw := HA.out.mw
                obtain ⟨a, ha⟩ : ∃ a, a = d := ⟨_, rfl⟩
                have Had := Lib.hid ha
                obtain ⟨T, hT⟩ : ∃ T, T = taken g (l.take q) bl ++ direct x := ⟨_, rfl⟩
                have hcn : ∀ a, T.count a ≤ 1 := fun a => by rw [hT]; exact count_pre HH.out HX.out _ _ HAll.out a
                rw [← hT] at HA
                have HW1 : Hid (∀ a, IntKind.i64.wrap ((T.count a : Int) + 1) = (T.count a : Int) + 1) := fun a => wrapI _ ⟨by omega, by have := hcn a; omega⟩
                have HSt : Hid (∀ W, Below w6.heap.size w6 W → ∀ u, (W.setCell ⟨mb, a, none⟩ u).cell? ⟨lk, q * 7 + 6, none⟩ = some (.int .i64 (a : Int))) := fun W hW u => by
                  rw [World.cell?_setCell_other _ _ _ _ (fun e => by injection e with e1; omega), ha]
                  exact HSk.out W (HA.out.bel.trans (hW.mono HA.out.bel.size))
                have HKeep : Hid (∀ W, Below w6.heap.size w6 W → W.cell? ⟨lk, q * 7 + 6, none⟩ = some (.int .i64 (a : Int))) := fun W hW => by rw [ha]; exact HSk.out W (HA.out.bel.trans (hW.mono HA.out.bel.size))
                have ha2 : (a : Int) < 200 := by omega
                have HTT := Lib.hid hT
                clear hT hmw ha hcn
                go_wp2
                have hC : Below w6.heap.size w6 w6.drew := below_drewN (Below.refl _ _) 1
                refine wp_region_held_drew (S := (fun W => W.cell? ⟨lk, q * 7 + 6, none⟩ = some (.int .i64 (a : Int)))) (by kernel_rfl) (HKeep.out _ hC) (fun hHeld => ?_)
                generalize w6.drew = w6d at *
                refine wpAnyH_take (i := 0) (oi := ⟨some 90, _, _, _, _, _⟩) (v := ?_) rfl (by kernel_rfl) (by kernel_rfl) (by kernel_rfl) (fun _ _ _ h => h) (Or.inl ⟨by rfl, ?_⟩) hHeld ?_
                rotate_left
                · intro w hSw
                  go_simp
                  with_reducible rfl
                try go_frame
                refine wpAnyH_take (i := 1) (oi := ⟨some 91, _, _, _, _, _⟩) (v := ?_) rfl (by kernel_rfl) (by kernel_rfl) (by kernel_rfl) (fun _ _ _ h => h) (Or.inl ⟨by rfl, ?_⟩) hHeld ?_
                rotate_left
                · intro w hSw
                  go_simp
                  with_reducible rfl
                try go_frame
                refine wpAnyH_take (i := 2) (oi := ⟨some 92, _, _, _, _, _⟩) (v := ?_) rfl (by kernel_rfl) (by kernel_rfl) (by kernel_rfl) (fun _ _ _ h => h) (Or.inl ⟨by rfl, ?_⟩) hHeld ?_
                rotate_left
                · intro w hSw
                  go_simp
                  with_reducible rfl
                try go_frame
                refine wpAnyH_take (i := 3) (oi := ⟨some 93, _, _, _, _, _⟩) (v := ?_) rfl (by kernel_rfl) (by kernel_rfl) (by kernel_rfl) (fun _ _ _ h => h) (Or.inl ⟨by rfl, ?_⟩) hHeld ?_
                rotate_left
                · intro w hSw
                  go_simp
                  with_reducible rfl
                try go_frame
                refine wpAnyH_take (i := 4) (oi := ⟨some 94, _, _, _, _, _⟩) (v := ?_) rfl (by kernel_rfl) (by kernel_rfl) (by kernel_rfl) (fun _ _ _ h => h) (Or.inl ⟨by rfl, ?_⟩) hHeld ?_
                rotate_left
                · intro w hSw
                  go_simp
                  with_reducible rfl
                try go_frame
                refine wpAnyH_take (i := 5) (oi := ⟨some 95, _, _, _, _, _⟩) (v := ?_) rfl (by kernel_rfl) (by kernel_rfl) (by kernel_rfl) (fun _ _ _ h => h) (Or.inl ⟨by rfl, ?_⟩) hHeld ?_
                rotate_left
                · intro w hSw
                  have s0 := hSw
                  go_simp
                  with_reducible rfl
                try go_frame
                refine wpAnyH_take (i := 6) (oi := ⟨some 96, _, _, _, _, _⟩) (v := ?_) rfl (by kernel_rfl) (by kernel_rfl) (by kernel_rfl) (fun _ _ _ h => h) (Or.inl ⟨by rfl, ?_⟩) hHeld ?_
                rotate_left
                · intro w hSw
                  go_simp
                  with_reducible rfl
                try go_frame
                refine wpAnyH_take (i := 7) (oi := ⟨some 97, _, _, _, _, _⟩) (v := ?_) rfl (by kernel_rfl) (by kernel_rfl) (by kernel_rfl) (fun _ _ _ h => h) (Or.inl ⟨by rfl, ?_⟩) hHeld ?_
                rotate_left
                · intro w hSw
                  go_simp
                  with_reducible rfl
                try go_frame
                refine wpAnyH_take (i := 8) (oi := ⟨some 98, _, _, _, _, _⟩) (v := ?_) rfl (by kernel_rfl) (by kernel_rfl) (by kernel_rfl) (fun _ _ _ h => h) (Or.inl ⟨by rfl, ?_⟩) hHeld ?_
                rotate_left
                · intro w hSw
                  go_simp
                  with_reducible rfl
                try go_frame
                refine wpAnyH_take (i := 9) (oi := ⟨some 99, _, _, _, _, _⟩) (v := ?_) rfl (by kernel_rfl) (by kernel_rfl) (by kernel_rfl) (fun _ _ _ h => h) (Or.inl ⟨by rfl, ?_⟩) hHeld ?_
                rotate_left
                · intro w hSw
                  go_simp
                  with_reducible rfl
                try go_frame
                refine wpAnyH_take (i := 10) (oi := ⟨some 100, _, _, _, _, _⟩) (v := ?_) rfl (by kernel_rfl) (by kernel_rfl) (by kernel_rfl) (fun _ _ _ h => h) (Or.inl ⟨by rfl, ?_⟩) hHeld ?_
                rotate_left
                · intro w hSw
                  go_simp
                  with_reducible rfl
                try go_frame
                refine wpAnyH_take (i := 11) (oi := ⟨some 101, _, _, _, _, _⟩) (v := ?_) rfl (by kernel_rfl) (by kernel_rfl) (by kernel_rfl) (fun _ _ _ h => h) (Or.inl ⟨by rfl, ?_⟩) hHeld ?_
                rotate_left
                · intro w hSw
                  have s0 := hSw
                  go_simp
                  with_reducible rfl
                try go_frame
                refine wpAnyH_take (i := 12) (oi := ⟨some 102, _, _, _, _, _⟩) (v := ?_) rfl (by kernel_rfl) (by kernel_rfl) (by kernel_rfl) (fun _ _ _ h => h) (Or.inl ⟨by rfl, ?_⟩) hHeld ?_
                rotate_left
                · intro w hSw
                  go_simp
                  with_reducible rfl
                try go_frame
                refine wpAnyH_ready (rs := [13]) (by kernel_rfl) (by simp) ?_
                refine AllReadyH.cons (o := ⟨some 103, _, _, _, _, _⟩) rfl (fun K hK => ?_) AllReadyH.nil
                have cS := (HA.out.below hC).cell a (by omega)
                go_simp
                refine hK.out _ _ (HKeep.out _ hC) (fun hHeld => ?_)
                clear hK K cS
                try go_frame
                refine wpAnyH_take (i := 14) (oi := ⟨some 104, _, _, _, _, _⟩) (v := ?_) rfl (by kernel_rfl) (by kernel_rfl) (by kernel_rfl) (fun _ _ _ h => h) (Or.inl ⟨by rfl, ?_⟩) hHeld ?_
                rotate_left
                · intro w hSw
                  go_simp
                  with_reducible rfl
                try go_frame
                refine wpAnyH_take (i := 15) (oi := ⟨some 105, _, _, _, _, _⟩) (v := ?_) rfl (by kernel_rfl) (by kernel_rfl) (by kernel_rfl) (fun _ _ _ h => h) (Or.inl ⟨by rfl, ?_⟩) hHeld ?_
                rotate_left
                · intro w hSw
                  go_simp
                  with_reducible rfl
                try go_frame
                refine wpAnyH_ready (rs := [16]) (by kernel_rfl) (by simp) ?_
                refine AllReadyH.cons (o := ⟨none, _, _, _, _, _⟩) rfl (fun K hK => ?_) AllReadyH.nil
                have hA9 := HA.out.below hC
                have cS := hA9.cell a (by omega)
                have fS := hA9.met.free a
                go_simp
                have HA8 : Hid (Apt w (w6d.setCell ⟨mb, a, none⟩ (.int .i64 (IntKind.i64.wrap ((List.count a T : Int) + 1)))) gb mb bb n k bits (T ++ [a])) := by rw [HW1.out]; exact hA9.store a _ (metL_put _ a (by omega))
                refine hK.out _ _ (HSt.out _ hC _) (fun hHeld => ?_)
                generalize (w6d.setCell ⟨mb, a, none⟩ (.int .i64 (IntKind.i64.wrap ((List.count a T : Int) + 1)))) = w6d_st at *
                clear hK K cS fS hA9 hC
                try go_frame
                refine wpAnyH_done (by kernel_rfl) ?_ _
                clear hHeld HKeep HSt HW1 HA
                have HA := HA8
                clear HA8
                generalize w6d_st = w9 at *
                rw [HTT.out, Had.out] at HA
                have ck := HSk.out w9 HA.out.bel
                clear HTT Had ha2
                go_wp2_with fail
                have hmbl := HA.out.met.lt
                refine (HRd.out w9 HA.out.bel).mono ?_
                rintro e w7 ⟨r, rfl, Hr, hb⟩
                replace HA := Lib.hid (HA.out.below hb)
                clear hb HRd ck HSk
                have hrm : ∃ rb ro rc, r = .slice (some ⟨rb, ro, none⟩) 64 rc ∧ rb ≠ mb ∧ rb < w7.heap.size ∧ Sees w7 rb ro ((blk bl d).map V8) := by
                  rcases Hr.out with ⟨_, _, e⟩ | ⟨rb, ro, rc, e, h1, h2, _, h4⟩
                  · have := Hdl.out; rw [e] at this; simp at this
                  · exact ⟨rb, ro, rc, by rw [e, Hdl.out], by omega, h2, h4⟩
                obtain ⟨rb, ro, rc, rfl, hrb, hrl, hrs⟩ := hrm
                have HSr := Lib.hid hrs
                have HRl := Lib.hid hrl
                clear Hr hrs hrl hmbl
                go_wp2
                go_loopw [17] (fun i wr => ∃ kk : Nat, kk ≤ D - 4 ∧ i = .int .i64 kk ∧ Hid (Apt w wr gb mb bb n k bits (taken g (l.take q) bl ++ direct x ++ [d] ++ (further x bl).take kk)) ∧ Hid (Sees wr rb ro ((blk bl d).map V8)) ∧ Hid (rb < wr.heap.size)) (fun i _ => D - 4 - (intOf i).toNat)
                case atStart => exact ⟨0, by omega, rfl, by rw [List.take_zero, List.append_nil]; exact HA, HSr, HRl⟩
                case round =>
                  rename World => w8
                  clear HA HSr HRl
                  obtain ⟨kk, hkk, rfl, HA, HSr, HRl⟩ := hrel
                  by_cases hltk : kk < D - 4
                  · have hfk : kk < (further x bl).length := by rw [HFl.out, List.length_map, List.length_take, Hdl.out]; omega
                    have ck := at8 HSr.out kk (by rw [Hdl.out]; omega)
                    obtain ⟨z, hz⟩ : ∃ z, z = (blk bl d).getD kk 0 := ⟨_, rfl⟩
                    rw [← hz] at ck
                    obtain ⟨a, ha⟩ : ∃ a, a = z.toNat := ⟨_, rfl⟩
                    rw [← ha] at ck
                    have hfa : (further x bl).take (kk + 1) = (further x bl).take kk ++ [a] := by
                      rw [List.take_succ_eq_append_getElem hfk]
                      congr 2
                      have : ∀ (L : List Nat) (h : kk < L.length), L = ((blk bl d).take (D - 4)).map UInt8.toNat → L[kk] = a := fun L h e => by
                        subst e
                        rw [List.getElem_map, List.getElem_take, ha, hz, List.getD_eq_getElem?_getD, List.getElem?_eq_getElem (by rw [Hdl.out]; omega)]
                        rfl
                      exact this _ hfk HFl.out
                    have ham : a ∈ allOf x bl := by
                      rw [HAll.out]
                      refine List.mem_append_right _ (List.mem_append_right _ ?_)
                      have : a ∈ (further x bl).take (kk + 1) := by rw [hfa]; simp
                      exact List.mem_of_mem_take this
                    have han := mem_lt HH.out HX.out ham
                    rw [← Hn.out] at han
                    obtain ⟨T, hT⟩ : ∃ T, T = taken g (l.take q) bl ++ direct x ++ [d] ++ (further x bl).take kk := ⟨_, rfl⟩
                    have hcn : ∀ a, T.count a ≤ 1 := fun a => by
                      rw [hT, List.append_assoc, List.append_assoc]
                      exact count_pre HH.out HX.out _ ((further x bl).drop kk) (by rw [HAll.out, List.append_assoc, List.append_assoc, List.take_append_drop]) a
                    have HTn : Hid (T ++ [a] = taken g (l.take q) bl ++ direct x ++ [d] ++ (further x bl).take (kk + 1)) := by show _ = _; rw [hT, hfa]; simp [List.append_assoc]
                    rw [← hT] at HA
                    have HW1 : Hid (∀ a, IntKind.i64.wrap ((T.count a : Int) + 1) = (T.count a : Int) + 1) := fun a => wrapI _ ⟨by omega, by have := hcn a; omega⟩
                    have hmw := HA.out.mw
                    have HSt : Hid (∀ W, Below w8.heap.size w8 W → ∀ u, (W.setCell ⟨mb, a, none⟩ u).cell? ⟨rb, ro + kk, none⟩ = some (.int .u8 (a : Int))) := fun W hW u => by
                      rw [World.cell?_setCell_other _ _ _ _ (fun e => by injection e with e1; exact hrb e1.symm)]
                      rw [World.cell?_of_block (w := w8) (hW.block rb HRl.out)]
                      exact ck
                    have HKeep : Hid (∀ W, Below w8.heap.size w8 W → W.cell? ⟨rb, ro + kk, none⟩ = some (.int .u8 (a : Int))) := fun W hW => by
                      rw [World.cell?_of_block (w := w8) (hW.block rb HRl.out)]
                      exact ck
                    have ha2 : (a : Int) < 200 := by omega
                    have hwa := wrapI (a : Int) ⟨by omega, by omega⟩
                    have hk6 : (kk : Int) < 64 := by omega
                    clear hT hcn hfa ham han hfk hz ha
                    go_wp2
                    clear ck
                    have hC : Below w8.heap.size w8 w8.drew := below_drewN (Below.refl _ _) 1
                    refine wp_region_held_drew (S := (fun W => W.cell? ⟨rb, ro + kk, none⟩ = some (.int .u8 (a : Int)))) (by kernel_rfl) (HKeep.out _ hC) (fun hHeld => ?_)
                    generalize w8.drew = w8d at *
                    refine wpAnyH_take (i := 0) (oi := ⟨some 135, _, _, _, _, _⟩) (v := ?_) rfl (by kernel_rfl) (by kernel_rfl) (by kernel_rfl) (fun _ _ _ h => h) (Or.inl ⟨by rfl, ?_⟩) hHeld ?_
                    rotate_left
                    · intro w hSw
                      go_simp
                      with_reducible rfl
                    try go_frame
                    refine wpAnyH_take (i := 1) (oi := ⟨some 136, _, _, _, _, _⟩) (v := ?_) rfl (by kernel_rfl) (by kernel_rfl) (by kernel_rfl) (fun _ _ _ h => h) (Or.inl ⟨by rfl, ?_⟩) hHeld ?_
                    rotate_left
                    · intro w hSw
                      go_simp
                      with_reducible rfl
                    try go_frame
                    refine wpAnyH_take (i := 2) (oi := ⟨some 137, _, _, _, _, _⟩) (v := ?_) rfl (by kernel_rfl) (by kernel_rfl) (by kernel_rfl) (fun _ _ _ h => h) (Or.inl ⟨by rfl, ?_⟩) hHeld ?_
                    rotate_left
                    · intro w hSw
                      go_simp
                      with_reducible rfl
                    try go_frame
                    refine wpAnyH_take (i := 3) (oi := ⟨some 138, _, _, _, _, _⟩) (v := ?_) rfl (by kernel_rfl) (by kernel_rfl) (by kernel_rfl) (fun _ _ _ h => h) (Or.inl ⟨by rfl, ?_⟩) hHeld ?_
                    rotate_left
                    · intro w hSw
                      go_simp
                      with_reducible rfl
                    try go_frame
                    refine wpAnyH_take (i := 4) (oi := ⟨some 139, _, _, _, _, _⟩) (v := ?_) rfl (by kernel_rfl) (by kernel_rfl) (by kernel_rfl) (fun _ _ _ h => h) (Or.inl ⟨by rfl, ?_⟩) hHeld ?_
                    rotate_left
                    · intro w hSw
                      have s0 := hSw
                      go_simp
                      with_reducible rfl
                    try go_frame
                    refine wpAnyH_take (i := 5) (oi := ⟨some 140, _, _, _, _, _⟩) (v := ?_) rfl (by kernel_rfl) (by kernel_rfl) (by kernel_rfl) (fun _ _ _ h => h) (Or.inl ⟨by rfl, ?_⟩) hHeld ?_
                    rotate_left
                    · intro w hSw
                      go_simp
                      with_reducible rfl
                    try go_frame
                    refine wpAnyH_take (i := 6) (oi := ⟨some 141, _, _, _, _, _⟩) (v := ?_) rfl (by kernel_rfl) (by kernel_rfl) (by kernel_rfl) (fun _ _ _ h => h) (Or.inl ⟨by rfl, ?_⟩) hHeld ?_
                    rotate_left
                    · intro w hSw
                      go_simp
                      with_reducible rfl
                    try go_frame
                    refine wpAnyH_take (i := 7) (oi := ⟨some 142, _, _, _, _, _⟩) (v := ?_) rfl (by kernel_rfl) (by kernel_rfl) (by kernel_rfl) (fun _ _ _ h => h) (Or.inl ⟨by rfl, ?_⟩) hHeld ?_
                    rotate_left
                    · intro w hSw
                      go_simp
                      with_reducible rfl
                    try go_frame
                    refine wpAnyH_take (i := 8) (oi := ⟨some 143, _, _, _, _, _⟩) (v := ?_) rfl (by kernel_rfl) (by kernel_rfl) (by kernel_rfl) (fun _ _ _ h => h) (Or.inl ⟨by rfl, ?_⟩) hHeld ?_
                    rotate_left
                    · intro w hSw
                      go_simp
                      with_reducible rfl
                    try go_frame
                    refine wpAnyH_take (i := 9) (oi := ⟨some 144, _, _, _, _, _⟩) (v := ?_) rfl (by kernel_rfl) (by kernel_rfl) (by kernel_rfl) (fun _ _ _ h => h) (Or.inl ⟨by rfl, ?_⟩) hHeld ?_
                    rotate_left
                    · intro w hSw
                      go_simp
                      with_reducible rfl
                    try go_frame
                    refine wpAnyH_take (i := 10) (oi := ⟨some 145, _, _, _, _, _⟩) (v := ?_) rfl (by kernel_rfl) (by kernel_rfl) (by kernel_rfl) (fun _ _ _ h => h) (Or.inl ⟨by rfl, ?_⟩) hHeld ?_
                    rotate_left
                    · intro w hSw
                      have s0 := hSw
                      go_simp
                      with_reducible rfl
                    try go_frame
                    refine wpAnyH_take (i := 11) (oi := ⟨some 146, _, _, _, _, _⟩) (v := ?_) rfl (by kernel_rfl) (by kernel_rfl) (by kernel_rfl) (fun _ _ _ h => h) (Or.inl ⟨by rfl, ?_⟩) hHeld ?_
                    rotate_left
                    · intro w hSw
                      go_simp
                      with_reducible rfl
                    try go_frame
                    refine wpAnyH_take (i := 12) (oi := ⟨some 147, _, _, _, _, _⟩) (v := ?_) rfl (by kernel_rfl) (by kernel_rfl) (by kernel_rfl) (fun _ _ _ h => h) (Or.inl ⟨by rfl, ?_⟩) hHeld ?_
                    rotate_left
                    · intro w hSw
                      go_simp
                      with_reducible rfl
                    try go_frame
                    refine wpAnyH_ready (rs := [13]) (by kernel_rfl) (by simp) ?_
                    refine AllReadyH.cons (o := ⟨some 148, _, _, _, _, _⟩) rfl (fun K hK => ?_) AllReadyH.nil
                    have cS := (HA.out.below hC).cell a (by omega)
                    go_simp
                    refine hK.out _ _ (HKeep.out _ hC) (fun hHeld => ?_)
                    clear hK K cS
                    try go_frame
                    refine wpAnyH_take (i := 14) (oi := ⟨some 149, _, _, _, _, _⟩) (v := ?_) rfl (by kernel_rfl) (by kernel_rfl) (by kernel_rfl) (fun _ _ _ h => h) (Or.inl ⟨by rfl, ?_⟩) hHeld ?_
                    rotate_left
                    · intro w hSw
                      go_simp
                      with_reducible rfl
                    try go_frame
                    refine wpAnyH_take (i := 15) (oi := ⟨some 150, _, _, _, _, _⟩) (v := ?_) rfl (by kernel_rfl) (by kernel_rfl) (by kernel_rfl) (fun _ _ _ h => h) (Or.inl ⟨by rfl, ?_⟩) hHeld ?_
                    rotate_left
                    · intro w hSw
                      go_simp
                      with_reducible rfl
                    try go_frame
                    refine wpAnyH_ready (rs := [16]) (by kernel_rfl) (by simp) ?_
                    refine AllReadyH.cons (o := ⟨none, _, _, _, _, _⟩) rfl (fun K hK => ?_) AllReadyH.nil
                    have hA9 := HA.out.below hC
                    have cS := hA9.cell a (by omega)
                    have fS := hA9.met.free a
                    go_simp
                    have HA8 : Hid (Apt w (w8d.setCell ⟨mb, a, none⟩ (.int .i64 (IntKind.i64.wrap ((List.count a T : Int) + 1)))) gb mb bb n k bits (T ++ [a])) := by rw [HW1.out]; exact hA9.store a _ (metL_put _ a (by omega))
                    have HSr2 : Hid (Sees (w8d.setCell ⟨mb, a, none⟩ (.int .i64 (IntKind.i64.wrap ((List.count a T : Int) + 1)))) rb ro ((blk bl d).map V8)) := (HSr.out.below hC HRl.out).setCell hrb _
                    have HRl2 : Hid (rb < (w8d.setCell ⟨mb, a, none⟩ (.int .i64 (IntKind.i64.wrap ((List.count a T : Int) + 1)))).heap.size) := by have h1 := HRl.out; have h2 := hC.size; show _ < _; simp [World.setCell]; omega
                    refine hK.out _ _ (HSt.out _ hC _) (fun hHeld => ?_)
                    generalize (w8d.setCell ⟨mb, a, none⟩ (.int .i64 (IntKind.i64.wrap ((List.count a T : Int) + 1)))) = w8d_st at *
                    clear hK K cS fS hA9 hC
                    try go_frame
                    refine wpAnyH_done (by kernel_rfl) ?_ _
                    clear hHeld HKeep HSt HW1 HA
                    have HA := HA8
                    clear HA8
                    generalize w8d_st = w9 at *
                    rw [HTn.out] at HA
                    clear HSr HRl hwa
                    go_wp2
                    go_roundw
                    case rel => exact ⟨kk + 1, by omega, by go_num, HA, HSr2, HRl2⟩
                    case measure => simp [intOf] <;> omega
                  · obtain rfl : kk = D - 4 := by omega
                    have HT4 : Hid (taken g (l.take q) bl ++ direct x ++ [d] ++ (further x bl).take (D - 4) = taken g (l.take (q + 1)) bl) := by
                      show _ = _
                      rw [taken_succ g l bl HX.out, HAll.out, show (further x bl).take (D - 4) = further x bl from List.take_of_length_le (by rw [HFl.out, List.length_map, List.length_take]; omega)]
                      simp [List.append_assoc]
                    rw [HT4.out] at HA
                    go_wp2
                    go_roundw
                    case rel => exact ⟨q + 1, by omega, by go_num, HA⟩
                    case measure => simp [intOf] <;> omega
              · have HT4 : Hid (taken g (l.take q) bl ++ direct x = taken g (l.take (q + 1)) bl) := by
                  show _ = _
                  rw [taken_succ g l bl HX.out]
                  congr 1
                  have : ¬ 4 < data x.b := by rw [← HDD.out]; exact hd4
                  unfold allOf further
                  rw [if_neg this, if_neg this, List.append_nil, List.append_nil]
                rw [HT4.out] at HA
                go_wp2
                go_roundw
                case rel => exact ⟨q + 1, by omega, by go_num, HA⟩
                case measure => simp [intOf] <;> omega
        · obtain rfl : q = m := by omega
          rw [show l.take q = l from List.take_of_length_le (by rw [Hm.out]; exact Nat.le_refl _)] at HA
          have HBt : Hid (∀ i, i < 512 → bits.getD i false = decide (i ∈ taken g l bl)) := fun i hi => by
            rw [Hbits.out, Bm.bits_get _ _ (by have := HH.out.blen (i := 0) (by rw [← Hn.out]; omega); omega), HH.out.bits i hi]
          have HCt : Hid (∀ i, (taken g l bl).count i = if i ∈ taken g l bl then 1 else 0) := fun i => HH.out.count i
          have HLt : Hid (∀ i, i ∈ taken g l bl → (i : Int) < n) := fun i hi => by rw [Hn.out]; exact HH.out.lt i hi
          clear HRead HS Hm HF HT0 Hbits HH hk
          generalize taken g l bl = T at *
          go_wp2
          go_loopw [18] (fun i wr => ∃ j : Nat, j ≤ 512 ∧ i = .int .i64 j ∧ Hid (Apt w wr gb mb bb n k bits T)) (fun i _ => 512 - (intOf i).toNat)
          case atStart => exact ⟨0, by omega, rfl, HA⟩
          case round =>
            rename World => w5
            clear HA
            obtain ⟨i, hi, rfl, HA⟩ := hrel
            by_cases hlti : i < 512
            · have cb := atBo0 HA.out.bit i (by rw [hbl]; exact hlti)
              rw [HBt.out i hlti] at cb
              by_cases h2 : i < 200
              · have cm := HA.out.cell i h2
                rw [HCt.out i] at cm
                by_cases hin : i ∈ T
                · rw [if_pos hin] at cm
                  rw [decide_eq_true hin] at cb
                  clear hin
                  go_wp2
                  go_quiet (fail)
                  go_wp2
                  go_roundw
                  case rel => exact ⟨i + 1, by omega, by go_num, HA.out.drewN _⟩
                  case measure => simp [intOf] <;> omega
                · rw [if_neg hin] at cm
                  rw [decide_eq_false hin] at cb
                  clear hin
                  go_wp2
                  go_quiet (fail)
                  go_wp2
                  go_roundw
                  case rel => exact ⟨i + 1, by omega, by go_num, HA.out.drewN _⟩
                  case measure => simp [intOf] <;> omega
              · have hin : ¬ i ∈ T := fun h => by have := HLt.out i h; omega
                rw [decide_eq_false hin] at cb
                clear hin
                go_wp2
                go_roundw
                case rel => exact ⟨i + 1, by omega, by go_num, HA⟩
                case measure => simp [intOf] <;> omega
            · obtain rfl : i = 512 := by omega
              go_wp2
              go_ret
              exact ⟨rfl, HA.out.bel⟩
end Go.Proofs.Ytiafmghdiidniaa
