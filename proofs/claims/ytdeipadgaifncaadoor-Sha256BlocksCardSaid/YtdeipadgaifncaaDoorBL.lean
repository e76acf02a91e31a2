/-
  THE WALK of the law Sha256Blocks.
-/
import Derived.Test.YtdeipadgaifncaaDoorZ
import Derived.Test.YtdeipadgaifncaaDoorBP
namespace Go.Proofs.YtdeipadgaifncaaDoor
open Go.RowKit Sha

set_option maxRecDepth 100000 in
set_option maxHeartbeats 400000 in
theorem Blocks_long1 (A A' : Option Addr) (n cap n' cap' : Nat) (hn : 200 < n) (w : World) (h0 : 0 < w.heap.size) (hK : Sees w 0 0 (K0.map V32)) :
    Calls Tryd.prog 4 #[.slice A n cap, .slice A' n' cap'] w fun e w' => e = .returned (.bool true) ∧ Below w.heap.size w w' := by
  have HK := Lib.hid hK
  clear hK
  have hd : decide ((200 : Int) < (n : Int)) = true := by simp; omega
  go_enter Tryd.func4, Tryd.ntmps4
  go_wp2_with fail
  refine (knows_any w h0 HK.out).mono ?_
  rintro e w1 ⟨rfl, hb1⟩
  go_wp2
  go_ret
  exact ⟨rfl, hb1⟩

set_option maxRecDepth 100000 in
set_option maxHeartbeats 400000 in
theorem Blocks_long2 (A A' : Option Addr) (n cap n' cap' : Nat) (hn : n ≤ 200) (hn' : 200 < n') (w : World) (h0 : 0 < w.heap.size) (hK : Sees w 0 0 (K0.map V32)) :
    Calls Tryd.prog 4 #[.slice A n cap, .slice A' n' cap'] w fun e w' => e = .returned (.bool true) ∧ Below w.heap.size w w' := by
  have HK := Lib.hid hK
  clear hK
  have hd : decide ((200 : Int) < (n : Int)) = false := by simp; omega
  have hd' : decide ((200 : Int) < (n' : Int)) = true := by simp; omega
  go_enter Tryd.func4, Tryd.ntmps4
  go_wp2_with fail
  refine (knows_any w h0 HK.out).mono ?_
  rintro e w1 ⟨rfl, hb1⟩
  go_wp2
  go_ret
  exact ⟨rfl, hb1⟩

theorem Constants_var (w : World) :
    Calls Tryd.prog 9 #[] w fun e w' => ∃ gr cr gc cc, e = .returned (.tuple #[.slice (some ⟨gr, 0, none⟩) 8 cr, .slice (some ⟨gc, 0, none⟩) 64 cc]) ∧ gc < w'.heap.size ∧ Sees w' gc 0 (K0.map V32) ∧ Below w.heap.size w w' := by
  refine (Constants_any w).mono ?_
  rintro e w1 ⟨r, c, rfl, hr, hc, hb1⟩
  obtain ⟨g1, c1, hv1, _, hl1, hs1⟩ := hr.form (by simp [St.list])
  obtain ⟨g2, c2, hv2, _, hl2, hs2⟩ := hc.form (by rw [List.length_map]; exact Nat.lt_of_lt_of_eq (by omega) K0_length.symm)
  rw [List.length_map, show R0.list.length = 8 from rfl] at hv1
  rw [List.length_map, K0_length] at hv2
  exact ⟨g1, c1, g2, c2, by rw [hv1, hv2], hl2, hs2, hb1⟩

set_option maxRecDepth 100000 in
set_option maxHeartbeats 2000000 in
theorem Blocks_short (A A' : Option Addr) (n cap n' cap' : Nat) (a b : List UInt8) (hal : a.length = n) (hbl : b.length = n') (hn : n ≤ 200) (hn' : n' ≤ 200) (w : World) (h0 : 0 < w.heap.size) (hK : Sees w 0 0 (K0.map V32))
    (ha : Arg w (.slice A n cap) a) (hb : Arg w (.slice A' n' cap') b) :
    Calls Tryd.prog 4 #[.slice A n cap, .slice A' n' cap'] w fun e w' => e = .returned (.bool true) ∧ Below w.heap.size w w' := by
  have HK := Lib.hid hK
  have HA := Lib.hid ha
  have HB := Lib.hid hb
  have Hal := Lib.hid hal
  have Hbl := Lib.hid hbl
  have hd : decide ((200 : Int) < (n : Int)) = false := by simp; omega
  have hd' : decide ((200 : Int) < (n' : Int)) = false := by simp; omega
  obtain ⟨La, hLa⟩ : ∃ La, La = (filled a).length := ⟨_, rfl⟩
  have hLa1 : La ≤ 400 := by rw [hLa, filled_length, hal]; omega
  have hLa2 : 0 < La := by rw [hLa, filled_length]; omega
  have HLa := Lib.hid hLa
  have HLm : Hid (La % 64 = 0) := by rw [hLa]; exact filled_mod a
  clear hK ha hb hal hbl hLa
  have hz := zero32
  go_enter Tryd.func4, Tryd.ntmps4
  go_wp2_with fail
  refine (Filled_gen A n cap a Hal.out (by omega) w (arg_from HA.out)).mono ?_
  rintro e w1 ⟨v1, rfl, hown1, hb1⟩
  have hsz1 := hb1.size
  have HO1 := Lib.hid hown1
  have HF1 : Hid (From w1 (.slice A' n' cap') (b.map V8)) := (arg_from HB.out).below hb1
  have HL1 : Hid (((filled a).map V8).length + (b.map V8).length ≤ 100000000) := by show _ ≤ _; rw [List.length_map, List.length_map, Hbl.out, ← HLa.out]; omega
  have H18 := Lib.hid (oneC8 b)
  clear hown1
  go_wp2_with (at_builtin; refine wpList_app rfl (.tmp 29) (.tmp 30) 22 rfl w.heap.size 5 Tryd.underlying22 info8 rfl (by decide) _ ((filled a).map V8) rfl HO1.out _ (b.map V8) rfl HF1.out H18.out HL1.out hsz1 ?_; intro v2 w2 hown2 hg2 _)
  have hb2 : Below w.heap.size w w2 := below_app hb1 HO1.out hg2 (Nat.le_refl _) hsz1
  have hsz2 := hb2.size
  rw [← List.map_append] at hown2
  obtain ⟨X, hX⟩ : ∃ X, X = filled a ++ b := ⟨_, rfl⟩
  have HX := Lib.hid hX
  rw [← hX] at hown2
  have HXl : Hid (X.length = La + n') := by show _ = _; rw [hX, List.length_append, ← HLa.out, Hbl.out]
  clear hX
  obtain ⟨ga, ca, hv2, _, hgal, hca, hsee2⟩ := hown2.form_cap (by rw [List.length_map, HXl.out]; omega)
  rw [List.length_map, HXl.out] at hv2 hca
  rw [hv2]
  have HS2 := Lib.hid hsee2
  have HA2 : Hid (Arg w2 (.slice A n cap) a) := HA.out.below hb2
  have HK2 : Hid (Sees w2 0 0 (K0.map V32)) := HK.out.below hb2 h0
  clear hown2 hg2 hv2 hsee2 HO1 HF1 HL1 H18 HA HB HK hb1
  refine (Constants_var w2).mono ?_
  rintro e w3 ⟨gr, cr, gc, cc, rfl, hgc, hseec, hb3⟩
  have hsz3 := hb3.size
  have HC3 := Lib.hid hseec
  have HA3 : Hid (Arg w3 (.slice A n cap) a) := HA2.out.below hb3
  have HK3 : Hid (Sees w3 0 0 (K0.map V32)) := HK2.out.below hb3 (by omega)
  have HS3 : Hid (Sees w3 ga 0 (X.map V8)) := HS2.out.below hb3 hgal
  have hbw3 : Below w.heap.size w w3 := hb2.trans (hb3.mono hsz2)
  clear hseec HS2 HA2 HK2 hb2 hb3
  go_wp2_with fail
  refine (Sum_var _ a (by rw [Hal.out]; omega) w3 (by omega) HK3.out HA3.out).mono ?_
  rintro e w4 ⟨rs, Hrs, Hsz, Hone, rfl, hb4⟩
  have hsz4 := hb4.size
  go_wp2_with (refine wpList_store_row rfl 24 (.tmp 8) (.tmp 37) rfl w4.heap.size rs.toArray rfl rfl 24 _ (Row.new w4 _ Z32) (by rw [Hsz.out]; kernel_rfl) (by rw [Hsz.out]; rfl) Hone.out ?_)
  try go_frame
  refine leave_wp (fun w5 => Hid (Row w5 w4.heap.size 24 rs) ∧ Hid (Sees w5 gc 0 (K0.map V32)) ∧ Hid (Sees w5 ga 0 (X.map V8)) ∧ Hid (Sees w5 0 0 (K0.map V32)) ∧ Below w.heap.size w w5 ∧ w4.heap.size < w5.heap.size) ?_ ?_
  · have hb5 : Below w4.heap.size w4 ((w4.alloc (.cells Z32.toArray 24)).setRow w4.heap.size rs.toArray) := below_setRow' ((Below.refl _ _).alloc (Nat.le_refl _) _) (Nat.le_refl _) _
    have hb35 : Below w3.heap.size w3 ((w4.alloc (.cells Z32.toArray 24)).setRow w4.heap.size rs.toArray) := hb4.trans (hb5.mono hsz4)
    exact ⟨(Row.new w4 24 Z32).whole rs, HC3.out.below hb35 hgc, HS3.out.below hb35 (by omega), HK3.out.below hb35 (by omega), hbw3.trans (hb35.mono (by omega)), by simp⟩
  rintro w5 ⟨HR5, HC5, HS5, HK5, hbw5, hsz5⟩
  obtain ⟨S, hS⟩ : ∃ S, S = sumSt K0 a := ⟨_, rfl⟩
  have HSum := Lib.hid hS
  rw [← hS] at Hrs
  have hR5 : Row w5 w4.heap.size 24 ((pad8 32 (dig S)).map V8) := by
    have h8 := pad8_full (dig S)
    rw [dig_length] at h8
    rw [h8, ← Hrs.out]
    exact HR5.out
  have HR5' := Lib.hid hR5
  clear hS hR5 HR5 HC3 HS3 HK3 HA3 hbw3 hb4 hz Hrs Hsz Hone
  go_loopw [9, 10, 11, 12] (fun st i _ _ wr => ∃ j : Nat, j ≤ 8 ∧ i = .int .i64 j ∧ Own wr w5.heap.size 31 st ((S.list.take j).map V32) ∧ Below w5.heap.size w5 wr) (fun _ i _ _ _ => 8 - (intOf i).toNat)
  case atStart => exact ⟨0, by omega, rfl, Own.nil _ _ _, Below.refl _ _⟩
  case round =>
    obtain ⟨j, hj, rfl, hown, hbel⟩ := hrel
    have hszr := hbel.size
    by_cases hlt : j < 8
    · have HT := Lib.hid (list_take_succ S j hlt)
      have HL : Hid (((S.list.take j).map V32).length + 1 ≤ 100000000) := by show _ ≤ _; simp [St.list]; omega
      have Hown := Lib.hid hown
      clear hown
      have HD := fun k (hk : k < 4) => dig_get S j k hlt hk
      have Hc : Hid (∀ k, k < 4 → wr.cell? ⟨w4.heap.size, 4 * j + k, none⟩ = some (.int .u8 ([UInt8.ofNat ((S.list.getD j 0).toNat / 16777216), UInt8.ofNat ((S.list.getD j 0).toNat / 65536), UInt8.ofNat ((S.list.getD j 0).toNat / 256), UInt8.ofNat (S.list.getD j 0).toNat].getD k 0).toNat)) := by
        intro k hk
        rw [← HD k hk]
        exact cell8 (HR5'.out.below hbel hsz5) (4 * j + k) (by omega)
      have Hbe := Lib.hid (be_b4 (S.list.getD j 0))
      clear HD
      generalize S.list.getD j 0 = x at *
      generalize UInt8.ofNat (x.toNat / 16777216) = x0 at *
      generalize UInt8.ofNat (x.toNat / 65536) = x1 at *
      generalize UInt8.ofNat (x.toNat / 256) = x2 at *
      generalize UInt8.ofNat x.toNat = x3 at *
      go_wp2
      go_loop [11, 12] (fun n k => ∃ i : Nat, i ≤ 4 ∧ k = .int .i64 i ∧ n = .int .u32 (acc4 x0 x1 x2 x3 i).toNat) (fun _ k => 4 - (intOf k).toNat)
      case atStart => exact ⟨0, by omega, rfl, rfl⟩
      case round =>
        obtain ⟨i, hi, rfl, rfl⟩ := hrel
        by_cases hlt4 : i < 4
        · have hc := Hc.out i hlt4
          have Hst := Lib.hid (acc4_step x0 x1 x2 x3 i hlt4 _ rfl)
          generalize [x0, x1, x2, x3].getD i 0 = y at *
          go_wp2
          go_round
          case rel => exact ⟨i + 1, by omega, by go_num, int32 (by rw [← Hst.out]; omega)⟩
          case measure => simp [intOf]; omega
        · obtain rfl : i = 4 := by omega
          rw [show ((4 : Nat) : Int) = 4 from rfl]
          have e4 : acc4 x0 x1 x2 x3 4 = be x0 x1 x2 x3 := rfl
          rw [e4, Hbe.out]
          go_wp2_with (at_builtin; refine wpList_app rfl (.tmp 56) (.tmp 58) 28 rfl w5.heap.size 31 Tryd.underlying28 info32 rfl (by decide) _ ((S.list.take j).map V32) rfl (Hown.out.alloc _) _ [V32 x] rfl (from_new wr 31 [V32 x]) (oneC32 [x]) HL.out (by simp; omega) ?_; intro v' w1' hown1 hg1 _)
          go_roundw
          case rel =>
            refine ⟨j + 1, by omega, by go_num, ?_, ?_⟩
            · rw [HT.out, List.map_append]; exact hown1
            · exact below_app (hbel.alloc hszr _) (Hown.out.alloc _) hg1 (Nat.le_refl _) (by simp; omega)
          case measure => simp [intOf]; omega
    · obtain rfl : j = 8 := by omega
      rw [show ((8 : Nat) : Int) = 8 from rfl]
      obtain ⟨sb, sc, hvs, _, hsbl, hsees⟩ := hown.form (by simp [St.list])
      rw [show ((S.list.take 8).map V32).length = 8 from rfl] at hvs
      rw [show S.list.take 8 = S.list from rfl] at hsees
      rw [hvs]
      have HSt := Lib.hid hsees
      have HSx : Hid (Sees wr ga 0 (X.map V8)) := HS5.out.below hbel (by omega)
      have HCx : Hid (Sees wr gc 0 (K0.map V32)) := HC5.out.below hbel (by omega)
      have HKx : Hid (Sees wr 0 0 (K0.map V32)) := HK5.out.below hbel (by omega)
      have hbwx : Below w.heap.size w wr := hbw5.trans (hbel.mono (by omega))
      have hgax : ga < wr.heap.size := by omega
      have hgcx : gc < wr.heap.size := by omega
      have h0x : 0 < wr.heap.size := by omega
      clear hown hvs hsees hbel HS5 HC5 HK5 hbw5 HR5'
      go_wp2_with fail
      refine (Filled_gen (some ⟨ga, 0, none⟩) (La + n') ca X HXl.out (by omega) wr (.inr ⟨ga, 0, ca, by rw [List.length_map, HXl.out], hgax, HSx.out⟩)).mono ?_
      rintro e w6 ⟨v6, rfl, hown6, hb6⟩
      have hsz6 := hb6.size
      obtain ⟨Lw, hLw⟩ : ∃ Lw, Lw = (filled X).length := ⟨_, rfl⟩
      have HLwm : Hid (Lw % 64 = 0) := by rw [hLw]; exact filled_mod X
      have hLw1 : La + n' < Lw := by rw [hLw, filled_length, HXl.out]; omega
      have hLw2 : Lw ≤ 2000 := by rw [hLw, filled_length, HXl.out]; omega
      obtain ⟨gw, cw, hvw, _, hgwl, hcw, hseew⟩ := hown6.form_cap (by rw [List.length_map, ← hLw]; omega)
      rw [List.length_map, ← hLw] at hvw hcw
      rw [hvw]
      have HLw := Lib.hid hLw
      have HW6 := Lib.hid hseew
      have HSt6 : Hid (Sees w6 sb 0 (S.list.map V32)) := HSt.out.below hb6 hsbl
      have HS6 : Hid (Sees w6 ga 0 (X.map V8)) := HSx.out.below hb6 hgax
      have HC6 : Hid (Sees w6 gc 0 (K0.map V32)) := HCx.out.below hb6 hgcx
      have HK6 : Hid (Sees w6 0 0 (K0.map V32)) := HKx.out.below hb6 h0x
      have hbw6 : Below w.heap.size w w6 := hbwx.trans (hb6.mono hbwx.size)
      clear hLw hown6 hvw hseew hb6 HSt HSx HCx HKx hbwx
      go_wp2
      go_loopw [9, 14] (fun st at_ wr => ∃ k so sb sc : Nat, La + 64 * k ≤ Lw ∧ at_ = .int .i64 ((La + 64 * k : Nat) : Int) ∧ st = .slice (some ⟨sb, so, none⟩) 8 sc ∧ sb < wr.heap.size ∧ Hid (Sees wr sb so ((run K0 S ((filled X).drop La) k).list.map V32)) ∧ Below w6.heap.size w6 wr) (fun _ i _ => Lw - (intOf i).toNat)
      case atStart => exact ⟨0, 0, sb, sc, by omega, by go_num, rfl, by omega, HSt6.out, Below.refl _ _⟩
      case round =>
        obtain ⟨k, so, sb, sc, hk, rfl, rfl, hsbl, Hs, hbel⟩ := hrel
        have hszr := hbel.size
        by_cases hlt : La + 64 * k < Lw
        · have hk64 : La + 64 * k + 64 ≤ Lw := by have h1 := HLwm.out; have h2 := HLm.out; omega
          have Hpl : Hid ((((filled X).drop (La + 64 * k)).take 64).length = 64) := by show _ = _; rw [List.length_take, List.length_drop, ← HLw.out]; omega
          have HP : Hid (Sees wr gw (La + 64 * k) ((((filled X).drop (La + 64 * k)).take 64).map V8)) := by
            have h2 := (HW6.out.below hbel hgwl).piece (La + 64 * k) 64
            rwa [← List.map_drop, ← List.map_take, Nat.zero_add] at h2
          have Hrun : Hid (run K0 S ((filled X).drop La) (k + 1) = come K0 (run K0 S ((filled X).drop La) k) (((filled X).drop (La + 64 * k)).take 64)) := by show _ = _; rw [run, List.drop_drop]
          generalize run K0 S ((filled X).drop La) k = sk at *
          generalize ((filled X).drop (La + 64 * k)).take 64 = piece at *
          obtain ⟨q, hq⟩ : ∃ q, q = La + 64 * k := ⟨_, rfl⟩
          rw [← hq] at hk hlt hk64 HP ⊢
          have HQ := Lib.hid hq
          clear hq
          have hqc : q < cw := by omega
          have hqc2 : q + 64 ≤ cw := by omega
          go_wp2_with fail
          refine (Come_any sb so sc sk gw _ _ piece Hpl.out gc 0 cc K0 K0_length wr hsbl Hs.out (by omega) HP.out (by omega) (HC6.out.below hbel (by omega))).mono ?_
          rintro e w7 ⟨v7, rfl, hown7, hb7⟩
          obtain ⟨g7, c7, hv7, _, hg7l, hsee7⟩ := hown7.form (by simp [St.list])
          rw [show ((come K0 sk piece).list.map V32).length = 8 from rfl] at hv7
          rw [hv7]
          clear hown7 hv7
          go_wp2
          go_roundw
          case rel => exact ⟨k + 1, 0, g7, c7, by have := HQ.out; omega, by rw [HQ.out]; go_num, rfl, hg7l, by rw [Hrun.out]; exact hsee7, hbel.trans (hb7.mono hszr)⟩
          case measure => simp [intOf]; omega
        · have hk2 : k = (Lw - La) / 64 := by omega
          have Hfin : Hid (run K0 S ((filled X).drop La) k = sumSt K0 X) := by
            show _ = _
            have := blocks_eq a b
            rw [← HX.out, ← HLa.out, ← HSum.out, ← HLw.out, ← hk2] at this
            exact this
          rw [Hfin.out] at Hs
          obtain ⟨T, hT⟩ : ∃ T, T = sumSt K0 X := ⟨_, rfl⟩
          rw [← hT] at Hs
          have HT := Lib.hid hT
          obtain ⟨q, hq⟩ : ∃ q, q = La + 64 * k := ⟨_, rfl⟩
          rw [← hq] at hk hlt ⊢
          clear hT hq hk2 Hfin
          have HAx : Hid (Arg wr (.slice (some ⟨ga, 0, none⟩) (La + n') ca) X) := .inr ⟨ga, 0, ca, by rw [HXl.out], by omega, by rw [HXl.out]; exact hca, HS6.out.below hbel (by omega)⟩
          have HKx : Hid (Sees wr 0 0 (K0.map V32)) := HK6.out.below hbel (by omega)
          have hbwx : Below w.heap.size w wr := hbw6.trans (hbel.mono hbw6.size)
          have h0x : 0 < wr.heap.size := by omega
          have hz := zero32
          go_wp2_with fail
          refine (Sum_var _ X (by rw [HXl.out]; omega) wr h0x HKx.out HAx.out).mono ?_
          rintro e w8 ⟨rs, Hrs, Hsz, Hone, rfl, hb8⟩
          have hsz8 := hb8.size
          rw [← HT.out] at Hrs
          go_wp2_with (refine wpList_store_row rfl 24 (.tmp 15) (.tmp 82) rfl w8.heap.size rs.toArray rfl rfl 24 _ (Row.new w8 _ Z32) (by rw [Hsz.out]; kernel_rfl) (by rw [Hsz.out]; rfl) Hone.out ?_)
          try go_frame
          refine leave_wp (fun w9 => Hid (Row w9 w8.heap.size 24 ((pad8 32 (dig T)).map V8)) ∧ Hid (Sees w9 sb so (T.list.map V32)) ∧ Hid (Sees w9 0 0 (K0.map V32)) ∧ Below w.heap.size w w9 ∧ 0 < w9.heap.size) ?_ ?_
          · have hb9 : Below w8.heap.size w8 ((w8.alloc (.cells Z32.toArray 24)).setRow w8.heap.size rs.toArray) := below_setRow' ((Below.refl _ _).alloc (Nat.le_refl _) _) (Nat.le_refl _) _
            have hbr9 : Below wr.heap.size wr ((w8.alloc (.cells Z32.toArray 24)).setRow w8.heap.size rs.toArray) := hb8.trans (hb9.mono hsz8)
            refine ⟨?_, Hs.out.below hbr9 hsbl, HKx.out.below hbr9 h0x, hbwx.trans (hbr9.mono hbwx.size), by simp⟩
            have h8 := pad8_full (dig T)
            rw [dig_length] at h8
            rw [h8, ← Hrs.out]
            exact (Row.new w8 24 Z32).whole rs
          rintro w9 ⟨HR9, Hs9, HK9, hbw9, h09⟩
          clear hbel HW6 HSt6 HS6 HC6 HK6 hbw6 HAx HKx hbwx hz hb8 Hs Hrs Hsz Hone
          go_loop [16, 17, 18] (fun i _ _ => ∃ j : Nat, j ≤ 8 ∧ i = .int .i64 j) (fun i _ _ => 8 - (intOf i).toNat)
          case atStart => exact ⟨0, by omega, rfl⟩
          case round =>
            obtain ⟨j, hj, rfl⟩ := hrel
            by_cases hlt : j < 8
            · have gS : w9.cell? ⟨sb, so + j, none⟩ = some (.int .u32 (T.list.getD j 0).toNat) := at32 Hs9.out j (by simpa [St.list] using hlt)
              have HD := fun k (hk : k < 4) => dig_get T j k hlt hk
              have Hc : Hid (∀ k, k < 4 → w9.cell? ⟨w8.heap.size, 4 * j + k, none⟩ = some (.int .u8 ([UInt8.ofNat ((T.list.getD j 0).toNat / 16777216), UInt8.ofNat ((T.list.getD j 0).toNat / 65536), UInt8.ofNat ((T.list.getD j 0).toNat / 256), UInt8.ofNat (T.list.getD j 0).toNat].getD k 0).toNat)) := by
                intro k hk
                rw [← HD k hk]
                exact cell8 HR9.out (4 * j + k) (by omega)
              have Hbe := Lib.hid (be_b4 (T.list.getD j 0))
              clear HD
              generalize T.list.getD j 0 = x at *
              generalize UInt8.ofNat (x.toNat / 16777216) = x0 at *
              generalize UInt8.ofNat (x.toNat / 65536) = x1 at *
              generalize UInt8.ofNat (x.toNat / 256) = x2 at *
              generalize UInt8.ofNat x.toNat = x3 at *
              go_wp2
              go_loop [17, 18] (fun n k => ∃ i : Nat, i ≤ 4 ∧ k = .int .i64 i ∧ n = .int .u32 (acc4 x0 x1 x2 x3 i).toNat) (fun _ k => 4 - (intOf k).toNat)
              case atStart => exact ⟨0, by omega, rfl, rfl⟩
              case round =>
                obtain ⟨i, hi, rfl, rfl⟩ := hrel
                by_cases hlt4 : i < 4
                · have hc := Hc.out i hlt4
                  have Hst := Lib.hid (acc4_step x0 x1 x2 x3 i hlt4 _ rfl)
                  generalize [x0, x1, x2, x3].getD i 0 = y at *
                  go_wp2
                  go_round
                  case rel => exact ⟨i + 1, by omega, by go_num, int32 (by rw [← Hst.out]; omega)⟩
                  case measure => simp [intOf]; omega
                · obtain rfl : i = 4 := by omega
                  rw [show ((4 : Nat) : Int) = 4 from rfl]
                  have e4 : acc4 x0 x1 x2 x3 4 = be x0 x1 x2 x3 := rfl
                  rw [e4, Hbe.out]
                  have hne : ((x.toNat : Int) != x.toNat) = false := by simp
                  go_wp2
                  go_round
                  case rel => exact ⟨j + 1, by omega, by go_num⟩
                  case measure => simp [intOf]; omega
            · obtain rfl : j = 8 := by omega
              rw [show ((8 : Nat) : Int) = 8 from rfl]
              go_wp2_with fail
              refine (knows_any w9 h09 HK9.out).mono ?_
              rintro e w10 ⟨rfl, hb10⟩
              go_wp2
              go_ret
              exact ⟨rfl, hbw9.trans (hb10.mono hbw9.size)⟩
end Go.Proofs.YtdeipadgaifncaaDoor
