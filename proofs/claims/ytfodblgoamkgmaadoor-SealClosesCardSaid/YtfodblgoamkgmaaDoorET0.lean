/-
  THE WALK of the reference's Turned.
-/
import Derived.Test.YtfodblgoamkgmaaDoorES
import Derived.Test.YtfodblgoamkgmaaDoorEJ
import Derived.Deep.OwnRows
namespace Go.Proofs.YtfodblgoamkgmaaDoor
open Go.RowKit Aes

/-- What the rounds read, and never turn: the words, the box. -/
structure Reads (w W : World) (ub xb : Nat) (vs : List Value) (ws : List (List UInt8)) : Prop where
  ul : ub < w.heap.size
  us : Sees W ub 0 vs
  vals : Vals W vs ws
  xl : xb < w.heap.size
  xs : Sees W xb 0 (SBL.map V8)
  bel : Below w.heap.size w W

theorem Aadd_own (B vb vc ub uc r : Nat) (hr : r ≤ 10) (b : List UInt8) (hbl : b.length = 16) (ws : List (List UInt8)) (hwl : ws.length = 44) (hw4 : ∀ x ∈ ws, x.length = 4) (vs : List Value) (w : World) (i : Int) (hi : i = (r : Int)) (hB : B ≤ w.heap.size)
    (hvl : vb < w.heap.size) (hv : Sees w vb 0 (b.map V8)) (hul : ub < w.heap.size) (hus : Sees w ub 0 vs) (hvals : Vals w vs ws) :
    Calls Tryd.prog 55 #[.slice (some ⟨vb, 0, none⟩) 16 vc, .slice (some ⟨ub, 0, none⟩) 44 uc, .int .i64 i] w fun e w' => ∃ g cap, e = .returned (.slice (some ⟨g, 0, none⟩) 16 cap) ∧ 16 ≤ cap ∧ B ≤ g ∧ g < w'.heap.size ∧ Hid (Sees w' g 0 ((xorL b ((ws.flatten.drop (16 * r)).take 16)).map V8)) ∧ Below w.heap.size w w' := by
  subst hi
  refine (Aadd_some vb 0 vc ub 0 uc r hr b hbl ws hwl hw4 vs w hvl hv hul hus hvals).mono fun e w' ⟨v, he, ho, hb⟩ => ?_
  have hl : ((xorL b ((ws.flatten.drop (16 * r)).take 16)).map V8).length = 16 := by
    rw [List.length_map]
    exact xorL_length _ _ 16 hbl (by rw [List.length_take, List.length_drop, flat_length ws hw4, hwl]; omega)
  obtain ⟨g, cap, rfl, h1, h2, hcap, h3⟩ := ho.out.form_cap (by rw [hl]; omega)
  rw [hl] at he hcap
  exact ⟨g, cap, he, hcap, by omega, h2, h3, hb⟩

theorem Vals.belowB {w w' : World} {vs : List Value} {ps : List (List UInt8)} (h : Vals w vs ps) (hb : Below w.heap.size w w') : Vals w' vs ps := h.below hb
theorem make16 (W : World) : (Instr.makeSlice 22 (.int .i64 16) (.int .i64 16)).run Tryd.prog W = .ok (.slice (some ⟨W.heap.size, 0, none⟩) 16 16) (W.alloc (.cells Z16.toArray 5)) := by
  have h := run_make_row' (P := Tryd.prog) 22 5 (.int .u8 0) 1 Tryd.underlying22 info8 rfl .i64 .i64 16 (by decide) (by decide) W
  rw [show madeCells #[Value.int .u8 0] 16 = Z16.toArray from by kernel_rfl] at h
  exact h

theorem sh_at (b : List UInt8) (hb : b.length = 16) (c n : Nat) (hc : c < 4) (hn : n < 4) : (shR (subB b)).getD (4 * c + n) 0 = sb (b.getD (4 * ((c + n) % 4) + n) 0) := by
  rw [shR_at _ _ (by omega), show shAt (4 * c + n) = 4 * ((c + n) % 4) + n by unfold shAt; omega, subB_at b _ (by omega)]
theorem mix_at (s : List UInt8) (c n : Nat) (hc : c < 4) (hn : n < 4) : (mixC s).getD (4 * c + n) 0 = dbl (s.getD (4 * c + n) 0) ^^^ tpl (s.getD (4 * c + (n + 1) % 4) 0) ^^^ s.getD (4 * c + (n + 2) % 4) 0 ^^^ s.getD (4 * c + (n + 3) % 4) 0 := by
  rw [mixC_at s _ (by omega), mixAt, show 4 * ((4 * c + n) / 4) = 4 * c by omega, show (4 * c + n + 1) % 4 = (n + 1) % 4 by omega, show (4 * c + n + 2) % 4 = (n + 2) % 4 by omega, show (4 * c + n + 3) % 4 = (n + 3) % 4 by omega]
def mulI (x : UInt8) (k : Int) : UInt8 := if k = 2 then dbl x else tpl x
theorem mulI_two (x : UInt8) : mulI x 2 = dbl x := rfl
theorem mulI_three (x : UInt8) : mulI x 3 = tpl x := rfl
theorem Mul_still (x : UInt8) (k : Int) (h : k = 2 ∨ k = 3) (w : World) : Calls Tryd.prog 47 #[.int .u8 x.toNat, .int .u8 k] w fun e w' => e = .returned (.int .u8 (mulI x k).toNat) ∧ w' = w := by
  rcases h with rfl | rfl
  · exact (Mul_two x w).mono fun _ _ h => ⟨h.1, h.2.symm⟩
  · exact (Mul_three x w).mono fun _ _ h => ⟨h.1, h.2.symm⟩
theorem col_at (c n : Nat) (hc : c < 4) (hn : n < 4) : ∃ a : Nat, IntKind.i64.wrap (4 * (c : Int)) = (a : Int) ∧ ∃ q0 : Nat, IntKind.i64.wrap ((a : Int) + (n : Int)) = (q0 : Int) ∧
    ∃ n1 : Nat, IntKind.i64.wrap ((n : Int) + 1) = (n1 : Int) ∧ ∃ n2 : Nat, IntKind.i64.wrap ((n : Int) + 2) = (n2 : Int) ∧ ∃ n3 : Nat, IntKind.i64.wrap ((n : Int) + 3) = (n3 : Int) ∧
    ∃ m1 : Nat, (n1 : Int).tmod 4 = (m1 : Int) ∧ ∃ m2 : Nat, (n2 : Int).tmod 4 = (m2 : Int) ∧ ∃ m3 : Nat, (n3 : Int).tmod 4 = (m3 : Int) ∧
    ∃ q1 : Nat, IntKind.i64.wrap ((a : Int) + (m1 : Int)) = (q1 : Int) ∧ ∃ q2 : Nat, IntKind.i64.wrap ((a : Int) + (m2 : Int)) = (q2 : Int) ∧ ∃ q3 : Nat, IntKind.i64.wrap ((a : Int) + (m3 : Int)) = (q3 : Int) ∧
    q0 = 4 * c + n ∧ q1 = 4 * c + (n + 1) % 4 ∧ q2 = 4 * c + (n + 2) % 4 ∧ q3 = 4 * c + (n + 3) % 4 := by
  refine ⟨4 * c, by rw [IntWalk.i64_in _ (by omega)]; omega, 4 * c + n, by rw [IntWalk.i64_in _ (by omega)]; omega, n + 1, by rw [IntWalk.i64_in _ (by omega)]; omega, n + 2, by rw [IntWalk.i64_in _ (by omega)]; omega, n + 3, by rw [IntWalk.i64_in _ (by omega)]; omega,
    (n + 1) % 4, by rw [Int.tmod_eq_emod_of_nonneg (by omega)]; omega, (n + 2) % 4, by rw [Int.tmod_eq_emod_of_nonneg (by omega)]; omega, (n + 3) % 4, by rw [Int.tmod_eq_emod_of_nonneg (by omega)]; omega,
    4 * c + (n + 1) % 4, by rw [IntWalk.i64_in _ (by omega)]; omega, 4 * c + (n + 2) % 4, by rw [IntWalk.i64_in _ (by omega)]; omega, 4 * c + (n + 3) % 4, by rw [IntWalk.i64_in _ (by omega)]; omega, rfl, rfl, rfl, rfl⟩

set_option maxRecDepth 100000 in
set_option maxHeartbeats 1000000 in
theorem Turned_any (ub uc bb bc xb xc : Nat) (key b : List UInt8) (hk : key.length = 16) (hbl : b.length = 16) (vs : List Value) (w : World) (hul : ub < w.heap.size) (hus : Sees w ub 0 vs) (hvals : Vals w vs (wkK key 44))
    (hbb : bb < w.heap.size) (hb : Sees w bb 0 (b.map V8)) (hxb : xb < w.heap.size) (hx : Sees w xb 0 (SBL.map V8)) :
    Calls Tryd.prog 45 #[.slice (some ⟨ub, 0, none⟩) 44 uc, .slice (some ⟨bb, 0, none⟩) 16 bc, .slice (some ⟨xb, 0, none⟩) 256 xc] w fun e w' => ∃ v, e = .returned v ∧ Hid (Arg w' v (enc key b)) ∧ Below w.heap.size w w' := by
  have HKL := Lib.hid hk
  have HBl := Lib.hid hbl
  have HU := Lib.hid hus
  have HVa := Lib.hid hvals
  have HX := Lib.hid hx
  have HB := Lib.hid hb
  clear hk hbl hus hvals hx hb
  go_enter Tryd.func45, Tryd.ntmps45
  go_wp2_with fail
  refine (Aadd_own w.heap.size bb bc ub uc 0 (by omega) b HBl.out (wkK key 44) (wkK_length _ _) (wkK_four key HKL.out 44) vs w 0 rfl (Nat.le_refl _) hbb HB.out hul HU.out HVa.out).mono ?_
  rintro e w1 ⟨g1, cap1, rfl, hcp1, hg1, hgl1, Hs1, hb1⟩
  have Hst : Hid (Sees w1 g1 0 ((stK key b 0).map V8)) := Hs1
  clear Hs1 HB
  go_wp2
  go_loopw [7, 8, 9, 10, 11, 12, 13] (fun v i _ _ _ _ _ wr => ∃ (r g cap : Nat), r ≤ 10 ∧ i = .int .i64 ((r : Int) + 1) ∧ v = .slice (some ⟨g, 0, none⟩) 16 cap ∧ 16 ≤ cap ∧ w.heap.size ≤ g ∧ g < wr.heap.size ∧ Hid (Sees wr g 0 ((stK key b r).map V8)) ∧ Below w.heap.size w wr) (fun _ i _ _ _ _ _ _ => 11 - (intOf i).toNat)
  case atStart => exact ⟨0, g1, cap1, by omega, rfl, rfl, hcp1, hg1, hgl1, Hst, hb1⟩
  case round =>
    clear Hst hgl1 hg1 hb1 hcp1
    obtain ⟨r, g, cap, hr, rfl, rfl, hcap, hg, hgl, Hst, hbel⟩ := hrel
    revert hgl Hst hbel
    generalize wr = w0
    intro hgl Hst hbel
    rcases Nat.lt_or_ge r 10 with hlt | hge
    · have hmk := make16
      obtain ⟨sB, hsB⟩ : ∃ sB, sB = stK key b r := ⟨_, rfl⟩
      have HsB := Lib.hid hsB
      have Hsl : Hid (sB.length = 16) := by rw [hsB]; exact st_length key b HKL.out HBl.out r (by omega)
      rw [← hsB] at Hst
      clear hsB
      have Hl1 : Hid ((List.replicate 16 (0 : UInt8)).length = (shR (subB sB)).length) := by show _ = _; rw [shR_length, List.length_replicate]
      have Hl2 : Hid ((shR (subB sB)).length = 16) := shR_length _
      go_wp2
      obtain ⟨G, hG⟩ : ∃ G, G = w0.heap.size := ⟨_, rfl⟩
      have hrow0 : Row (w0.alloc (.cells Z16.toArray 5)) G 5 ((upd (shR (subB sB)) (List.replicate 16 0) 0).map V8) := by rw [upd_zero, ← Z16_eq]; exact Row.newAt _ Z16 hG.symm
      have hbA : Below w0.heap.size w0 (w0.alloc (.cells Z16.toArray 5)) := (Below.refl _ _).alloc (Nat.le_refl _) _
      have hGg : w0.heap.size ≤ G := by omega
      rw [← hG]
      clear hG
      have hw0 := hbel.size
      go_loopw [10, 11] (fun ci _ W => ∃ c : Nat, c ≤ 4 ∧ ci = .int .i64 c ∧ Row W G 5 ((upd (shR (subB sB)) (List.replicate 16 0) (4 * c)).map V8) ∧ Below w0.heap.size w0 W) (fun ci _ _ => 4 - (intOf ci).toNat)
      case atStart => exact ⟨0, by omega, rfl, hrow0, hbA⟩
      case round =>
        clear hrow0 hbA
        obtain ⟨c, hc, rfl, hrowc, hbc⟩ := hrel
        by_cases hc4 : c < 4
        · clear hmk
          go_wp2
          go_loopw [11] (fun ni W => ∃ n : Nat, n ≤ 4 ∧ ni = .int .i64 n ∧ Row W G 5 ((upd (shR (subB sB)) (List.replicate 16 0) (4 * c + n)).map V8) ∧ Below w0.heap.size w0 W) (fun ni _ => 4 - (intOf ni).toNat)
          case atStart => exact ⟨0, by omega, rfl, hrowc, hbc⟩
          case round =>
            clear hrowc hbc
            obtain ⟨n, hn, rfl, hrown, hbn⟩ := hrel
            by_cases hn4 : n < 4
            · have HN := Lib.hid (sh_at sB Hsl.out c n hc4 hn4)
              have c1 : wr.cell? ⟨g, 4 * ((c + n) % 4) + n, none⟩ = some (.int .u8 (sB.getD (4 * ((c + n) % 4) + n) 0).toNat) := by
                have := at8 (Hst.out.below hbn hgl) (4 * ((c + n) % 4) + n) (by rw [Hsl.out]; omega)
                rwa [Nat.zero_add] at this
              generalize sB.getD (4 * ((c + n) % 4) + n) 0 = x at *
              have c2 : wr.cell? ⟨xb, x.toNat, none⟩ = some (.int .u8 (sb x).toNat) := by
                have := at8 (HX.out.below (hbel.trans (hbn.mono hw0)) hxb) x.toNat (by rw [SBL_length]; exact lt8 x)
                rwa [Nat.zero_add, SBL_at] at this
              have hx := lt8 x
              have c3 : wr.cell? ⟨G, 4 * c + n, none⟩ = some (.int .u8 ((List.replicate 16 (0 : UInt8)).getD (4 * c + n) 0).toNat) := upd_cell hrown Hl1.out (4 * c + n) (Nat.le_refl _) (by rw [Hl2.out]; omega)
              have f3 : wr.frozen? ⟨G, 4 * c + n, none⟩ = false := hrown.free _
              generalize ((List.replicate 16 (0 : UInt8)).getD (4 * c + n) 0).toNat = z at *
              have Hrown := Lib.hid hrown
              clear hrown
              go_wp2
              go_roundw
              case rel => exact ⟨n + 1, by omega, by go_num, upd_put Hrown.out Hl1.out (by rw [Hl2.out]; omega) (by rw [HN.out]), hbn.setCell hGg _⟩
              case measure => simp [intOf]; omega
            · obtain rfl : n = 4 := by omega
              rw [show ((4 : Nat) : Int) = 4 from rfl]
              go_wp2
              go_roundw
              case rel => exact ⟨c + 1, by omega, by go_num, hrown, hbn⟩
              case measure => simp [intOf]; omega
        · obtain rfl : c = 4 := by omega
          rw [show ((4 : Nat) : Int) = 4 from rfl]
          have hfin : upd (shR (subB sB)) (List.replicate 16 0) (4 * 4) = shR (subB sB) := upd_all Hl2.out List.length_replicate
          rw [hfin] at hrowc
          clear hfin
          have hbX := hbc
          have hGl := hrowc.lt
          have HSG := Lib.hid hrowc.sees
          clear hrowc hbc
          rcases Nat.lt_or_ge r 9 with h9 | h9
          · revert hbX hGl HSG
            generalize wr = w5
            intro hbX hGl HSG
            obtain ⟨sS, hsS⟩ : ∃ sS, sS = shR (subB sB) := ⟨_, rfl⟩
            have HsS := Lib.hid hsS
            have HSl : Hid (sS.length = 16) := by rw [hsS]; exact Hl2.out
            rw [← hsS] at HSG
            clear hsS
            have Hm1 : Hid ((List.replicate 16 (0 : UInt8)).length = (mixC sS).length) := by show _ = _; rw [mixC_length, List.length_replicate]
            have Hm2 : Hid ((mixC sS).length = 16) := mixC_length _
            go_wp2
            obtain ⟨H, hH⟩ : ∃ H, H = w5.heap.size := ⟨_, rfl⟩
            have hrow0 : Row (w5.alloc (.cells Z16.toArray 5)) H 5 ((upd (mixC sS) (List.replicate 16 0) 0).map V8) := by rw [upd_zero, ← Z16_eq]; exact Row.newAt _ Z16 hH.symm
            have hbA : Below w5.heap.size w5 (w5.alloc (.cells Z16.toArray 5)) := (Below.refl _ _).alloc (Nat.le_refl _) _
            have hHg : w5.heap.size ≤ H := by omega
            rw [← hH]
            clear hH hmk
            have hd1 : decide ((r : Int) + 1 ≤ 10) = true := by simp; omega
            have hd2 : decide ((r : Int) + 1 < 10) = true := by simp; omega
            try simp only [hd1, hd2]
            clear hd1 hd2
            go_loopw [12, 13] (fun ci _ W => ∃ c : Nat, c ≤ 4 ∧ ci = .int .i64 c ∧ Row W H 5 ((upd (mixC sS) (List.replicate 16 0) (4 * c)).map V8) ∧ Below w5.heap.size w5 W) (fun ci _ _ => 4 - (intOf ci).toNat)
            case atStart => exact ⟨0, by omega, rfl, hrow0, hbA⟩
            case round =>
              clear hrow0 hbA
              obtain ⟨c, hc, rfl, hrowc, hbc⟩ := hrel
              by_cases hc4 : c < 4
              · go_wp2
                have hd3 : decide ((c : Int) < 4) = true := by simp; omega
                simp only [hd3]
                clear hd3
                go_loopw [13] (fun ni W => ∃ n : Nat, n ≤ 4 ∧ ni = .int .i64 n ∧ Row W H 5 ((upd (mixC sS) (List.replicate 16 0) (4 * c + n)).map V8) ∧ Below w5.heap.size w5 W) (fun ni _ => 4 - (intOf ni).toNat)
                case atStart => exact ⟨0, by omega, rfl, hrowc, hbc⟩
                case round =>
                  clear hrowc hbc
                  obtain ⟨n, hn, rfl, hrown, hbn⟩ := hrel
                  by_cases hn4 : n < 4
                  · have HN := Lib.hid (mix_at sS c n hc4 hn4)
                    obtain ⟨a, ea, q0, e0, n1, f1, n2, f2, n3, f3, m1, d1, m2, d2, m3, d3, q1, e1, q2, e2, q3, e3, h0, h1, h2, h3⟩ := col_at c n hc4 hn4
                    have hcell : ∀ q, q < 16 → wr.cell? ⟨G, q, none⟩ = some (.int .u8 (sS.getD q 0).toNat) := fun q hq => by
                      have := at8 (HSG.out.below hbn hGl) q (by rw [HSl.out]; exact hq)
                      rwa [Nat.zero_add] at this
                    have c0 := hcell q0 (by omega)
                    have c1 := hcell q1 (by omega)
                    have c2 := hcell q2 (by omega)
                    have c3 := hcell q3 (by omega)
                    rw [← h0, ← h1, ← h2, ← h3] at HN
                    rw [← h0] at hrown
                    have ct : wr.cell? ⟨H, q0, none⟩ = some (.int .u8 ((List.replicate 16 (0 : UInt8)).getD q0 0).toNat) := upd_cell hrown Hm1.out q0 (Nat.le_refl _) (by rw [Hm2.out]; omega)
                    have ft : wr.frozen? ⟨H, q0, none⟩ = false := hrown.free _
                    generalize ((List.replicate 16 (0 : UInt8)).getD q0 0).toNat = z at *
                    generalize sS.getD q0 0 = x0 at *
                    generalize sS.getD q1 0 = x1 at *
                    generalize sS.getD q2 0 = x2 at *
                    generalize sS.getD q3 0 = x3 at *
                    have Hrown := Lib.hid hrown
                    have Hq := Lib.hid h0
                    have hq0 : (q0 : Int) < 16 := by omega
                    have hq1 : (q1 : Int) < 16 := by omega
                    have hq2 : (q2 : Int) < 16 := by omega
                    have hq3 : (q3 : Int) < 16 := by omega
                    clear hrown hcell h0 h1 h2 h3
                    go_wp2
                    refine wp_region_still_tail 45 (by kernel_rfl) (by kernel_rfl) ?_
                    simp only [List.take_succ_cons, List.take_zero, List.drop_succ_cons, List.drop_zero]
                    repeat (first
                      | still_step
                      | (refine wpStill_step (fun K hK => ?_); go_simp; (with_reducible refine ⟨_, Mul_still _ _ (by decide) _, hK _ ?_⟩); clear hK K))
                    refine wpStill_nil ?_
                    clear ea e0 f1 f2 f3 d1 d2 d3 e1 e2 e3 c0 c1 c2 c3 hq1 hq2 hq3
                    go_wp2
                    go_roundw
                    case rel =>
                      refine ⟨n + 1, by omega, by go_num, ?_, (below_drewN hbn 1).setCell hHg _⟩
                      rw [show 4 * c + (n + 1) = q0 + 1 by have := Hq.out; omega]
                      exact upd_put Hrown.out.drew Hm1.out (by rw [Hm2.out]; have := Hq.out; omega) (by rw [HN.out, mulI_two, mulI_three, xor8, xor8, xor8])
                    case measure => simp [intOf]; omega
                  · obtain rfl : n = 4 := by omega
                    rw [show ((4 : Nat) : Int) = 4 from rfl]
                    go_wp2
                    go_roundw
                    case rel => exact ⟨c + 1, by omega, by go_num, hrown, hbn⟩
                    case measure => simp [intOf]; omega
              · obtain rfl : c = 4 := by omega
                rw [show ((4 : Nat) : Int) = 4 from rfl]
                have hfin : upd (mixC sS) (List.replicate 16 0) (4 * 4) = mixC sS := upd_all Hm2.out List.length_replicate
                rw [hfin] at hrowc
                clear hfin
                have hHl := hrowc.lt
                have HSH := Lib.hid hrowc.sees
                clear hrowc
                have hbY : Below w0.heap.size w0 wr := hbX.trans (hbc.mono hbX.size)
                clear hbX hbc
                go_wp2_with fail
                have hbw := hbel.trans (hbY.mono hbel.size)
                refine (Aadd_own w.heap.size H 16 ub uc (r + 1) (by omega) (mixC sS) Hm2.out (wkK key 44) (wkK_length _ _) (wkK_four key HKL.out 44) vs wr ((r : Int) + 1) (by omega) hbw.size hHl HSH.out (Nat.lt_of_lt_of_le hul hbw.size) (HU.out.below hbw hul) (HVa.out.belowB hbw)).mono ?_
                rintro e w9 ⟨g9, cap9, rfl, hcp9, hg9, hgl9, Hs9, hb9⟩
                have Hs10 : Hid (Sees w9 g9 0 ((stK key b (r + 1)).map V8)) := by
                  rw [stK_mid key b r h9, ← HsB.out, ← HsS.out]; exact Hs9.out
                have hbz := hbw.trans (hb9.mono hbw.size)
                clear Hs9
                go_wp2
                go_roundw
                case rel => exact ⟨r + 1, g9, cap9, by omega, by go_num, rfl, hcp9, hg9, hgl9, Hs10, hbz⟩
                case measure => simp [intOf]; omega
          · clear hmk
            go_wp2_with fail
            have hbw := hbel.trans (hbX.mono hbel.size)
            refine (Aadd_own w.heap.size G 16 ub uc (r + 1) (by omega) (shR (subB sB)) Hl2.out (wkK key 44) (wkK_length _ _) (wkK_four key HKL.out 44) vs wr ((r : Int) + 1) (by omega) hbw.size hGl HSG.out (Nat.lt_of_lt_of_le hul hbw.size) (HU.out.below hbw hul) (HVa.out.belowB hbw)).mono ?_
            rintro e w9 ⟨g9, cap9, rfl, hcp9, hg9, hgl9, Hs9, hb9⟩
            have Hs10 : Hid (Sees w9 g9 0 ((stK key b (r + 1)).map V8)) := by
              rw [stK_last key b r (by omega), ← HsB.out]; exact Hs9.out
            have hbz := hbw.trans (hb9.mono hbw.size)
            clear Hs9
            go_wp2
            go_roundw
            case rel => exact ⟨r + 1, g9, cap9, by omega, by go_num, rfl, hcp9, hg9, hgl9, Hs10, hbz⟩
            case measure => simp [intOf]; omega
    · have HE : Hid (stK key b r = enc key b) := stK_enc key b r (by omega)
      rw [HE.out] at Hst
      clear HE
      go_wp2
      go_ret
      exact ⟨_, rfl, .inr ⟨g, 0, cap, by rw [enc_length key b HKL.out HBl.out]; rfl, hgl, by rw [enc_length key b HKL.out HBl.out]; exact hcap, Hst.out⟩, hbel⟩

theorem Rowed.vals {B : Nat} {W : World} {v : Value} {ps : List (List UInt8)} (h : Rowed B W v ps) (hp : 0 < ps.length) : ∃ g cap vs, v = .slice (some ⟨g, 0, none⟩) ps.length cap ∧ g < W.heap.size ∧ Sees W g 0 vs ∧ Vals W vs ps := by
  obtain ⟨vs, ho, hl, hw⟩ := h
  obtain ⟨g, cap, e, _, hg, hs⟩ := ho.form (by omega)
  refine ⟨g, cap, vs, by rw [e, hl], hg, hs, hl, fun j u p hu hq => ?_⟩
  obtain ⟨b, o, c, e1, hc, hlt, _, hs1⟩ := hw j u p hu hq
  exact .inr ⟨b, o, c, e1, hlt, hc, hs1⟩
end Go.Proofs.YtfodblgoamkgmaaDoor
