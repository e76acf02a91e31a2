/-
  THE WALK of the program's Get (written by wip/mkin13p.py).
-/
import Derived.Test.YtcpdhfgigopfoaaIX
namespace Go.Proofs.Ytcpdhfgigopfoaa
open Go.RowKit Cdc Inn

namespace Inn
theorem okG_widths (b : List UInt8) : okG widthsL b = decide (b.length = 8) := rfl
theorem getL_widths (b : List UInt8) (h : b.length = 8) : getL widthsL b = vals (dec b) := by
  have hg : okG widthsL b = true := by rw [okG_widths, decide_eq_true h]
  rw [getL, if_pos hg]
  match b, h with
  | [a0, a1, a2, a3, a4, a5, a6, a7], _ =>
    show [0 * 256 + a0.toNat, (0 * 256 + a1.toNat) * 256 + a2.toNat, 0 * 256 + a3.toNat, 0 * 256 + a4.toNat, 0 * 256 + a5.toNat, 0 * 256 + a6.toNat, 0 * 256 + a7.toNat] = [(a0.toNat : Int).toNat, (256 * (a1.toNat : Int) + (a2.toNat : Int)).toNat, (a3.toNat : Int).toNat, (a4.toNat : Int).toNat, (a5.toNat : Int).toNat, (a6.toNat : Int).toNat, (a7.toNat : Int).toNat]
    simp only [List.cons.injEq, and_true]
    omega
theorem vals_dec (b : List UInt8) (j : Nat) (hj : j < 4) : (dec b).l.getD (2 + j) 0 = (((vals (dec b)).getD (2 + j) 0 : Nat) : Int) ∧ (vals (dec b)).getD (2 + j) 0 < 256 := by
  have h := dec_block b j hj
  have h2 := vals_at (dec b) j (by omega)
  have h3 : (nm (dec b)).getD j 0 = (dec b).l.getD (2 + j) 0 := by rw [nm_l, Nat.add_comm]
  have h8 := lt8 (b.getD (3 + j) 0)
  rw [h2, h3, h]
  omega
theorem dec_heads (b : List UInt8) : (dec b).k = (((vals (dec b)).getD 0 0 : Nat) : Int) ∧ (dec b).b = (((vals (dec b)).getD 1 0 : Nat) : Int) ∧ (dec b).d = (((vals (dec b)).getD 6 0 : Nat) : Int) ∧ (vals (dec b)).getD 0 0 < 256 ∧ (vals (dec b)).getD 1 0 < 65536 ∧ (vals (dec b)).getD 6 0 < 256 := by
  have h0 := lt8 (b.getD 0 0)
  have h1 := lt8 (b.getD 1 0)
  have h2 := lt8 (b.getD 2 0)
  have h7 := lt8 (b.getD 7 0)
  have e0 : (vals (dec b)).getD 0 0 = (dec b).k.toNat := rfl
  have e1 : (vals (dec b)).getD 1 0 = (dec b).b.toNat := rfl
  have e6 : (vals (dec b)).getD 6 0 = (dec b).d.toNat := rfl
  have f0 : (dec b).k = ((b.getD 0 0).toNat : Int) := rfl
  have f1 : (dec b).b = 256 * ((b.getD 1 0).toNat : Int) + ((b.getD 2 0).toNat : Int) := rfl
  have f6 : (dec b).d = ((b.getD 7 0).toNat : Int) := rfl
  rw [e0, e1, e6, f0, f1, f6]
  omega
end Inn

set_option maxRecDepth 100000 in
set_option maxHeartbeats 4000000 in
theorem InGet_any (b : List UInt8) (v : Value) (w : World) (h : Arg w v b) :
    Calls Try.prog 12 #[v] w fun e w' => e = .returned (.tuple #[.agg (inoC (getI b)), .int .i64 (getE b)]) ∧ Below w.heap.size w w' := by
  obtain ⟨wa, hwa⟩ : ∃ wa, wa = w.alloc (.cells #[.int .i64 0, .int .i64 0, .int .i64 0, .int .i64 0, .int .i64 0, .int .i64 0, .int .i64 0] 24) := ⟨_, rfl⟩
  have HR : Hid (Row wa w.heap.size 24 Z7) := by rw [hwa]; exact Row.new w _ Z7
  have HC : Hid (Below w.heap.size w wa) := by rw [hwa]; exact (Below.refl _ _).alloc (Nat.le_refl _) _
  have HA : Hid (Arg wa v b) := h.below HC.out
  by_cases h8 : b.length = 8
  · obtain ⟨vl, hvl⟩ : ∃ vl, vl = vals (dec b) := ⟨_, rfl⟩
    have HVl : Hid (vl.length = 7) := by rw [hvl]; exact vals_len _
    have HNl := Lib.hid h8
    have HG : Hid (∀ u W, From W u (widthsL.map VI) → Arg W v b → Calls Try.prog 20 #[u, v] W fun e w' => ∃ r, e = .returned (.tuple #[r, .int .i64 0]) ∧ Hid (From w' r (vl.map VU)) ∧ Below W.heap.size W w') := fun u W h1 h2 => by
      have := KGet_any widthsL (by decide) b u v W h1 h2
      rw [okG_widths, decide_eq_true h8, getL_widths b h8, ← hvl] at this
      exact this
    have hhd := dec_heads b
    rw [← hvl] at hhd
    clear h h8
    go_enter Try.func12, Try.ntmps12
    go_wp2_with fail
    rw [← hwa]
    clear hwa
    refine (InWidths_any wa).mono ?_
    rintro e wb ⟨u, rfl, HU, hb⟩
    replace HR := Lib.hid (HR.out.below hb HR.out.lt)
    replace HC := Lib.hid (HC.out.trans (hb.mono HC.out.size))
    replace HA := Lib.hid (HA.out.below hb)
    clear hb
    go_wp2_with fail
    refine (HG.out u wb HU.out HA.out).mono ?_
    rintro e w0 ⟨r, rfl, HF, hb⟩
    replace HR := Lib.hid (HR.out.below hb HR.out.lt)
    replace HC := Lib.hid (HC.out.trans (hb.mono HC.out.size))
    clear hb HU HA HG
    obtain ⟨A, cap, rfl, hs⟩ := HF.out.parts
    rw [List.length_map] at hs ⊢
    rw [HVl.out] at hs ⊢
    obtain ⟨bb, o, rfl, hbb, hsee⟩ := hs (by omega)
    have HSee := Lib.hid hsee
    have HBB := Lib.hid hbb
    clear hs hsee hbb HF
    have HKeep : Hid (∀ W, Below w0.heap.size w0 W → W.cell? ⟨bb, o, none⟩ = some (.int .u64 ((vl.getD 0 0 : Nat) : Int)) ∧ W.cell? ⟨bb, o + 1, none⟩ = some (.int .u64 ((vl.getD 1 0 : Nat) : Int)) ∧ W.cell? ⟨bb, o + 6, none⟩ = some (.int .u64 ((vl.getD 6 0 : Nat) : Int))) := fun W hW => by
      have hs := HSee.out.below hW HBB.out
      have hl := HVl.out
      exact ⟨atU hs 0 (by omega), atU hs 1 (by omega), atU hs 6 (by omega)⟩
    obtain ⟨n0, hn0⟩ : ∃ n, n = vl.getD 0 0 := ⟨_, rfl⟩
    obtain ⟨n1, hn1⟩ : ∃ n, n = vl.getD 1 0 := ⟨_, rfl⟩
    obtain ⟨n6, hn6⟩ : ∃ n, n = vl.getD 6 0 := ⟨_, rfl⟩
    rw [← hn0, ← hn1, ← hn6] at hhd HKeep
    clear hn0 hn1 hn6
    obtain ⟨hh0, hh1, hh6, hl0, hl1, hl6⟩ := hhd
    have HOne : Hid (([.int .i64 (IntKind.i64.wrap (n0 : Int)), .int .i64 (IntKind.i64.wrap (n1 : Int)), .int .i64 0, .int .i64 0, .int .i64 0, .int .i64 0, .int .i64 (IntKind.i64.wrap (n6 : Int))] : List Value).toArray.all (·.oneCell') = true) := oneI [IntKind.i64.wrap (n0 : Int), IntKind.i64.wrap (n1 : Int), 0, 0, 0, 0, IntKind.i64.wrap (n6 : Int)]
    have HV0 : Hid (([.int .i64 (IntKind.i64.wrap (n0 : Int)), .int .i64 (IntKind.i64.wrap (n1 : Int)), .int .i64 0, .int .i64 0, .int .i64 0, .int .i64 0, .int .i64 (IntKind.i64.wrap (n6 : Int))] : List Value) = (part (dec b) 0).l.map VI) := by
      show _ = [VI (dec b).k, VI (dec b).b, VI 0, VI 0, VI 0, VI 0, VI (dec b).d]
      rw [hh0, hh1, hh6, wrap_i64 (n0 : Int) ⟨by omega, by omega⟩, wrap_i64 (n1 : Int) ⟨by omega, by omega⟩, wrap_i64 (n6 : Int) ⟨by omega, by omega⟩]
      rfl
    have HZ7 : Hid (([.int .i64 (IntKind.i64.wrap (n0 : Int)), .int .i64 (IntKind.i64.wrap (n1 : Int)), .int .i64 0, .int .i64 0, .int .i64 0, .int .i64 0, .int .i64 (IntKind.i64.wrap (n6 : Int))] : List Value).toArray.size = 7) := rfl
    clear hh0 hh1 hh6 hl0 hl1 hl6
    go_wp2
    have hC : Below w0.heap.size w0 w0.drew := below_drewN (Below.refl _ _) 1
    refine wp_region_held_drew (S := (fun W => W.cell? ⟨bb, o, none⟩ = some (.int .u64 (n0 : Int)) ∧ W.cell? ⟨bb, o + 1, none⟩ = some (.int .u64 (n1 : Int)) ∧ W.cell? ⟨bb, o + 6, none⟩ = some (.int .u64 (n6 : Int)))) (by kernel_rfl) (HKeep.out _ hC) (fun hHeld => ?_)
    generalize w0.drew = w0d at *
    refine wpAnyH_take (i := 0) (oi := ⟨some 17, _, _, _, _, _⟩) (v := ?_) rfl (by kernel_rfl) (by kernel_rfl) (by kernel_rfl) (fun _ _ _ h => h) (Or.inl ⟨by rfl, ?_⟩) hHeld ?_
    rotate_left
    · intro w hSw
      go_simp
      with_reducible rfl
    try go_frame
    refine wpAnyH_take (i := 1) (oi := ⟨some 18, _, _, _, _, _⟩) (v := ?_) rfl (by kernel_rfl) (by kernel_rfl) (by kernel_rfl) (fun _ _ _ h => h) (Or.inl ⟨by rfl, ?_⟩) hHeld ?_
    rotate_left
    · intro w hSw
      go_simp
      with_reducible rfl
    try go_frame
    refine wpAnyH_take (i := 2) (oi := ⟨some 19, _, _, _, _, _⟩) (v := ?_) rfl (by kernel_rfl) (by kernel_rfl) (by kernel_rfl) (fun _ _ _ h => h) (Or.inl ⟨by rfl, ?_⟩) hHeld ?_
    rotate_left
    · intro w hSw
      obtain ⟨s0, s1, s2⟩ := hSw
      go_simp
      with_reducible rfl
    try go_frame
    refine wpAnyH_take (i := 3) (oi := ⟨some 20, _, _, _, _, _⟩) (v := ?_) rfl (by kernel_rfl) (by kernel_rfl) (by kernel_rfl) (fun _ _ _ h => h) (Or.inl ⟨by rfl, ?_⟩) hHeld ?_
    rotate_left
    · intro w hSw
      go_simp
      with_reducible rfl
    try go_frame
    refine wpAnyH_take (i := 4) (oi := ⟨some 21, _, _, _, _, _⟩) (v := ?_) rfl (by kernel_rfl) (by kernel_rfl) (by kernel_rfl) (fun _ _ _ h => h) (Or.inl ⟨by rfl, ?_⟩) hHeld ?_
    rotate_left
    · intro w hSw
      go_simp
      with_reducible rfl
    try go_frame
    refine wpAnyH_take (i := 5) (oi := ⟨some 22, _, _, _, _, _⟩) (v := ?_) rfl (by kernel_rfl) (by kernel_rfl) (by kernel_rfl) (fun _ _ _ h => h) (Or.inl ⟨by rfl, ?_⟩) hHeld ?_
    rotate_left
    · intro w hSw
      go_simp
      with_reducible rfl
    try go_frame
    refine wpAnyH_take (i := 6) (oi := ⟨some 23, _, _, _, _, _⟩) (v := ?_) rfl (by kernel_rfl) (by kernel_rfl) (by kernel_rfl) (fun _ _ _ h => h) (Or.inl ⟨by rfl, ?_⟩) hHeld ?_
    rotate_left
    · intro w hSw
      obtain ⟨s0, s1, s2⟩ := hSw
      go_simp
      with_reducible rfl
    try go_frame
    refine wpAnyH_take (i := 7) (oi := ⟨some 24, _, _, _, _, _⟩) (v := ?_) rfl (by kernel_rfl) (by kernel_rfl) (by kernel_rfl) (fun _ _ _ h => h) (Or.inl ⟨by rfl, ?_⟩) hHeld ?_
    rotate_left
    · intro w hSw
      go_simp
      with_reducible rfl
    try go_frame
    refine wpAnyH_take (i := 8) (oi := ⟨some 25, _, _, _, _, _⟩) (v := ?_) rfl (by kernel_rfl) (by kernel_rfl) (by kernel_rfl) (fun _ _ _ h => h) (Or.inl ⟨by rfl, ?_⟩) hHeld ?_
    rotate_left
    · intro w hSw
      go_simp
      with_reducible rfl
    try go_frame
    refine wpAnyH_take (i := 9) (oi := ⟨some 26, _, _, _, _, _⟩) (v := ?_) rfl (by kernel_rfl) (by kernel_rfl) (by kernel_rfl) (fun _ _ _ h => h) (Or.inl ⟨by rfl, ?_⟩) hHeld ?_
    rotate_left
    · intro w hSw
      go_simp
      with_reducible rfl
    try go_frame
    refine wpAnyH_take (i := 10) (oi := ⟨some 27, _, _, _, _, _⟩) (v := ?_) rfl (by kernel_rfl) (by kernel_rfl) (by kernel_rfl) (fun _ _ _ h => h) (Or.inl ⟨by rfl, ?_⟩) hHeld ?_
    rotate_left
    · intro w hSw
      obtain ⟨s0, s1, s2⟩ := hSw
      go_simp
      with_reducible rfl
    try go_frame
    refine wpAnyH_take (i := 11) (oi := ⟨some 28, _, _, _, _, _⟩) (v := ?_) rfl (by kernel_rfl) (by kernel_rfl) (by kernel_rfl) (fun _ _ _ h => h) (Or.inl ⟨by rfl, ?_⟩) hHeld ?_
    rotate_left
    · intro w hSw
      go_simp
      with_reducible rfl
    try go_frame
    refine wpAnyH_take (i := 12) (oi := ⟨some 29, _, _, _, _, _⟩) (v := ?_) rfl (by kernel_rfl) (by kernel_rfl) (by kernel_rfl) (fun _ _ _ h => h) (Or.inl ⟨by rfl, ?_⟩) hHeld ?_
    rotate_left
    · intro w hSw
      go_simp
      with_reducible rfl
    try go_frame
    refine wpAnyH_ready (rs := [13]) (by kernel_rfl) (by simp) ?_
    refine AllReadyH.cons (o := ⟨some 6, _, _, _, _, _⟩) rfl (fun K hK => ?_) AllReadyH.nil
    go_simp
    have hb : Below w0d.heap.size w0d (w0d.alloc (.cells #[.int .i64 0, .int .i64 0, .int .i64 0, .int .i64 0, .int .i64 0, .int .i64 0, .int .i64 0] 24)) := Joins.below_alloc1 _ _
    have hg_al := hC.size
    obtain ⟨g_al, Hg_al⟩ : ∃ g, Hid (g = w0d.heap.size) := ⟨_, rfl⟩
    have R_al : Hid (Row (w0d.alloc (.cells #[.int .i64 0, .int .i64 0, .int .i64 0, .int .i64 0, .int .i64 0, .int .i64 0, .int .i64 0] 24)) w0d.heap.size 24 Z7) := Row.new w0d 24 Z7
    replace hC := hC.trans (hb.mono hC.size)
    refine hK.out _ _ (HKeep.out _ hC) (fun hHeld => ?_)
    clear hK K hb
    generalize (w0d.alloc (.cells #[.int .i64 0, .int .i64 0, .int .i64 0, .int .i64 0, .int .i64 0, .int .i64 0, .int .i64 0] 24)) = w0d_al at *
    rw [← Hg_al.out] at hg_al ⊢
    rw [← Hg_al.out] at R_al
    clear Hg_al
    try go_frame
    refine wpAnyH_ready (rs := [14]) (by kernel_rfl) (by simp) ?_
    refine AllReadyH.cons (o := ⟨none, _, _, _, _, _⟩) rfl (fun K hK => ?_) AllReadyH.nil
    rw [if_pos (by rfl)]
    refine Go.wp_store_row 24 (.tmp 6) (.tmp 29) rfl g_al [.int .i64 (IntKind.i64.wrap (n0 : Int)), .int .i64 (IntKind.i64.wrap (n1 : Int)), .int .i64 0, .int .i64 0, .int .i64 0, .int .i64 0, .int .i64 (IntKind.i64.wrap (n6 : Int))].toArray rfl rfl 24 _ R_al.out (by rw [HZ7.out]; kernel_rfl) (by rw [HZ7.out]; rfl) HOne.out ?_
    replace R_al := Lib.hid (R_al.out.whole [.int .i64 (IntKind.i64.wrap (n0 : Int)), .int .i64 (IntKind.i64.wrap (n1 : Int)), .int .i64 0, .int .i64 0, .int .i64 0, .int .i64 0, .int .i64 (IntKind.i64.wrap (n6 : Int))])
    replace hC := below_setRow' hC (k := g_al) hg_al [.int .i64 (IntKind.i64.wrap (n0 : Int)), .int .i64 (IntKind.i64.wrap (n1 : Int)), .int .i64 0, .int .i64 0, .int .i64 0, .int .i64 0, .int .i64 (IntKind.i64.wrap (n6 : Int))].toArray
    refine hK.out _ _ (HKeep.out _ hC) (fun hHeld => ?_)
    clear hK K
    generalize (w0d_al.setRow g_al [.int .i64 (IntKind.i64.wrap (n0 : Int)), .int .i64 (IntKind.i64.wrap (n1 : Int)), .int .i64 0, .int .i64 0, .int .i64 0, .int .i64 0, .int .i64 (IntKind.i64.wrap (n6 : Int))].toArray) = w0d_al_st at *
    try go_frame
    refine wpAnyH_done (by kernel_rfl) ?_ _
    have HR2 : Hid (Row w0d_al_st g_al 24 ((part (dec b) 0).l.map VI)) := by have := R_al.out; rwa [HV0.out] at this
    have HC2 : Hid (Below w0.heap.size w0 w0d_al_st) := hC
    have HgA : Hid (w0.heap.size ≤ g_al) := hg_al
    generalize w0d_al_st = w2 at *
    clear hHeld HKeep hC R_al HV0 HOne HZ7 hg_al
    have Hblk : Hid (∀ j, j < 4 → (dec b).l.getD (2 + j) 0 = ((vl.getD (2 + j) 0 : Nat) : Int) ∧ vl.getD (2 + j) 0 < 256) := by rw [hvl]; exact vals_dec b
    have HM : Hid (∀ W, Calls Try.prog 8 #[.agg (inoC (dec b))] W fun e w' => e = .returned (.bool (may (dec b))) ∧ Below W.heap.size W w') := fun W => InMay_any (dec b) (dec_fits b) W
    have hgI : getI b = if may (dec b) then dec b else zero := by
      unfold getI
      by_cases hm : may (dec b) = true
      · rw [if_pos ⟨HNl.out, hm⟩, if_pos hm]
      · rw [if_neg fun h => hm h.2, if_neg hm]
    have hgE : getE b = if may (dec b) then 0 else 10 := if_pos HNl.out
    have HgI := Lib.hid hgI
    have HgE := Lib.hid hgE
    clear hgI hgE hvl
    generalize dec b = X at *
    generalize may X = m at *
    clear hHeld
    go_wp2
    go_loopw [7, 30] (fun _ i wr => ∃ j : Nat, j ≤ 4 ∧ i = .int .i64 j ∧ Hid (Row wr g_al 24 ((part X j).l.map VI)) ∧ Hid (Below w0.heap.size w0 wr)) (fun _ i _ => 4 - (intOf i).toNat)
    case atStart => exact ⟨0, by omega, rfl, HR2, HC2⟩
    case round =>
      clear HR2 HC2
      obtain ⟨j, hj, rfl, HR2, HC2⟩ := hrel
      by_cases hlt : j < 4
      · have cx := atU (HSee.out.below HC2.out HBB.out) (2 + j) (by rw [HVl.out]; omega)
        have cz := rowI HR2.out (2 + j) (by rw [l_len]; omega)
        have fz := HR2.out.free (2 + j)
        obtain ⟨hY, hy⟩ := Hblk.out j hlt
        have HY := Lib.hid hY
        clear hY
        generalize vl.getD (2 + j) 0 = y at *
        have HR3 : Hid (Row (wr.setCell ⟨g_al, 2 + j, none⟩ (.int .i64 (y : Int))) g_al 24 ((part X (j + 1)).l.map VI)) := by
          have := HR2.out.set (2 + j) (VI (X.l.getD (2 + j) 0))
          rw [part_set X j hlt, HY.out] at this
          exact this
        have HC3 : Hid (Below w0.heap.size w0 (wr.setCell ⟨g_al, 2 + j, none⟩ (.int .i64 (y : Int)))) := HC2.out.setCell HgA.out _
        clear HR2 HC2 HY
        go_wp2
        go_roundw
        case rel => exact ⟨j + 1, by omega, by go_num, HR3, HC3⟩
        case measure => simp [intOf] <;> omega
      · obtain rfl : j = 4 := by omega
        rw [part_all] at HR2
        obtain ⟨cs, hcs⟩ : ∃ cs, cs = inoC X := ⟨_, rfl⟩
        have Hcs : Hid (cs = (X.l.map VI).toArray) := hcs
        have Hsz : Hid (cs.size = 7) := by show _ = _; rw [hcs]; rfl
        have Hone : Hid (cs.all (·.oneCell') = true) := by show _ = _; rw [hcs]; exact oneI X.l
        have HRX : Hid (wr.heap[g_al]? = some (.cells cs 24 (0, 0))) := by show _ = _; rw [hcs]; exact HR2.out
        have HcsI : Hid (cs = inoC X) := hcs
        rw [← hcs] at HM
        clear hcs
        go_wp2_with (refine wpList_load_row rfl 24 (.tmp 6) rfl g_al rfl 24 cs (0, 0) _ HRX.out Try.underlying24 rfl (by rw [Hsz.out]; kernel_rfl) ?_)
        refine (HM.out wr).mono ?_
        rintro e w3 ⟨rfl, hb⟩
        have HRX3 : Hid (w3.heap[g_al]? = some (.cells cs 24 (0, 0))) := by
          have : Row wr g_al 24 (X.l.map VI) := HR2.out
          have := this.below hb this.lt
          show _ = _
          rw [Hcs.out]; exact this
        have HC03 : Hid (Below w0.heap.size w0 w3) := HC2.out.trans (hb.mono HC2.out.size)
        have HRw : Hid (Row w3 w.heap.size 24 Z7) := HR.out.below HC03.out HR.out.lt
        have HC4 : Hid (Below w.heap.size w w3) := HC.out.trans (HC03.out.mono HC.out.size)
        clear hb HRX HM HC2 HC03 HR HC HR2
        cases m
        · have HRF : Hid (Row (w3.setRow w.heap.size Z7.toArray) w.heap.size 24 Z7) := HRw.out.whole Z7
          have HCF : Hid (Below w.heap.size w (w3.setRow w.heap.size Z7.toArray)) := below_setRow' HC4.out (Nat.le_refl _) _
          go_wp2_with (refine wpList_store_row rfl 24 (.tmp 2) (.tmp 46) rfl w.heap.size Z7.toArray rfl rfl 24 _ HRw.out (by kernel_rfl) (by rfl) (oneI [0, 0, 0, 0, 0, 0, 0]) ?_)
          refine bodyPost_ret (v := .tuple #[.agg Z7.toArray, .int .i64 10]) (inResults (p := 2) (u := 3) rfl _ _ w.heap.size 24 Z7.toArray (0, 0) _ rfl HRF.out Try.underlying24 rfl (by kernel_rfl)) rfl ?_
          refine ⟨?_, HCF.out⟩
          rw [HgI.out, HgE.out]
          rfl
        · have HRF : Hid ((w3.setRow w.heap.size cs).heap[w.heap.size]? = some (.cells cs 24 (0, 0))) := by
            have := HRw.out.whole (X.l.map VI)
            show _ = _
            rw [Hcs.out]
            exact this
          have HCF : Hid (Below w.heap.size w (w3.setRow w.heap.size cs)) := below_setRow' HC4.out (Nat.le_refl _) _
          go_wp2_with (first | (refine wpList_load_row rfl 24 (.tmp 6) rfl g_al rfl 24 cs (0, 0) _ HRX3.out Try.underlying24 rfl (by rw [Hsz.out]; kernel_rfl) ?_) | (refine wpList_store_row rfl 24 (.tmp 2) (.tmp 47) rfl w.heap.size cs rfl rfl 24 _ HRw.out (by rw [Hsz.out]; kernel_rfl) (by rw [Hsz.out]; rfl) Hone.out ?_))
          refine bodyPost_ret (v := .tuple #[.agg cs, .int .i64 0]) (inResults (p := 2) (u := 3) rfl _ _ w.heap.size 24 cs (0, 0) _ rfl HRF.out Try.underlying24 rfl (by rw [Hsz.out]; kernel_rfl)) rfl ?_
          refine ⟨?_, HCF.out⟩
          rw [HgI.out, HgE.out, if_pos trivial, if_pos trivial, HcsI.out]
  · have HG : Hid (∀ u W, From W u (widthsL.map VI) → Arg W v b → Calls Try.prog 20 #[u, v] W fun e w' => ∃ r, e = .returned (.tuple #[r, .int .i64 1]) ∧ Hid (From w' r []) ∧ Below W.heap.size W w') := fun u W h1 h2 => by
      have := KGet_any widthsL (by decide) b u v W h1 h2
      have hg : okG widthsL b = false := by rw [okG_widths, decide_eq_false h8]
      rw [hg, show getL widthsL b = [] by rw [getL, hg]; rfl] at this
      exact this
    have hI : getI b = zero := if_neg fun h => h8 h.1
    have hE : getE b = 1 := if_neg h8
    rw [hI, hE]
    clear hI hE h h8
    go_enter Try.func12, Try.ntmps12
    go_wp2_with fail
    rw [← hwa]
    clear hwa
    refine (InWidths_any wa).mono ?_
    rintro e wb ⟨u, rfl, HU, hb⟩
    replace HR := Lib.hid (HR.out.below hb HR.out.lt)
    replace HC := Lib.hid (HC.out.trans (hb.mono HC.out.size))
    replace HA := Lib.hid (HA.out.below hb)
    clear hb
    go_wp2_with fail
    refine (HG.out u wb HU.out HA.out).mono ?_
    rintro e w0 ⟨r, rfl, _, hb⟩
    replace HR := Lib.hid (HR.out.below hb HR.out.lt)
    replace HC := Lib.hid (HC.out.trans (hb.mono HC.out.size))
    clear hb HU HA HG
    have HRF : Hid (Row (w0.setRow w.heap.size Z7.toArray) w.heap.size 24 Z7) := HR.out.whole Z7
    have HCF : Hid (Below w.heap.size w (w0.setRow w.heap.size Z7.toArray)) := below_setRow' HC.out (Nat.le_refl _) _
    go_wp2_with (refine wpList_store_row rfl 24 (.tmp 2) (.tmp 16) rfl w.heap.size Z7.toArray rfl rfl 24 _ HR.out (by kernel_rfl) (by rfl) (oneI [0, 0, 0, 0, 0, 0, 0]) ?_)
    refine bodyPost_ret (v := .tuple #[.agg Z7.toArray, .int .i64 1]) (inResults (p := 2) (u := 3) rfl _ _ w.heap.size 24 Z7.toArray (0, 0) _ rfl HRF.out Try.underlying24 rfl (by kernel_rfl)) rfl ?_
    exact ⟨rfl, HCF.out⟩
end Go.Proofs.Ytcpdhfgigopfoaa
