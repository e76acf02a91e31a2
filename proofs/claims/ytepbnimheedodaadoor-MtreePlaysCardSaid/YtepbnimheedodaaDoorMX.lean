/-
  THE WALK of the program's above.
-/
import Derived.Test.YtepbnimheedodaaDoorMW
namespace Go.Proofs.YtepbnimheedodaaDoor
open Go.RowKit Mk

theorem four_cells (row : List Tg) (n k : Nat) (hr : row.length = 4 * n) (h32 : ∀ t ∈ row, t.length = 32) (hk : k < n) : (((row.drop (4 * k)).take 4).length = 4 ∧ (∀ t ∈ (row.drop (4 * k)).take 4, t.length = 32)) ∧ (cells ((row.drop (4 * k)).take 4)).length = 128 := by
  have h1 : ((row.drop (4 * k)).take 4).length = 4 := by rw [List.length_take, List.length_drop]; omega
  have h2 : ∀ t ∈ (row.drop (4 * k)).take 4, t.length = 32 := fun t ht => h32 t (List.mem_of_mem_drop (List.mem_of_mem_take ht))
  exact ⟨⟨h1, h2⟩, by rw [cells_length _ h2, h1]⟩
theorem four_at {W : World} {g : Nat} {row : List Tg} {n k : Nat} (hR : Row W g 80 (cells row)) (hr : row.length = 4 * n) (h32 : ∀ t ∈ row, t.length = 32) (hk : k < n) : W.rangeAt g (128 * k) (cells ((row.drop (4 * k)).take 4)) := by
  have := cells_piece row h32 (4 * k) 4 (by omega)
  rw [show 32 * (4 * k) = 128 * k by omega] at this
  exact hR.piece _ _ this

set_option maxRecDepth 100000 in
set_option maxHeartbeats 1000000 in
theorem above_any (key : Tg) (row : List Tg) (v : Value) (g n m : Nat) (w : World) (hk : key.length ≤ 1000) (hm : m ≤ 1000) (hn : n = 4 * m) (hrow : row.length = 4 * n) (h32 : ∀ t ∈ row, t.length = 32) (hT : Hm.Tab w) (hA : Arg w v key) (hR : Row w g 80 (cells row)) :
    Calls Tryd.prog 46 #[v, .slice (some ⟨g, 0, none⟩) n n] w fun e w' => (∃ g2 : Nat, Hid (w.heap.size ≤ g2) ∧ Hid (Row w' g2 80 (cells (ups key row))) ∧ e = .returned (.slice (some ⟨g2, 0, none⟩) m m)) ∧ Below w.heap.size w w' := by
  obtain ⟨A, cap, rfl⟩ := hA.form
  obtain ⟨kn, hkn⟩ : ∃ n, n = key.length := ⟨_, rfl⟩
  have Hkey := Lib.hid hk
  rw [← hkn] at hA ⊢
  have HA0 := Lib.hid hA
  have HT0 := Lib.hid hT
  have HR0 := Lib.hid hR
  have H32 := Lib.hid h32
  have Hrow := Lib.hid hrow
  have Hn := Lib.hid hn
  have HU : Hid ((ups key row).length = n) := by show _ = _; rw [ups_length, hrow, Nat.mul_comm, Nat.mul_div_cancel _ (by omega)]
  have HMK := Lib.hid (made4 m (by omega) w)
  have HZ := Lib.hid zero4
  have hn4 : n ≤ 4000 := by omega
  have HRz : Hid (Row (w.alloc (.cells (cells (List.replicate (4 * m) zero)).toArray 80)) w.heap.size 80 (cells (fill (ups key row) n 0))) := by
    show Row _ _ _ _
    rw [fill, List.take_zero, List.nil_append, Nat.sub_zero, hn]
    exact Row.new w 80 (cells (List.replicate (4 * m) zero))
  obtain ⟨w2, hw2⟩ : ∃ w2, w2 = w.alloc (.cells (cells (List.replicate (4 * m) zero)).toArray 80) := ⟨_, rfl⟩
  have HB2 : Hid (Below w.heap.size w w2) := by rw [hw2]; exact (Below.refl _ _).alloc (Nat.le_refl _) _
  obtain ⟨g2, Hg⟩ : ∃ g, Hid (g = w.heap.size) := ⟨_, rfl⟩
  have Hgw : Hid (w.heap.size ≤ g2) := by show _ ≤ _; rw [Hg.out]; exact Nat.le_refl _
  have hmk := HMK.out
  rw [← hw2, ← Hg.out] at HRz
  rw [← hw2, ← Hg.out] at hmk
  have Hgg : Hid (g < w.heap.size) := hR.lt
  have e4 : (n : Int) / 4 = (m : Int) := by omega
  clear hw2 hkn hk hA hT hR h32 hrow hn hm HMK
  go_enter Tryd.func46, Tryd.ntmps46
  go_wp2
  clear hmk e4
  go_loopw [14] (fun i wr => ∃ k : Nat, k ≤ n ∧ i = .int .i64 k ∧ Hid (Row wr g2 80 (cells (fill (ups key row) n k))) ∧ Hid (Below w.heap.size w wr)) (fun i _ => n - (intOf i).toNat)
  case atStart => exact ⟨0, by omega, rfl, HRz, HB2⟩
  case round =>
    obtain ⟨k, hk, rfl, HR, HB⟩ := hrel
    clear HRz HB2
    by_cases hlt : k < n
    · obtain ⟨f, Hf⟩ : ∃ f, Hid (f = (row.drop (4 * k)).take 4) := ⟨_, rfl⟩
      obtain ⟨⟨hf4, hf32⟩, hfl⟩ := four_cells row n k Hrow.out H32.out hlt
      rw [← Hf.out] at hf4 hf32 hfl
      have Hf4 := Lib.hid hf4
      have Hf32 := Lib.hid hf32
      obtain ⟨ks, hks⟩ : ∃ ks, ks = cells f := ⟨_, rfl⟩
      have Hks : Hid (ks = f.flatten.map V8) := hks
      have Hlen : Hid (ks.length = 128) := by rw [hks]; exact hfl
      have Hkz : Hid (ks.toArray.size = 128) := Hlen
      have Hko : Hid (ks.toArray.all (·.oneCell') = true) := by rw [hks]; exact one8 f.flatten
      have HLd : Hid (wr.rangeAt g (k * 128) ks) := by
        show World.rangeAt _ _ _ _
        rw [hks, Nat.mul_comm, Hf.out]
        exact four_at (HR0.out.below HB.out Hgg.out) Hrow.out H32.out hlt
      have hget := ups_get key row n k Hrow.out hlt
      rw [← Hf.out] at hget
      have HRs0 : Hid (∀ W, Row W g2 80 (cells (fill (ups key row) n k)) → Row (W.setCells g2 (32 * k) ((node key f).map V8)) g2 80 (cells (fill (ups key row) n (k + 1))) ∧ W.there g2 (32 * k) 32) := fun W hW =>
        ⟨row_fill hW (ups_short key row) hlt _ hget, fill_there hW (ups_short key row) hlt (by rw [HU.out]; omega)⟩
      obtain ⟨q, r, hqr, hr4, hqp⟩ : ∃ q r : Nat, k = 4 * q + r ∧ r < 4 ∧ q < m := ⟨k / 4, k % 4, by omega, by omega, by have := Hn.out; omega⟩
      have Hq4 : Hid ((k : Int) / 4 = (q : Int)) := by show _ = _; omega
      have Hr4 : Hid ((k : Int) % 4 = (r : Int)) := by show _ = _; omega
      have Hrt : Hid ((k : Int).tmod 4 = (r : Int)) := by show _ = _; rw [Int.tmod_eq_emod_of_nonneg (by omega)]; omega
      have Hwq : Hid (IntKind.i64.wrap (q : Int) = (q : Int)) := by show _ = _; rw [IntKind.wrap_i64]; omega
      have Hwr : Hid (IntKind.i64.wrap (r : Int) = (r : Int)) := by show _ = _; rw [IntKind.wrap_i64]; omega
      have Hiq : Hid (0 ≤ (q : Int) ∧ (q : Int) < (m : Int)) := by show _ ∧ _; omega
      have Hir : Hid (0 ≤ (r : Int) ∧ (r : Int) < 4) := by show _ ∧ _; omega
      have Hoff : Hid (q * 128 + r * 32 = 32 * k) := by show _ = _; omega
      obtain ⟨b7, Hb7⟩ : ∃ b, Hid (b = wr.heap.size) := ⟨_, rfl⟩
      obtain ⟨wb, hwb⟩ : ∃ w, w = (wr.alloc (.cells Z128.toArray 80)).setRow wr.heap.size ks.toArray := ⟨_, rfl⟩
      have hRb : Row wb b7 80 ks := by rw [hwb, Hb7.out]; exact (Row.new wr 80 Z128).whole ks
      have HB2 : Hid (Below w.heap.size w wb) := by rw [hwb]; exact below_setRow' (HB.out.alloc HB.out.size _) HB.out.size ks.toArray
      have hglt : g2 < wr.heap.size := HR.out.lt
      have hRg : Row wb g2 80 (cells (fill (ups key row) n k)) := by rw [hwb]; exact (HR.out.alloc _).wholeOff (by omega) _
      have Hgb : Hid (b7 ≠ g2) := by show _ ≠ _; rw [Hb7.out]; omega
      have HKeep : Hid (∀ W, Below wb.heap.size wb W → Row W b7 80 ks) := fun W hW => hRb.below hW hRb.lt
      have HRs : Hid (∀ W, Below wb.heap.size wb W → Row (W.setCells g2 (32 * k) ((node key f).map V8)) g2 80 (cells (fill (ups key row) n (k + 1)))) := fun W hW => (HRs0.out W (hRg.below hW hRg.lt)).1
      have HThere : Hid (∀ W, Below wb.heap.size wb W → W.there g2 (32 * k) 32) := fun W hW => (HRs0.out W (hRg.below hW hRg.lt)).2
      have HT : Hid (Hm.Tab wb) := HT0.out.below HB2.out
      have HA : Hid (Arg wb (.slice A kn cap) key) := HA0.out.below HB2.out
      have Hin : Hid (Z128.toArray.size = ks.toArray.size) := by show _ = _; rw [Hkz.out]; rfl
      have Hi48 : Hid (Option.map (fun i => i.size) (Tryd.prog.info? 80) = some ks.toArray.size) := by show _ = _; rw [Hkz.out]; kernel_rfl
      have Hi48l : Hid (Option.map (fun i => i.size) (Tryd.prog.info? 80) = some ks.length) := by show _ = _; rw [Hlen.out]; kernel_rfl
      have hz := HZ.out wr
      clear hf4 hf32 hfl hks hget HRs0 hqr hqp hr4 hRb hRg hglt HR HB
      go_wp2_with (first
        | (refine wpList_load_mid rfl 80 (.tmp 17) rfl g (k * 128) rfl ks _ HLd.out Tryd.underlying80 rfl Hi48l.out ?_)
        | (refine wpList_store_row rfl 80 (.tmp 7) (.tmp 18) rfl wr.heap.size ks.toArray rfl rfl 80 _ (Row.new wr _ Z128) Hi48.out Hin.out Hko.out ?_; rw [← hwb, ← Hb7.out]))
      try go_frame
      have hC : Below wb.heap.size wb wb.drew := below_drewN (Below.refl _ _) 1
      refine wp_region_held_drew (S := (fun W => Row W b7 80 ks)) (by kernel_rfl) (HKeep.out _ hC) (fun hHeld => ?_)
      generalize wb.drew = wbd at *
      refine wpAnyH_take (i := 0) (oi := ⟨some 19, _, _, _, _, _⟩) (v := ?_) rfl (by kernel_rfl) (by kernel_rfl) (by kernel_rfl) (fun _ _ _ h => h) (Or.inl ⟨by rfl, ?_⟩) hHeld ?_
      rotate_left
      · intro w hSw
        go_simp
        with_reducible rfl
      try go_frame
      refine wpAnyH_take (i := 1) (oi := ⟨some 20, _, _, _, _, _⟩) (v := ?_) rfl (by kernel_rfl) (by kernel_rfl) (by kernel_rfl) (fun _ _ _ h => h) (Or.inl ⟨by rfl, ?_⟩) hHeld ?_
      rotate_left
      · intro w hSw
        go_simp
        with_reducible rfl
      try go_frame
      refine wpAnyH_take (i := 2) (oi := ⟨some 21, _, _, _, _, _⟩) (v := ?_) rfl (by kernel_rfl) (by kernel_rfl) (by kernel_rfl) (fun _ _ _ h => h) (Or.inl ⟨by rfl, ?_⟩) hHeld ?_
      rotate_left
      · intro w hSw
        have hq4 := Hq4.out
        have hr4 := Hr4.out
        have hrt := Hrt.out
        go_simp
        with_reducible rfl
      try go_frame
      refine wpAnyH_take (i := 3) (oi := ⟨some 22, _, _, _, _, _⟩) (v := ?_) rfl (by kernel_rfl) (by kernel_rfl) (by kernel_rfl) (fun _ _ _ h => h) (Or.inl ⟨by rfl, ?_⟩) hHeld ?_
      rotate_left
      · intro w hSw
        go_simp
        with_reducible rfl
      try go_frame
      refine wpAnyH_take (i := 4) (oi := ⟨some 23, _, _, _, _, _⟩) (v := ?_) rfl (by kernel_rfl) (by kernel_rfl) (by kernel_rfl) (fun _ _ _ h => h) (Or.inl ⟨by rfl, ?_⟩) hHeld ?_
      rotate_left
      · intro w hSw
        have hq4 := Hq4.out
        have hr4 := Hr4.out
        have hrt := Hrt.out
        go_simp
        with_reducible rfl
      try go_frame
      refine wpAnyH_take (i := 5) (oi := ⟨some 24, _, _, _, _, _⟩) (v := ?_) rfl (by kernel_rfl) (by kernel_rfl) (by kernel_rfl) (fun _ _ _ h => h) (Or.inl ⟨by rfl, ?_⟩) hHeld ?_
      rotate_left
      · intro w hSw
        go_simp
        with_reducible rfl
      try go_frame
      refine wpAnyH_take (i := 6) (oi := ⟨some 25, _, _, _, _, _⟩) (v := .agg (ks).toArray) rfl (by kernel_rfl) (by kernel_rfl) (by kernel_rfl) (fun _ _ _ h => h) (yieldsIf_load_mid (by rfl) 80 (.tmp 7) rfl (b7) 0 rfl (ks) _ (fun W h => h.sees) Tryd.underlying80 rfl (by rw [Hlen.out]; kernel_rfl)) hHeld ?_
      try go_frame
      refine wpAnyH_take (i := 8) (oi := ⟨some 27, _, _, _, _, _⟩) (v := ?_) rfl (by kernel_rfl) (by kernel_rfl) (by kernel_rfl) (fun _ _ _ h => h) (Or.inl ⟨by rfl, ?_⟩) hHeld ?_
      rotate_left
      · intro w hSw
        have hwq := Hwq.out
        have hiq := Hiq.out
        go_simp
        with_reducible rfl
      try go_frame
      refine wpAnyH_ready (rs := [7]) (by kernel_rfl) (by simp) ?_
      refine AllReadyH.cons (o := ⟨some 26, _, _, _, _, _⟩) rfl (fun K hK => ?_) AllReadyH.nil
      go_simp
      go_at_call 33
      refine (node_holds key f _ ks wbd Hkey.out Hf4.out Hf32.out Hks.out (HT.out.below hC) (HA.out.below hC)).mono ?_
      rintro e wbd_nd ⟨⟨rs, Hrs, rfl⟩, hb⟩
      replace hC := hC.trans (hb.mono hC.size)
      refine hK.out _ _ (HKeep.out _ hC) (fun hHeld => ?_)
      clear hK K hb 
      have Hsz : Hid (rs.toArray.size = 32) := Hrs.out.size
      have Hone : Hid (rs.toArray.all (·.oneCell') = true) := Hrs.out.one
      try go_frame
      refine wpAnyH_take (i := 9) (oi := ⟨some 28, _, _, _, _, _⟩) (v := ?_) rfl (by kernel_rfl) (by kernel_rfl) (by kernel_rfl) (fun _ _ _ h => h) (Or.inl ⟨by rfl, ?_⟩) hHeld ?_
      rotate_left
      · intro w hSw
        have hwr := Hwr.out
        have hir := Hir.out
        have hoff := Hoff.out
        go_simp
        with_reducible rfl
      try go_frame
      refine wpAnyH_ready (rs := [10]) (by kernel_rfl) (by simp) ?_
      refine AllReadyH.cons (o := ⟨none, _, _, _, _, _⟩) rfl (fun K hK => ?_) AllReadyH.nil
      rw [if_pos (by rfl)]
      refine Go.wp_store_mid 34 (.tmp 28) (.tmp 26) rfl (g2) (32 * k) rs.toArray rfl rfl (by rw [Hsz.out]; exact HThere.out _ hC) (by rw [Hsz.out]; kernel_rfl) Hone.out ?_
      have HRn : Hid (Row (wbd_nd.setCells g2 (32 * k) rs) g2 80 (cells (fill (ups key row) n (k + 1)))) := by rw [Hrs.out.1]; exact HRs.out _ hC
      have HBn : Hid (Below w.heap.size w (wbd_nd.setCells g2 (32 * k) rs)) := below_cells Hgw.out rs (32 * k) (HB2.out.trans (hC.mono HB2.out.size))
      rw [List.toList_toArray]
      refine hK.out _ _ (row_apart (HKeep.out _ hC) Hgb.out rs (32 * k)) (fun hHeld => ?_)
      clear hK K
      generalize (wbd_nd.setCells g2 (32 * k) rs) = wbd_nd_st at *
      try go_frame
      refine wpAnyH_done (by kernel_rfl) ?_ _
      clear hC HKeep hHeld
      go_wp2
      go_roundw
      case rel => exact ⟨k + 1, by omega, by go_num, HRn, HBn⟩
      case measure => rw [iO, show intOf (.int .i64 (k : Int)) = (k : Int) from rfl]; omega
    · obtain rfl : k = n := by omega
      have HRf : Hid (Row wr g2 80 (cells (ups key row))) := by
        have h1 := HR.out
        rwa [fill_all _ _ HU.out] at h1
      go_wp2
      go_ret
      exact ⟨⟨g2, Hgw, HRf, rfl⟩, HB.out⟩
end Go.Proofs.YtepbnimheedodaaDoor
