/-
  THE WALK of the program's lowest.
-/
import Derived.Test.YtepbnimheedodaaDoorMV
namespace Go.Proofs.YtepbnimheedodaaDoor
open Go.RowKit Mk

theorem isH_small {m h : Nat} (hm : m ≤ 100) (hh : IsH m h) : ∃ h' n : Nat, h = h' + 1 ∧ h' ≤ 3 ∧ n = 4 ^ h' ∧ n ≤ 64 ∧ 4 * n = 4 ^ h ∧ m ≤ 4 ^ h := by
  obtain ⟨h1, h2, h3⟩ := hh
  obtain ⟨h', rfl⟩ : ∃ h', h = h' + 1 := ⟨h - 1, by omega⟩
  rw [Nat.add_sub_cancel] at h3
  have h4 : h' ≤ 3 := by
    rcases h3 with h3 | h3
    · omega
    · rcases Nat.lt_or_ge h' 4 with h5 | h5
      · omega
      · have h6 : (4 : Nat) ^ 4 ≤ 4 ^ h' := Nat.pow_le_pow_right (by omega) h5
        rw [← pow_int] at h3
        have h7 : (4 : Nat) ^ 4 = 256 := by decide
        omega
  have h8 : 4 ^ h' ≤ 4 ^ 3 := Nat.pow_le_pow_right (by omega) h4
  rw [← pow_int] at h2
  refine ⟨h', 4 ^ h', rfl, h4, rfl, h8, by rw [Nat.pow_succ, Nat.mul_comm], by omega⟩

set_option maxRecDepth 100000 in
set_option maxHeartbeats 1000000 in
theorem lowest_any (l : List Tg) (x : Value) (w : World) (hl : l.length ≤ 100) (hT : Tags w x l) :
    Calls Tryd.prog 45 #[x] w fun e w' => (∃ h n g : Nat, Hid (IsH l.length h) ∧ Hid (4 * n = 4 ^ h) ∧ n ≤ 64 ∧ Hid (w.heap.size ≤ g) ∧ Hid (Row w' g 80 (cells (full l h))) ∧ e = .returned (.slice (some ⟨g, 0, none⟩) n n)) ∧ Below w.heap.size w w' := by
  obtain ⟨h32, A, cap, rfl, hs⟩ := hT
  obtain ⟨N, hN⟩ : ∃ N, N = l.length := ⟨_, rfl⟩
  rw [← hN] at hl hs ⊢
  have HN := Lib.hid hN
  have H32 := Lib.hid h32
  have HS := Lib.hid hs
  have hmk := made4
  have HMK := Lib.hid hmk
  have hz := Hm.zeroTag
  have HZ := Lib.hid hz
  clear hN h32 hs hmk hz
  go_enter Tryd.func45, Tryd.ntmps45
  go_wp2_with fail
  refine (height_holds (N : Int) w (by omega)).mono ?_
  rintro e w1 ⟨⟨h, Hh, h9, rfl⟩, hb⟩
  obtain ⟨h', n, rfl, h3, hn, hn64, hn4, hN4⟩ := isH_small hl Hh.out
  have HB1 := Lib.hid hb
  have Hn := Lib.hid hn
  have Hn4 := Lib.hid hn4
  have HN4 := Lib.hid hN4
  clear hb hn hn4 hN4 h9
  have es : (((h' + 1 : Nat) : Int) - 1) = (h' : Int) := by omega
  rw [show (((h' + 1 : Nat) : Int)) = (h' : Int) + 1 by omega]
  clear es
  go_wp2
  go_loopw [3, 11] (fun m i wr => ∃ j p : Nat, j ≤ h' ∧ i = .int .i64 j ∧ m = .int .i64 p ∧ p ≤ 64 ∧ Hid (p = 4 ^ j) ∧ Hid (Below w.heap.size w wr)) (fun _ i _ => h' - (intOf i).toNat)
  case atStart => exact ⟨0, 1, by omega, rfl, rfl, by omega, rfl, HB1⟩
  case round =>
    obtain ⟨j, p, hj, rfl, rfl, hp, Hp, HB⟩ := hrel
    by_cases hlt : j < h'
    · have hp16 : p ≤ 16 := by
        have h5 := Hp.out
        have h6 : 4 ^ j ≤ 4 ^ 2 := Nat.pow_le_pow_right (by omega) (by omega)
        omega
      have Hp4 : Hid (p * 4 = 4 ^ (j + 1)) := by show _ = _; rw [Hp.out, Nat.pow_succ]
      clear hp
      go_wp2
      go_roundw
      case rel => exact ⟨j + 1, p * 4, by omega, by go_num, by go_num, by omega, Hp4, HB⟩
      case measure => rw [iO, show intOf (.int .i64 (j : Int)) = (j : Int) from rfl]; omega
    · obtain rfl : j = h' := by omega
      obtain rfl : p = n := by rw [Hp.out, Hn.out]
      have hmk := HMK.out p (by omega) wr
      have HRz : Hid (Row (wr.alloc (.cells (cells (List.replicate (4 * p) zero)).toArray 80)) wr.heap.size 80 (cells (low l (j + 1) 0))) := by
        show Row _ _ _ _
        rw [low, fill, List.take_zero, List.nil_append, Nat.sub_zero, ← Hn4.out]
        exact Row.new wr 80 (cells (List.replicate (4 * p) zero))
      obtain ⟨w2, hw2⟩ : ∃ w2, w2 = wr.alloc (.cells (cells (List.replicate (4 * p) zero)).toArray 80) := ⟨_, rfl⟩
      have HB2 : Hid (Below w.heap.size w w2) := by rw [hw2]; exact HB.out.alloc HB.out.size _
      obtain ⟨g, Hg⟩ : ∃ g, Hid (g = wr.heap.size) := ⟨_, rfl⟩
      have Hgw : Hid (w.heap.size ≤ g) := by show _ ≤ _; rw [Hg.out]; exact HB.out.size
      rw [← hw2, ← Hg.out] at HRz
      rw [← hw2, ← Hg.out] at hmk
      clear hw2 Hg HB HB1 hlt
      obtain ⟨h, eh⟩ : ∃ h, h = j + 1 := ⟨_, rfl⟩
      rw [← eh] at HRz Hn4 HN4 Hh
      have Eh := Lib.hid eh
      clear eh
      go_wp2
      clear hmk
      go_loopw [20] (fun i wr => ∃ k : Nat, k ≤ N ∧ i = .int .i64 k ∧ Hid (Row wr g 80 (cells (low l h k))) ∧ Hid (Below w.heap.size w wr)) (fun i _ => N - (intOf i).toNat)
      case atStart => exact ⟨0, by omega, rfl, HRz, HB2⟩
      case round =>
        obtain ⟨k, hk, rfl, HR, HB⟩ := hrel
        clear HRz HB2
        by_cases hlt : k < N
        · obtain ⟨b, o, rfl, hb, hsee⟩ := HS.out (by omega)
          obtain ⟨t, ht⟩ : ∃ t, l[k]? = some t := ⟨_, List.getElem?_eq_getElem (by rw [← HN.out]; exact hlt)⟩
          have ht32 := H32.out t (List.mem_of_getElem? ht)
          have hk4 : k < 4 ^ h := by have := HN4.out; omega
          obtain ⟨rs, hrs⟩ : ∃ rs, rs = t.map V8 := ⟨_, rfl⟩
          have hv : Vec 32 t rs := ⟨hrs, ht32⟩
          have Hlen : Hid (rs.length = 32) := hv.len
          have Hsz : Hid (rs.toArray.size = 32) := hv.size
          have Hone : Hid (rs.toArray.all (·.oneCell') = true) := hv.one
          have HLd : Hid (wr.rangeAt b (o + k * 32) rs) := by
            show World.rangeAt _ _ _ _
            rw [hrs, Nat.mul_comm]; exact (hsee k t ht).below HB.out hb
          have HRs0 : Hid (∀ W, Row W g 80 (cells (low l h k)) → Row (W.setCells g (32 * k) rs) g 80 (cells (low l h (k + 1))) ∧ W.there g (32 * k) rs.toArray.size) := fun W hW => by
            rw [Hsz.out, hrs]
            exact ⟨row_fill hW H32.out hk4 t ht, fill_there hW H32.out hk4 (by rw [← HN.out]; omega)⟩
          obtain ⟨q, r, hqr, hr4, hqp⟩ : ∃ q r : Nat, k = 4 * q + r ∧ r < 4 ∧ q < p := ⟨k / 4, k % 4, by omega, by omega, by have := Hn4.out; omega⟩
          have Hq4 : Hid ((k : Int) / 4 = (q : Int)) := by show _ = _; omega
          have Hr4 : Hid ((k : Int) % 4 = (r : Int)) := by show _ = _; omega
          have Hrt : Hid ((k : Int).tmod 4 = (r : Int)) := by show _ = _; rw [Int.tmod_eq_emod_of_nonneg (by omega)]; omega
          have Hwq : Hid (IntKind.i64.wrap (q : Int) = (q : Int)) := by show _ = _; rw [IntKind.wrap_i64]; omega
          have Hwr : Hid (IntKind.i64.wrap (r : Int) = (r : Int)) := by show _ = _; rw [IntKind.wrap_i64]; omega
          have Hiq : Hid (0 ≤ (q : Int) ∧ (q : Int) < (p : Int)) := by show _ ∧ _; omega
          have Hir : Hid (0 ≤ (r : Int) ∧ (r : Int) < 4) := by show _ ∧ _; omega
          have Hoff : Hid (q * 128 + r * 32 = 32 * k) := by show _ = _; omega
          obtain ⟨b6, Hb6⟩ : ∃ b, Hid (b = wr.heap.size) := ⟨_, rfl⟩
          obtain ⟨wb, hwb⟩ : ∃ w, w = (wr.alloc (.cells Hm.Z32.toArray 34)).setRow wr.heap.size rs.toArray := ⟨_, rfl⟩
          have hRb : Row wb b6 34 rs := by rw [hwb, Hb6.out]; exact (Row.new wr 34 Hm.Z32).whole rs
          have HB2 : Hid (Below w.heap.size w wb) := by rw [hwb]; exact below_setRow' (HB.out.alloc HB.out.size _) HB.out.size rs.toArray
          have hglt : g < wr.heap.size := HR.out.lt
          have hRg : Row wb g 80 (cells (low l h k)) := by rw [hwb]; exact (HR.out.alloc _).wholeOff (by omega) _
          have Hgb : Hid (b6 ≠ g) := by show _ ≠ _; rw [Hb6.out]; omega
          have HKeep : Hid (∀ W, Below wb.heap.size wb W → Row W b6 34 rs) := fun W hW => hRb.below hW hRb.lt
          have HRs : Hid (∀ W, Below wb.heap.size wb W → Row (W.setCells g (32 * k) rs) g 80 (cells (low l h (k + 1)))) := fun W hW => (HRs0.out W (hRg.below hW hRg.lt)).1
          have HThere : Hid (∀ W, Below wb.heap.size wb W → W.there g (32 * k) rs.toArray.size) := fun W hW => (HRs0.out W (hRg.below hW hRg.lt)).2
          have Hin : Hid (Hm.Z32.toArray.size = rs.toArray.size) := by show _ = _; rw [Hsz.out]; rfl
          have Hi30 : Hid (Option.map (fun i => i.size) (Tryd.prog.info? 34) = some rs.toArray.size) := by show _ = _; rw [Hsz.out]; kernel_rfl
          have Hi30l : Hid (Option.map (fun i => i.size) (Tryd.prog.info? 34) = some rs.length) := by show _ = _; rw [Hlen.out]; kernel_rfl
          have hz := HZ.out wr
          clear hsee ht ht32 hk4 hrs hv HRs0 hqr hqp hr4 hRb hRg hglt HR hb HB
          go_wp2_with (first
            | (refine wpList_load_mid rfl 34 (.tmp 23) rfl b (o + k * 32) rfl rs _ HLd.out Tryd.underlying34 rfl Hi30l.out ?_)
            | (refine wpList_store_row rfl 34 (.tmp 6) (.tmp 24) rfl wr.heap.size rs.toArray rfl rfl 34 _ (Row.new wr _ Hm.Z32) Hi30.out Hin.out Hone.out ?_; rw [← hwb, ← Hb6.out]))
          try go_frame
          have hC : Below wb.heap.size wb wb.drew := below_drewN (Below.refl _ _) 1
          refine wp_region_held_drew (S := (fun W => Row W b6 34 rs)) (by kernel_rfl) (HKeep.out _ hC) (fun hHeld => ?_)
          generalize wb.drew = wbd at *
          refine wpAnyH_take (i := 0) (oi := ⟨some 25, _, _, _, _, _⟩) (v := ?_) rfl (by kernel_rfl) (by kernel_rfl) (by kernel_rfl) (fun _ _ _ h => h) (Or.inl ⟨by rfl, ?_⟩) hHeld ?_
          rotate_left
          · intro w hSw
            go_simp
            with_reducible rfl
          try go_frame
          refine wpAnyH_take (i := 1) (oi := ⟨some 26, _, _, _, _, _⟩) (v := ?_) rfl (by kernel_rfl) (by kernel_rfl) (by kernel_rfl) (fun _ _ _ h => h) (Or.inl ⟨by rfl, ?_⟩) hHeld ?_
          rotate_left
          · intro w hSw
            go_simp
            with_reducible rfl
          try go_frame
          refine wpAnyH_take (i := 2) (oi := ⟨some 27, _, _, _, _, _⟩) (v := ?_) rfl (by kernel_rfl) (by kernel_rfl) (by kernel_rfl) (fun _ _ _ h => h) (Or.inl ⟨by rfl, ?_⟩) hHeld ?_
          rotate_left
          · intro w hSw
            have hq4 := Hq4.out
            have hr4 := Hr4.out
            have hrt := Hrt.out
            go_simp
            with_reducible rfl
          try go_frame
          refine wpAnyH_take (i := 3) (oi := ⟨some 28, _, _, _, _, _⟩) (v := ?_) rfl (by kernel_rfl) (by kernel_rfl) (by kernel_rfl) (fun _ _ _ h => h) (Or.inl ⟨by rfl, ?_⟩) hHeld ?_
          rotate_left
          · intro w hSw
            go_simp
            with_reducible rfl
          try go_frame
          refine wpAnyH_take (i := 4) (oi := ⟨some 29, _, _, _, _, _⟩) (v := ?_) rfl (by kernel_rfl) (by kernel_rfl) (by kernel_rfl) (fun _ _ _ h => h) (Or.inl ⟨by rfl, ?_⟩) hHeld ?_
          rotate_left
          · intro w hSw
            have hq4 := Hq4.out
            have hr4 := Hr4.out
            have hrt := Hrt.out
            go_simp
            with_reducible rfl
          try go_frame
          refine wpAnyH_take (i := 5) (oi := ⟨some 30, _, _, _, _, _⟩) (v := .agg (rs).toArray) rfl (by kernel_rfl) (by kernel_rfl) (by kernel_rfl) (fun _ _ _ h => h) (yieldsIf_load_mid (by rfl) 34 (.tmp 6) rfl (b6) 0 rfl (rs) _ (fun W h => h.sees) Tryd.underlying34 rfl (by rw [Hlen.out]; kernel_rfl)) hHeld ?_
          try go_frame
          refine wpAnyH_take (i := 6) (oi := ⟨some 31, _, _, _, _, _⟩) (v := ?_) rfl (by kernel_rfl) (by kernel_rfl) (by kernel_rfl) (fun _ _ _ h => h) (Or.inl ⟨by rfl, ?_⟩) hHeld ?_
          rotate_left
          · intro w hSw
            have hwq := Hwq.out
            have hiq := Hiq.out
            go_simp
            with_reducible rfl
          try go_frame
          refine wpAnyH_take (i := 7) (oi := ⟨some 32, _, _, _, _, _⟩) (v := ?_) rfl (by kernel_rfl) (by kernel_rfl) (by kernel_rfl) (fun _ _ _ h => h) (Or.inl ⟨by rfl, ?_⟩) hHeld ?_
          rotate_left
          · intro w hSw
            have hwr := Hwr.out
            have hir := Hir.out
            have hoff := Hoff.out
            go_simp
            with_reducible rfl
          try go_frame
          refine wpAnyH_ready (rs := [8]) (by kernel_rfl) (by simp) ?_
          refine AllReadyH.cons (o := ⟨none, _, _, _, _, _⟩) rfl (fun K hK => ?_) AllReadyH.nil
          rw [if_pos (by rfl)]
          refine Go.wp_store_mid 34 (.tmp 32) (.tmp 30) rfl (g) (32 * k) rs.toArray rfl rfl (HThere.out _ hC) (by rw [Hsz.out]; kernel_rfl) Hone.out ?_
          have HRn : Hid (Row (wbd.setCells g (32 * k) rs) g 80 (cells (low l h (k + 1)))) := HRs.out _ hC
          have HBn : Hid (Below w.heap.size w (wbd.setCells g (32 * k) rs)) := below_cells Hgw.out rs (32 * k) (HB2.out.trans (hC.mono HB2.out.size))
          rw [List.toList_toArray]
          refine hK.out _ _ (row_apart (HKeep.out _ hC) Hgb.out rs (32 * k)) (fun hHeld => ?_)
          clear hK K
          generalize (wbd.setCells g (32 * k) rs) = wbd_st at *
          try go_frame
          refine wpAnyH_done (by kernel_rfl) ?_ _
          clear hC HKeep hHeld
          go_wp2
          go_roundw
          case rel => exact ⟨k + 1, by omega, by go_num, HRn, HBn⟩
          case measure => rw [iO, show intOf (.int .i64 (k : Int)) = (k : Int) from rfl]; omega
        · obtain rfl : k = N := by omega
          have HRf : Hid (Row wr g 80 (cells (full l h))) := by
            rw [← low_full l h, ← HN.out]; exact HR
          go_wp2
          go_ret
          exact ⟨⟨h, p, g, Hh, Hn4, hn64, Hgw, HRf, rfl⟩, HB.out⟩
end Go.Proofs.YtepbnimheedodaaDoor
