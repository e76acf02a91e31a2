/-
  THE WALK of the reference's Get (its drawn regions by wip/mkdget15.py).
-/
import Derived.Test.YtaamhdgngnpmoaaGF
import Derived.Deep.RegionLaw
namespace Go.Proofs.Ytaamhdgngnpmoaa
open Go.RowKit Dir

theorem wrapD (z : Int) (h1 : -9223372036854775808 ≤ z) (h2 : z ≤ 9223372036854775807) : IntKind.i64.wrap z = z := by
  show (if true && decide (z % (2 ^ 64 : Int) ≥ (2 ^ 63 : Int)) then z % (2 ^ 64 : Int) - (2 ^ 64 : Int) else z % (2 ^ 64 : Int)) = z
  rw [Bool.true_and]
  split
  · next h => have := of_decide_eq_true h; omega
  · next h => rw [decide_eq_true_eq] at h; omega
set_option maxRecDepth 100000 in
set_option maxHeartbeats 4000000 in
theorem RDiGet_any (b : List UInt8) (hb : b.length ≤ 1000) (v : Value) (w : World) (h : Arg w v b) :
    Calls Try.prog 14 #[v] w fun e w' => ∃ r, e = .returned (.tuple #[r, .bool (okG b)]) ∧ Hid (EntsHi w' w.heap.size r (getL b)) ∧ Below w.heap.size w w' := by
  have HArg := Lib.hid h
  obtain ⟨A, cap, hvf⟩ := h.form
  subst hvf
  obtain ⟨n, hnl⟩ : ∃ n, n = b.length := ⟨_, rfl⟩
  have HNl := Lib.hid hnl
  rw [← hnl] at hb HArg ⊢
  have HS : Hid (0 < n → n ≤ cap ∧ ∃ bb o, A = some ⟨bb, o, none⟩ ∧ bb < w.heap.size ∧ Sees w bb o (b.map V8)) := fun h0 => by
    rcases HArg.out with ⟨A', e, hbe⟩ | ⟨bb, o, c, e, hl, hc, hs⟩
    · rw [hnl, hbe] at h0; simp at h0
    · injection e with e1 e2 e3
      exact ⟨by omega, bb, o, e1, hl, hs⟩
  have HNil : Hid (∀ W : World, okG b = false → EntsHi W w.heap.size (.slice none 0 0) (getL b)) := fun W h => by
    rw [getL, if_neg (by rw [h]; exact Bool.false_ne_true)]
    exact ⟨none, 0, rfl, fun h => by simp at h⟩
  obtain ⟨r, hr⟩ : ∃ r, r = okG b := ⟨_, rfl⟩
  have HR := Lib.hid hr
  rw [← hr] at HNil ⊢
  clear hr h hnl
  go_enter Try.func14, Try.ntmps14
  by_cases h16 : n % 16 = 0
  · obtain ⟨m, rfl⟩ : ∃ m, n = 16 * m := ⟨n / 16, by omega⟩
    go_wp2
    go_loopw [4, 5] (fun out i wr => ∃ (k : Nat), k ≤ m ∧ i = .int .i64 (16 * (k : Int)) ∧ Hid (OwnE wr w.heap.size 49 out (entsN b k)) ∧ Hid (∀ i, i < k → (b.getD (16 * i + 1) 0).toNat ≤ 14) ∧ Hid (Below w.heap.size w wr)) (fun _ i _ => 16 * m - (intOf i).toNat)
    case atStart => exact ⟨0, by omega, rfl, OwnE.nil _ _ _, fun i hi => by omega, Below.refl _ _⟩
    case round =>
      rename World => wx
      obtain ⟨k, hk, rfl, Hown, H14, Hbel⟩ := hrel
      by_cases hlt : k < m
      · obtain ⟨hcap, bb, o, rfl, hbl, hsee⟩ := HS.out (by omega)
        have hx1 := at8 (hsee.below Hbel.out hbl) (16 * k + 1) (by rw [← HNl.out]; omega)
        have hx0 := at8 (hsee.below Hbel.out hbl) (16 * k) (by rw [← HNl.out]; omega)
        obtain ⟨x1, hx1e⟩ : ∃ x, x = b.getD (16 * k + 1) 0 := ⟨_, rfl⟩
        obtain ⟨x0, hx0e⟩ : ∃ x, x = b.getD (16 * k) 0 := ⟨_, rfl⟩
        rw [← hx1e] at hx1
        rw [← hx0e] at hx0
        have HX1 := Lib.hid hx1e
        have HX0 := Lib.hid hx0e
        clear hx1e hx0e
        obtain ⟨y1, hy1⟩ : ∃ y, y = x1.toNat := ⟨_, rfl⟩
        have HY1 := Lib.hid hy1
        have hy8 : y1 < 256 := by rw [hy1]; exact lt8 x1
        rw [← hy1] at hx1
        have hx08 := lt8 x0
        clear hy1
        by_cases hgt : 14 < y1
        · have HF : Hid (r = false) := by
            show _ = _
            rw [HR.out, ← Bool.not_eq_true]
            intro h
            have := (okG_iff.1 h).2.1 k (by have := HNl.out; omega)
            rw [← HX1.out, ← HY1.out] at this
            omega
          go_wp2
          go_ret2
          rw [HF.out]
          exact ⟨_, rfl, HNil.out _ HF.out, Hbel.out⟩
        · have HSee := Lib.hid hsee
          have HBl := Lib.hid hbl
          clear hsee hbl
          obtain ⟨nm, hnm⟩ : ∃ nm, nm = ((b.drop (16 * k)).drop 2).take y1 := ⟨_, rfl⟩
          have HNm := Lib.hid hnm
          clear hnm
          have hbx := HBl.out
          have HB2 := Lib.hid Hbel.out.size
          have hlx : bb < wx.heap.size := Nat.lt_of_lt_of_le HBl.out Hbel.out.size
          have hnl : nm.length = y1 := by rw [HNm.out, List.length_take, List.length_drop, List.length_drop, ← HNl.out]; omega
          have hcell : ∀ W : World, Below w.heap.size w W → W.cell? ⟨bb, o + 16 * k, none⟩ = some (.int .u8 (x0.toNat : Int)) := fun W hW => by
            have := at8 (HSee.out.below hW HBl.out) (16 * k) (by rw [← HNl.out]; omega)
            rwa [← HX0.out] at this
          have hAr : ∀ W : World, Below w.heap.size w W → Arg W (.slice (some ⟨bb, o + (16 * k + 2), none⟩) y1 (cap - (16 * k + 2))) nm := fun W hW => .inr ⟨bb, _, _, by rw [hnl], Nat.lt_of_lt_of_le HBl.out hW.size, by omega, by
            have := (HSee.out.below hW HBl.out).piece (16 * k + 2) y1
            rw [← List.map_drop, ← List.map_take, ← List.drop_drop, ← HNm.out] at this
            exact this⟩
          have hLn : (entsN b k).length + 1 ≤ 100000 := by simp [entsN]; omega
          have HLn := Lib.hid hLn
          have HKeep : Hid (∀ W : World, Below w.heap.size w W → W.cell? ⟨bb, o + 16 * k, none⟩ = some (.int .u8 (x0.toNat : Int)) ∧ Arg W (.slice (some ⟨bb, o + (16 * k + 2), none⟩) y1 (cap - (16 * k + 2))) nm) := fun W hW => ⟨hcell W hW, hAr W hW⟩
          clear hbx hlx hnl hAr hLn hcell
          go_wp2_with fail
          have hC : Below w.heap.size w wx.drew := Hbel.out.drew
          have O_out : Hid (OwnE wx.drew w.heap.size 49 u4 (entsN b k)) := Hown.out
          refine wp_region_held_drew (S := (fun W => W.cell? ⟨bb, o + 16 * k, none⟩ = some (.int .u8 (x0.toNat : Int)) ∧ Arg W (.slice (some ⟨bb, o + (16 * k + 2), none⟩) y1 (cap - (16 * k + 2))) nm)) (by kernel_rfl) (HKeep.out _ hC) (fun hHeld => ?_)
          generalize wx.drew = wxd at *
          refine wpAnyH_take (i := 0) (oi := ⟨some 26, _, _, _, _, _⟩) (v := ?_) rfl (by kernel_rfl) (by kernel_rfl) (by kernel_rfl) (fun _ _ _ h => h) (Or.inl ⟨by rfl, ?_⟩) hHeld ?_
          rotate_left
          · intro w hSw
            go_simp
            with_reducible rfl
          try go_frame
          refine wpAnyH_take (i := 1) (oi := ⟨some 27, _, _, _, _, _⟩) (v := ?_) rfl (by kernel_rfl) (by kernel_rfl) (by kernel_rfl) (fun _ _ _ h => h) (Or.inl ⟨by rfl, ?_⟩) hHeld ?_
          rotate_left
          · intro w hSw
            go_simp
            with_reducible rfl
          try go_frame
          refine wpAnyH_take (i := 2) (oi := ⟨some 28, _, _, _, _, _⟩) (v := ?_) rfl (by kernel_rfl) (by kernel_rfl) (by kernel_rfl) (fun _ _ _ h => h) (Or.inl ⟨by rfl, ?_⟩) hHeld ?_
          rotate_left
          · intro w hSw
            go_simp
            with_reducible rfl
          try go_frame
          refine wpAnyH_take (i := 3) (oi := ⟨some 29, _, _, _, _, _⟩) (v := ?_) rfl (by kernel_rfl) (by kernel_rfl) (by kernel_rfl) (fun _ _ _ h => h) (Or.inl ⟨by rfl, ?_⟩) hHeld ?_
          rotate_left
          · intro w hSw
            have hw1 : IntKind.i64.wrap (16 * (k : Int) + 2) = 16 * (k : Int) + 2 := wrapD _ (by omega) (by omega)
            go_simp
            with_reducible rfl
          try go_frame
          refine wpAnyH_take (i := 4) (oi := ⟨some 30, _, _, _, _, _⟩) (v := ?_) rfl (by kernel_rfl) (by kernel_rfl) (by kernel_rfl) (fun _ _ _ h => h) (Or.inl ⟨by rfl, ?_⟩) hHeld ?_
          rotate_left
          · intro w hSw
            go_simp
            with_reducible rfl
          try go_frame
          refine wpAnyH_take (i := 5) (oi := ⟨some 31, _, _, _, _, _⟩) (v := ?_) rfl (by kernel_rfl) (by kernel_rfl) (by kernel_rfl) (fun _ _ _ h => h) (Or.inl ⟨by rfl, ?_⟩) hHeld ?_
          rotate_left
          · intro w hSw
            have hw1 : IntKind.i64.wrap (16 * (k : Int) + 2) = 16 * (k : Int) + 2 := wrapD _ (by omega) (by omega)
            go_simp
            with_reducible rfl
          try go_frame
          refine wpAnyH_take (i := 6) (oi := ⟨some 32, _, _, _, _, _⟩) (v := ?_) rfl (by kernel_rfl) (by kernel_rfl) (by kernel_rfl) (fun _ _ _ h => h) (Or.inl ⟨by rfl, ?_⟩) hHeld ?_
          rotate_left
          · intro w hSw
            go_simp
            with_reducible rfl
          try go_frame
          refine wpAnyH_take (i := 7) (oi := ⟨some 33, _, _, _, _, _⟩) (v := ?_) rfl (by kernel_rfl) (by kernel_rfl) (by kernel_rfl) (fun _ _ _ h => h) (Or.inl ⟨by rfl, ?_⟩) hHeld ?_
          rotate_left
          · intro w hSw
            have hw2 : IntKind.i64.wrap (16 * (k : Int) + 2 + (y1 : Int)) = 16 * (k : Int) + 2 + (y1 : Int) := wrapD _ (by omega) (by omega)
            go_simp
            with_reducible rfl
          try go_frame
          refine wpAnyH_take (i := 8) (oi := ⟨some 34, _, _, _, _, _⟩) (v := ?_) rfl (by kernel_rfl) (by kernel_rfl) (by kernel_rfl) (fun _ _ _ h => h) (Or.inl ⟨by rfl, ?_⟩) hHeld ?_
          rotate_left
          · intro w hSw
            have hz1 : 0 ≤ 16 * (k : Int) + 2 := by omega
            have hz2 : 0 ≤ 16 * (k : Int) + 2 + (y1 : Int) := by omega
            have hz3 : 16 * (k : Int) + 2 + (y1 : Int) ≤ cap := by omega
            have hz4 : 16 * (k : Int) + 2 ≤ 16 * (k : Int) + 2 + (y1 : Int) := by omega
            have hm : max (16 * (k : Int) + 2 + (y1 : Int)) 0 = 16 * (k : Int) + 2 + (y1 : Int) := by omega
            have ht1 : (16 * (k : Int) + 2).toNat = 16 * k + 2 := by omega
            have ht2 : (16 * (k : Int) + 2 + (y1 : Int)).toNat = 16 * k + 2 + y1 := by omega
            have hne : ¬ cap = 16 * k + 2 := by omega
            have hsb : 16 * k + 2 + y1 - (16 * k + 2) = y1 := by omega
            go_simp
            with_reducible rfl
          try go_frame
          refine wpAnyH_take (i := 9) (oi := ⟨some 35, _, _, _, _, _⟩) (v := ?_) rfl (by kernel_rfl) (by kernel_rfl) (by kernel_rfl) (fun _ _ _ h => h) (Or.inl ⟨by rfl, ?_⟩) hHeld ?_
          rotate_left
          · intro w hSw
            have hcv := conv_arg hSw.2
            go_simp
            with_reducible rfl
          try go_frame
          refine wpAnyH_take (i := 10) (oi := ⟨some 36, _, _, _, _, _⟩) (v := ?_) rfl (by kernel_rfl) (by kernel_rfl) (by kernel_rfl) (fun _ _ _ h => h) (Or.inl ⟨by rfl, ?_⟩) hHeld ?_
          rotate_left
          · intro w hSw
            go_simp
            with_reducible rfl
          try go_frame
          refine wpAnyH_take (i := 11) (oi := ⟨some 37, _, _, _, _, _⟩) (v := ?_) rfl (by kernel_rfl) (by kernel_rfl) (by kernel_rfl) (fun _ _ _ h => h) (Or.inl ⟨by rfl, ?_⟩) hHeld ?_
          rotate_left
          · intro w hSw
            go_simp
            with_reducible rfl
          try go_frame
          refine wpAnyH_take (i := 12) (oi := ⟨some 38, _, _, _, _, _⟩) (v := ?_) rfl (by kernel_rfl) (by kernel_rfl) (by kernel_rfl) (fun _ _ _ h => h) (Or.inl ⟨by rfl, ?_⟩) hHeld ?_
          rotate_left
          · intro w hSw
            have hz : 0 ≤ 16 * (k : Int) := by omega
            have ht : (16 * (k : Int)).toNat = 16 * k := by omega
            go_simp
            with_reducible rfl
          try go_frame
          refine wpAnyH_take (i := 13) (oi := ⟨some 39, _, _, _, _, _⟩) (v := ?_) rfl (by kernel_rfl) (by kernel_rfl) (by kernel_rfl) (fun _ _ _ h => h) (Or.inl ⟨by rfl, ?_⟩) hHeld ?_
          rotate_left
          · intro w hSw
            have hc := hSw.1
            go_simp
            with_reducible rfl
          try go_frame
          refine wpAnyH_take (i := 14) (oi := ⟨some 40, _, _, _, _, _⟩) (v := ?_) rfl (by kernel_rfl) (by kernel_rfl) (by kernel_rfl) (fun _ _ _ h => h) (Or.inl ⟨by rfl, ?_⟩) hHeld ?_
          rotate_left
          · intro w hSw
            have hwx : IntKind.i64.wrap (x0.toNat : Int) = x0.toNat := wrapD _ (by omega) (by omega)
            go_simp
            with_reducible rfl
          try go_frame
          refine wpAnyH_take (i := 15) (oi := ⟨some 41, _, _, _, _, _⟩) (v := ?_) rfl (by kernel_rfl) (by kernel_rfl) (by kernel_rfl) (fun _ _ _ h => h) (Or.inl ⟨by rfl, ?_⟩) hHeld ?_
          rotate_left
          · intro w hSw
            go_simp
            with_reducible rfl
          try go_frame
          refine wpAnyH_ready (rs := [16]) (by kernel_rfl) (by simp) ?_
          refine AllReadyH.cons (o := ⟨some 42, _, _, _, _, _⟩) rfl (fun K hK => ?_) AllReadyH.nil
          go_simp
          have hb : Below wxd.heap.size wxd (wxd.alloc (.cells #[.string (strB nm), .int .i64 x0.toNat] 49)) := Joins.below_alloc1 _ _
          have hg_ls := hC.size
          obtain ⟨g_ls, Hg_ls⟩ : ∃ g, Hid (g = wxd.heap.size) := ⟨_, rfl⟩
          have R_ls : Hid (Row (wxd.alloc (.cells #[.string (strB nm), .int .i64 x0.toNat] 49)) wxd.heap.size 49 (cE ⟨nm, (x0.toNat : Int)⟩)) := Row.new wxd _ _
          replace hC := hC.trans (hb.mono hC.size)
          replace O_out := Lib.hid (O_out.out.below hb (Nat.le_refl _))
          refine hK.out _ _ (HKeep.out _ hC) (fun hHeld => ?_)
          clear hK K hb
          generalize (wxd.alloc (.cells #[.string (strB nm), .int .i64 x0.toNat] 49)) = wxd_ls at *
          rw [← Hg_ls.out] at hg_ls ⊢
          rw [← Hg_ls.out] at R_ls
          clear Hg_ls
          try go_frame
          refine wpAnyH_ready (rs := [17]) (by kernel_rfl) (by simp) ?_
          refine AllReadyH.cons (o := ⟨some 43, _, _, _, _, _⟩) rfl (fun K hK => ?_) AllReadyH.nil
          have hs0 := hC.size
          refine step_appE rfl (.tmp 26) (.tmp 42) 31 rfl Try.underlying31 infoREn rfl O_out.out g_ls ⟨nm, (x0.toNat : Int)⟩ rfl R_ls.out HLn.out hs0 ?_
          intro v3 w3 hown hg _
          replace hC := below_appE hC O_out.out hg (Nat.le_refl _) hs0
          have HV3 := Lib.hid hown
          clear hown hg R_ls O_out
          refine hK.out _ _ (HKeep.out _ hC) (fun hHeld => ?_)
          clear hK K
          try go_frame
          refine wpAnyH_take (i := 18) (oi := ⟨some 4, _, _, _, _, _⟩) (v := ?_) rfl (by kernel_rfl) (by kernel_rfl) (by kernel_rfl) (fun _ _ _ h => h) (Or.inl ⟨by rfl, ?_⟩) hHeld ?_
          rotate_left
          · intro w hSw
            go_simp
            with_reducible rfl
          try go_frame
          refine wpAnyH_done (by kernel_rfl) ?_ _
          clear hHeld HKeep
          have HO3 : Hid (OwnE w3 w.heap.size 49 v3 (entsN b (k + 1))) := by
            show OwnE _ _ _ _ _
            have e : decE (b.drop (16 * k)) = ⟨nm, (x0.toNat : Int)⟩ := by
              unfold decE
              rw [List.getD_eq_getElem?_getD, List.getElem?_drop, List.getD_eq_getElem?_getD, List.getElem?_drop, HNm.out, HY1.out, HX1.out, HX0.out, List.getD_eq_getElem?_getD, List.getD_eq_getElem?_getD]
              rfl
            rw [entsN_succ, e]
            exact HV3.out
          have H15 : Hid (∀ i, i < k + 1 → (b.getD (16 * i + 1) 0).toNat ≤ 14) := fun i hi => by
            by_cases e : i = k
            · subst e; rw [← HX1.out, ← HY1.out]; omega
            · exact H14.out i (by omega)
          have HB3 := Lib.hid hC
          clear hC HV3 Hown H14 Hbel HSee HBl HNm HY1 HX1 HX0 HLn HB2 HS
          go_wp2
          go_roundw
          case rel => exact ⟨k + 1, by omega, by go_num, HO3, H15, HB3⟩
          case measure => simp [intOf]; omega
      · have ek : k = m := by omega
        have HEn : Hid (entsN b k = ents b) := by show _ = _; rw [ek, ents, ← HNl.out, show 16 * m / 16 = m by omega]; rfl
        rw [HEn.out] at Hown
        have hlen : (ents b).length ≤ 1000 := by rw [ents_length, ← HNl.out]; omega
        have hel : ∀ e ∈ ents b, e.n.length ≤ 14 ∧ 0 ≤ e.k ∧ e.k ≤ 255 := fun e he => by
          obtain ⟨i, hi, rfl⟩ := List.mem_map.1 he
          have hi' : i < k := by have := List.mem_range.1 hi; have := HNl.out; omega
          have h14 := H14.out i hi'
          have e1 : (b.drop (16 * i)).getD 1 0 = b.getD (16 * i + 1) 0 := by rw [List.getD_eq_getElem?_getD, List.getElem?_drop, List.getD_eq_getElem?_getD]
          refine ⟨?_, by unfold decE; simp only; omega, by unfold decE; have := lt8 ((b.drop (16 * i)).getD 0 0); simp only; omega⟩
          unfold decE
          simp only [List.length_take, e1]
          omega
        have HHi := Lib.hid Hown.out.hi
        have HFine := Lib.hid (RDiFine_any (ents b) (by omega) (fun e he => by have := (hel e he).1; omega) (fun e he => by have := hel e he; omega) _ wx HHi.out.at_)
        have HPut := Lib.hid fun W hW => RDiPut_any (ents b) hlen hel _ W (HHi.out.at_.below (w' := W) hW)
        have HRr : Hid (r = (fine (ents b) && decide (encL (ents b) = b))) := by
          show _ = _
          rw [HR.out, Bool.eq_iff_iff, okG_iff, Bool.and_eq_true, decide_eq_true_eq]
          constructor
          · rintro ⟨_, _, h3, h4⟩; exact ⟨h3, h4⟩
          · rintro ⟨h3, h4⟩; exact ⟨by rw [← HNl.out]; exact h16, fun i hi => H14.out i (by have := HNl.out; omega), h3, h4⟩
        have HG : Hid (r = true → getL b = ents b) := fun h => by rw [getL, if_pos (by rw [← HR.out]; exact h)]
        have HBArg : Hid (∀ W : World, Below w.heap.size w W → Arg W (.slice A (16 * m) cap) b) := fun W hW => HArg.out.below hW
        rw [show (16 * (k : Int)) = 16 * (m : Int) by omega]
        clear hlen hel Hown H14 HEn HS
        go_wp2_with fail
        refine HFine.out.mono ?_
        rintro e w4 ⟨rfl, hb4⟩
        have HB4 := Lib.hid (Hbel.out.trans (hb4.mono Hbel.out.size))
        have HHi4 := Lib.hid (HHi.out.below hb4)
        have HPut4 := Lib.hid fun W (hW : Below w4.heap.size w4 W) => HPut.out W (hb4.trans (hW.mono hb4.size))
        clear hb4 HFine HPut HHi
        obtain ⟨fi, hfi⟩ : ∃ fi, fi = fine (ents b) := ⟨_, rfl⟩
        rw [← hfi] at HRr ⊢
        clear hfi
        cases fi
        · have HF : Hid (r = false) := by rw [HRr.out]; rfl
          go_wp2
          go_quiet (fail)
          go_wp2
          go_ret2
          rw [HF.out]
          exact ⟨_, rfl, HNil.out _ HF.out, below_drewN HB4.out _⟩
        · have HKeep : Hid (∀ W : World, Below w4.heap.size w4 W → (convert 23 9 (.slice A (16 * m) cap)).run Try.prog W = .ok (.string (strB b)) W) := fun W hW => conv_arg (HBArg.out W (HB4.out.trans (hW.mono HB4.out.size)))
          by_cases heq : encL (ents b) = b
          · have HQ : Hid (((strB (encL (ents b))).toList == (strB b).toList) = true) := by show _ = _; rw [heq]; simp
            have HQ2 : Hid ((strB (encL (ents b))).toList = (strB b).toList) := by show _ = _; rw [heq]
            have HF : Hid (r = true) := by rw [HRr.out, decide_eq_true heq]; rfl
            clear heq
            go_wp2_with fail
            have hC : Below w4.heap.size w4 w4.drew := below_drewN (Below.refl _ _) 1
            refine wp_region_held_drew (S := (fun W => (convert 23 9 (.slice A (16 * m) cap)).run Try.prog W = .ok (.string (strB b)) W)) (by kernel_rfl) (HKeep.out _ hC) (fun hHeld => ?_)
            generalize w4.drew = w4d at *
            refine wpAnyH_take (i := 0) (oi := ⟨some 46, _, _, _, _, _⟩) (v := ?_) rfl (by kernel_rfl) (by kernel_rfl) (by kernel_rfl) (fun _ _ _ h => h) (Or.inl ⟨by rfl, ?_⟩) hHeld ?_
            rotate_left
            · intro w hSw
              go_simp
              with_reducible rfl
            try go_frame
            refine wpAnyH_take (i := 1) (oi := ⟨some 47, _, _, _, _, _⟩) (v := ?_) rfl (by kernel_rfl) (by kernel_rfl) (by kernel_rfl) (fun _ _ _ h => h) (Or.inl ⟨by rfl, ?_⟩) hHeld ?_
            rotate_left
            · intro w hSw
              go_simp
              with_reducible rfl
            try go_frame
            refine wpAnyH_take (i := 2) (oi := ⟨some 48, _, _, _, _, _⟩) (v := ?_) rfl (by kernel_rfl) (by kernel_rfl) (by kernel_rfl) (fun _ _ _ h => h) (Or.inl ⟨by rfl, ?_⟩) hHeld ?_
            rotate_left
            · intro w hSw
              go_simp
              with_reducible rfl
            try go_frame
            refine wpAnyH_take (i := 3) (oi := ⟨some 49, _, _, _, _, _⟩) (v := ?_) rfl (by kernel_rfl) (by kernel_rfl) (by kernel_rfl) (fun _ _ _ h => h) (Or.inl ⟨by rfl, ?_⟩) hHeld ?_
            rotate_left
            · intro w hSw
              go_simp
              with_reducible rfl
            try go_frame
            refine wpAnyH_take (i := 6) (oi := ⟨some 52, _, _, _, _, _⟩) (v := ?_) rfl (by kernel_rfl) (by kernel_rfl) (by kernel_rfl) (fun _ _ _ h => h) (Or.inl ⟨by rfl, ?_⟩) hHeld ?_
            rotate_left
            · intro w hSw
              go_simp
              with_reducible rfl
            try go_frame
            refine wpAnyH_take (i := 7) (oi := ⟨some 53, _, _, _, _, _⟩) (v := ?_) rfl (by kernel_rfl) (by kernel_rfl) (by kernel_rfl) (fun _ _ _ h => h) (Or.inl ⟨by rfl, ?_⟩) hHeld ?_
            rotate_left
            · intro w hSw
              have hcv := hSw
              go_simp
              with_reducible rfl
            try go_frame
            refine wpAnyH_ready (rs := [4]) (by kernel_rfl) (by simp) ?_
            refine AllReadyH.cons (o := ⟨some 50, _, _, _, _, _⟩) rfl (fun K hK => ?_) AllReadyH.nil
            go_simp
            go_at_call 12
            refine (HPut4.out w4d hC).mono ?_
            rintro e w4d_pu ⟨rp, rfl, HP, hb⟩
            have F_p : Hid (Arg w4d_pu rp (encL (ents b))) := HP.out.arg
            replace hC := hC.trans (hb.mono hC.size)
            refine hK.out _ _ (HKeep.out _ hC) (fun hHeld => ?_)
            clear hK K hb HP
            try go_frame
            refine wpAnyH_ready (rs := [5]) (by kernel_rfl) (by simp) ?_
            refine AllReadyH.cons (o := ⟨some 51, _, _, _, _, _⟩) rfl (fun K hK => ?_) AllReadyH.nil
            have hcv := conv_arg F_p.out
            go_simp
            clear hcv
            refine hK.out _ _ (HKeep.out _ hC) (fun hHeld => ?_)
            clear hK K
            try go_frame
            refine wpAnyH_take (i := 8) (oi := ⟨some 54, _, _, _, _, _⟩) (v := ?_) rfl (by kernel_rfl) (by kernel_rfl) (by kernel_rfl) (fun _ _ _ h => h) (Or.inl ⟨by rfl, ?_⟩) hHeld ?_
            rotate_left
            · intro w hSw
              have hq := HQ.out
              have hq2 := HQ2.out
              go_simp
              with_reducible rfl
            try go_frame
            refine wpAnyH_take (i := 9) (oi := ⟨some 55, _, _, _, _, _⟩) (v := ?_) rfl (by kernel_rfl) (by kernel_rfl) (by kernel_rfl) (fun _ _ _ h => h) (Or.inl ⟨by rfl, ?_⟩) hHeld ?_
            rotate_left
            · intro w hSw
              go_simp
              with_reducible rfl
            try go_frame
            refine wpAnyH_done (by kernel_rfl) ?_ _
            have HBz : Hid (Below w4.heap.size w4 w4d_pu) := hC
            clear hHeld HKeep hC
            generalize w4d_pu = wz at *
            go_wp2
            go_ret2
            rw [HF.out]
            refine ⟨_, rfl, ?_, HB4.out.trans (HBz.out.mono HB4.out.size)⟩
            rw [HG.out HF.out]
            exact HHi4.out.below HBz.out
          · have HQ : Hid (((strB (encL (ents b))).toList == (strB b).toList) = false) := strB_ne heq
            have HQ2 : Hid (¬ (strB (encL (ents b))).toList = (strB b).toList) := by show ¬ _; rw [strB_list, strB_list]; exact heq
            have HF : Hid (r = false) := by rw [HRr.out, decide_eq_false heq]; rfl
            clear heq
            go_wp2_with fail
            have hC : Below w4.heap.size w4 w4.drew := below_drewN (Below.refl _ _) 1
            refine wp_region_held_drew (S := (fun W => (convert 23 9 (.slice A (16 * m) cap)).run Try.prog W = .ok (.string (strB b)) W)) (by kernel_rfl) (HKeep.out _ hC) (fun hHeld => ?_)
            generalize w4.drew = w4d at *
            refine wpAnyH_take (i := 0) (oi := ⟨some 46, _, _, _, _, _⟩) (v := ?_) rfl (by kernel_rfl) (by kernel_rfl) (by kernel_rfl) (fun _ _ _ h => h) (Or.inl ⟨by rfl, ?_⟩) hHeld ?_
            rotate_left
            · intro w hSw
              go_simp
              with_reducible rfl
            try go_frame
            refine wpAnyH_take (i := 1) (oi := ⟨some 47, _, _, _, _, _⟩) (v := ?_) rfl (by kernel_rfl) (by kernel_rfl) (by kernel_rfl) (fun _ _ _ h => h) (Or.inl ⟨by rfl, ?_⟩) hHeld ?_
            rotate_left
            · intro w hSw
              go_simp
              with_reducible rfl
            try go_frame
            refine wpAnyH_take (i := 2) (oi := ⟨some 48, _, _, _, _, _⟩) (v := ?_) rfl (by kernel_rfl) (by kernel_rfl) (by kernel_rfl) (fun _ _ _ h => h) (Or.inl ⟨by rfl, ?_⟩) hHeld ?_
            rotate_left
            · intro w hSw
              go_simp
              with_reducible rfl
            try go_frame
            refine wpAnyH_take (i := 3) (oi := ⟨some 49, _, _, _, _, _⟩) (v := ?_) rfl (by kernel_rfl) (by kernel_rfl) (by kernel_rfl) (fun _ _ _ h => h) (Or.inl ⟨by rfl, ?_⟩) hHeld ?_
            rotate_left
            · intro w hSw
              go_simp
              with_reducible rfl
            try go_frame
            refine wpAnyH_take (i := 6) (oi := ⟨some 52, _, _, _, _, _⟩) (v := ?_) rfl (by kernel_rfl) (by kernel_rfl) (by kernel_rfl) (fun _ _ _ h => h) (Or.inl ⟨by rfl, ?_⟩) hHeld ?_
            rotate_left
            · intro w hSw
              go_simp
              with_reducible rfl
            try go_frame
            refine wpAnyH_take (i := 7) (oi := ⟨some 53, _, _, _, _, _⟩) (v := ?_) rfl (by kernel_rfl) (by kernel_rfl) (by kernel_rfl) (fun _ _ _ h => h) (Or.inl ⟨by rfl, ?_⟩) hHeld ?_
            rotate_left
            · intro w hSw
              have hcv := hSw
              go_simp
              with_reducible rfl
            try go_frame
            refine wpAnyH_ready (rs := [4]) (by kernel_rfl) (by simp) ?_
            refine AllReadyH.cons (o := ⟨some 50, _, _, _, _, _⟩) rfl (fun K hK => ?_) AllReadyH.nil
            go_simp
            go_at_call 12
            refine (HPut4.out w4d hC).mono ?_
            rintro e w4d_pu ⟨rp, rfl, HP, hb⟩
            have F_p : Hid (Arg w4d_pu rp (encL (ents b))) := HP.out.arg
            replace hC := hC.trans (hb.mono hC.size)
            refine hK.out _ _ (HKeep.out _ hC) (fun hHeld => ?_)
            clear hK K hb HP
            try go_frame
            refine wpAnyH_ready (rs := [5]) (by kernel_rfl) (by simp) ?_
            refine AllReadyH.cons (o := ⟨some 51, _, _, _, _, _⟩) rfl (fun K hK => ?_) AllReadyH.nil
            have hcv := conv_arg F_p.out
            go_simp
            clear hcv
            refine hK.out _ _ (HKeep.out _ hC) (fun hHeld => ?_)
            clear hK K
            try go_frame
            refine wpAnyH_take (i := 8) (oi := ⟨some 54, _, _, _, _, _⟩) (v := ?_) rfl (by kernel_rfl) (by kernel_rfl) (by kernel_rfl) (fun _ _ _ h => h) (Or.inl ⟨by rfl, ?_⟩) hHeld ?_
            rotate_left
            · intro w hSw
              have hq := HQ.out
              have hq2 := HQ2.out
              go_simp
              with_reducible rfl
            try go_frame
            refine wpAnyH_take (i := 9) (oi := ⟨some 55, _, _, _, _, _⟩) (v := ?_) rfl (by kernel_rfl) (by kernel_rfl) (by kernel_rfl) (fun _ _ _ h => h) (Or.inl ⟨by rfl, ?_⟩) hHeld ?_
            rotate_left
            · intro w hSw
              go_simp
              with_reducible rfl
            try go_frame
            refine wpAnyH_done (by kernel_rfl) ?_ _
            have HBz : Hid (Below w4.heap.size w4 w4d_pu) := hC
            clear hHeld HKeep hC
            generalize w4d_pu = wz at *
            go_wp2
            go_ret2
            rw [HF.out]
            exact ⟨_, rfl, HNil.out _ HF.out, HB4.out.trans (HBz.out.mono HB4.out.size)⟩
  · have HF : Hid (r = false) := by
      show _ = _
      rw [HR.out, ← Bool.not_eq_true]
      intro h
      have := (okG_iff.1 h).1
      rw [← HNl.out] at this
      exact h16 this
    go_wp2
    go_ret2
    rw [HF.out]
    exact ⟨_, rfl, HNil.out _ HF.out, Below.refl _ _⟩
end Go.Proofs.Ytaamhdgngnpmoaa
