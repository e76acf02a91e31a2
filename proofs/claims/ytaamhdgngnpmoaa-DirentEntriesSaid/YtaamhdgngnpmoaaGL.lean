/-
  THE WALK of the law DirentEntries, over the contracts (written by wip/mkdent15.py).
-/
import Derived.Test.YtaamhdgngnpmoaaGK
import Derived.Test.YtaamhdgngnpmoaaGG
namespace Go.Proofs.Ytaamhdgngnpmoaa
open Go.RowKit Dir

set_option maxRecDepth 100000 in
set_option maxHeartbeats 8000000 in
theorem DiEntries_any (X : DirC) (s : List UInt8) (hs : s.length ≤ 9223372036854775807) (l : List En) (hl : EnsOk l) (v : Value) (b : List UInt8) (u : Value) (w : World) (hE : EntsAt w v l) (hA : Arg w u b) :
    Calls Try.prog 3 #[.string (strB s), v, u] w fun e w' => e = .returned (.bool true) ∧ Below w.heap.size w w' := by
  have HK := Lib.hid fun W => Diknows_any X W
  have HEn := Lib.hid hE
  have HAr := Lib.hid hA
  obtain ⟨A, cap, rfl, hsee⟩ := hE
  obtain ⟨B, bcap, rfl⟩ := hA.form
  have hss := strB_size' s
  by_cases hbig : 100 < s.length ∨ 40 < l.length ∨ 700 < b.length
  · clear HEn hl hsee HAr hA hs
    generalize l.length = n at *
    generalize b.length = m at *
    generalize strB s = sb at *
    generalize s.length = q at *
    by_cases h1 : 100 < q
    · clear hbig
      go_enter Try.func3, Try.ntmps3
      go_wp2_with fail
      refine (HK.out w).mono ?_
      rintro e w2 ⟨rfl, hb⟩
      have HB := Lib.hid hb
      clear hb HK
      go_wp2
      go_ret
      exact ⟨rfl, HB.out⟩
    by_cases h2 : 40 < n
    · clear hbig
      go_enter Try.func3, Try.ntmps3
      go_wp2_with fail
      refine (HK.out w).mono ?_
      rintro e w2 ⟨rfl, hb⟩
      have HB := Lib.hid hb
      clear hb HK
      go_wp2
      go_ret
      exact ⟨rfl, HB.out⟩
    · have h3 : 700 < m := by omega
      clear hbig
      go_enter Try.func3, Try.ntmps3
      go_wp2_with fail
      refine (HK.out w).mono ?_
      rintro e w2 ⟨rfl, hb⟩
      have HB := Lib.hid hb
      clear hb HK
      go_wp2
      go_ret
      exact ⟨rfl, HB.out⟩
  have hq : s.length ≤ 100 := by omega
  have hn : l.length ≤ 40 := by omega
  have hm : b.length ≤ 700 := by omega
  have HPut := Lib.hid (X.put l _ w (by omega) hl HEn.out)
  have HAs := Lib.hid fun W (hW : Below w.heap.size w W) => DiAs_any l (by omega) _ W (HEn.out.below hW)
  have HNm := Lib.hid fun W => X.name s W hs
  have HRn := Lib.hid fun W => (RDiName_any s (by omega) W).mono fun e w' (h : _ ∧ _) => (⟨h.1, by rw [h.2]; exact Below.refl _ _⟩ : _ ∧ Below W.heap.size W w')
  have HGet := Lib.hid fun W (hW : Below w.heap.size w W) => X.get b _ W (by omega) (HAr.out.below hW)
  have HRGet := Lib.hid fun W (hW : Below w.heap.size w W) => RDiGet_any b (by omega) _ W (HAr.out.below hW)
  have HRF : Hid ((∀ e ∈ l, e.n.length ≤ 100) → ∀ v W, EntsAt W v l → Calls Try.prog 8 #[v] W fun e w' => e = .returned (.bool (fine l)) ∧ Below W.heap.size W w') := fun h v W hv => RDiFine_any l (by omega) (fun e he => by have := h e he; omega) (fun e he => (hl e he).2) v W hv
  have HRP : Hid (fine l = true → ∀ v W, EntsAt W v l → Calls Try.prog 12 #[v] W fun e w' => ∃ r, e = .returned r ∧ Hid (Own w' W.heap.size 5 r ((encL l).map V8)) ∧ Below W.heap.size W w') := fun hf v W hv => RDiPut_any l (by omega) (fun e he => by have h1 := okE_iff.1 (fine_mem hf he); have h2 := nameE_ok h1.1; exact ⟨by omega, by omega, by omega⟩) v W hv
  have HS : Hid (∀ k, k < l.length → ∃ b o, A = some ⟨b, o, none⟩ ∧ w.cell? ⟨b, o + k * 2, none⟩ = some (SB (l.getD k ⟨[], 0⟩).n)) := fun k hk => by
    obtain ⟨b, o, e, hb, h⟩ := hsee (by omega)
    exact ⟨b, o, e, (atE h k hk).1⟩
  have HM100 : Hid ((∀ k, k < l.length → (l.getD k ⟨[], 0⟩).n.length ≤ 100) → ∀ e ∈ l, e.n.length ≤ 100) := fun h e he => by
    obtain ⟨k, hk, rfl⟩ := List.getElem_of_mem he
    have := h k hk
    rwa [List.getD_eq_getElem?_getD, List.getElem?_eq_getElem hk] at this
  have HGl : Hid ((getL b).length ≤ 90000) := by
    show _ ≤ _
    unfold getL
    split
    · rw [ents_length]; omega
    · exact Nat.zero_le _
  have hgg : ((if okG b = true then (0 : Int) else 10) = 0 ∧ okG b = true) ∨ ((if okG b = true then (0 : Int) else 10) = 10 ∧ okG b = false) := by
    cases okG b
    · exact .inr ⟨rfl, rfl⟩
    · exact .inl ⟨rfl, rfl⟩
  generalize hge : (if okG b = true then (0 : Int) else 10) = ge at *
  clear hge
  have hpp : (fine l = true ∧ (if fine l = true then (0 : Int) else 1) = 0) ∨ (fine l = false ∧ (if fine l = true then (0 : Int) else 1) = 1) := by
    cases fine l
    · exact .inr ⟨rfl, rfl⟩
    · exact .inl ⟨rfl, rfl⟩
  generalize hpe : (if fine l = true then (0 : Int) else 1) = pe at *
  clear hpe
  generalize okG b = gb at *
  generalize getL b = G at *
  obtain ⟨n, hnl⟩ : ∃ n, n = l.length := ⟨_, rfl⟩
  rw [← hnl] at hn HPut HAs HS HM100 ⊢
  generalize nameE s = ne at *
  generalize strB s = sb at *
  generalize s.length = q at *
  generalize b.length = m at *
  clear hl hbig HEn hsee hnl hs HAr hA
  go_enter Try.func3, Try.ntmps3
  go_wp2_with fail
  go_loop [7] (fun i => ∃ k : Nat, k ≤ n ∧ i = .int .i64 k ∧ Hid (∀ j, j < k → (l.getD j ⟨[], 0⟩).n.length ≤ 100)) (fun i => n - (intOf i).toNat)
  case atStart => exact ⟨0, by omega, rfl, fun j hj => by omega⟩
  case round =>
    obtain ⟨k, hk, rfl, H1⟩ := hrel
    by_cases hlt : k < n
    · obtain ⟨b2, o, rfl, hc⟩ := HS.out k hlt
      have Hnx : Hid ((l.getD k ⟨[], 0⟩).n.length ≤ 100 → ∀ j, j < k + 1 → (l.getD j ⟨[], 0⟩).n.length ≤ 100) := fun h j hj => by
        by_cases e : j = k
        · rw [e]; exact h
        · exact H1.out j (by omega)
      clear HS HPut HAs HNm HRn HGet HRGet HRF HRP HM100 HGl hgg H1 hpp
      generalize l.getD k ⟨[], 0⟩ = x at *
      obtain ⟨xn, xk⟩ := x
      unfold SB at hc
      simp only at hc Hnx
      have hxs := strB_size' xn
      generalize strB xn = sx at *
      by_cases h100 : 100 < xn.length
      · clear Hnx
        generalize xn.length = z at *
        go_wp2_with fail
        refine (HK.out w).mono ?_
        rintro e w2 ⟨rfl, hb⟩
        have HB := Lib.hid hb
        clear hb HK
        go_wp2
        go_ret
        exact ⟨rfl, HB.out⟩
      · have H := Lib.hid (Hnx.out (by omega))
        clear Hnx
        generalize xn.length = z at *
        go_wp2
        go_round
        case rel => exact ⟨k + 1, by omega, by go_num, H⟩
        case measure => simp [intOf] <;> omega
    · obtain rfl : k = n := by omega
      replace HRF := Lib.hid (HRF.out (HM100.out H1.out))
      clear HS HM100 H1 hk hlt
      go_wp2_with fail
      refine HPut.out.mono ?_
      rintro e w1 ⟨r1, rfl, HA1, hb⟩
      have HC := Lib.hid hb
      clear hb HPut
      go_wp2_with fail
      refine (HAs.out w1 HC.out).mono ?_
      rintro e w2 ⟨r2, rfl, HE2, hb⟩
      replace HC := Lib.hid (HC.out.trans (hb.mono HC.out.size))
      replace HA1 := Lib.hid (HA1.out.below hb)
      clear hb
      go_wp2_with fail
      refine (HRF.out r2 w2 HE2.out.at_).mono ?_
      rintro e w5 ⟨rfl, hb⟩
      replace HC := Lib.hid (HC.out.trans (hb.mono HC.out.size))
      replace HA1 := Lib.hid (HA1.out.below hb)
      clear hb HE2 HRF
      rcases hpp with ⟨hf, rfl⟩ | ⟨hf, rfl⟩
      · rw [hf, if_pos rfl] at HA1
        rw [hf]
        replace HRP := Lib.hid (HRP.out hf)
        have HKeep : Hid (∀ W, Below w5.heap.size w5 W → (convert 23 9 r1).run Try.prog W = .ok (.string (strB (encL l))) W) := fun W hW => conv_arg (HA1.out.below hW)
        clear HA1 hf
        generalize encL l = E at *
        go_wp2_with fail
        have hC : Below w5.heap.size w5 w5.drew := below_drewN (Below.refl _ _) 1
        refine wp_region_held_drew (S := (fun W => (convert 23 9 r1).run Try.prog W = .ok (.string (strB E)) W)) (by kernel_rfl) (HKeep.out _ hC) (fun hHeld => ?_)
        generalize w5.drew = w5d at *
        refine wpAnyH_take (i := 0) (oi := ⟨some 51, _, _, _, _, _⟩) (v := ?_) rfl (by kernel_rfl) (by kernel_rfl) (by kernel_rfl) (fun _ _ _ h => h) (Or.inl ⟨by rfl, ?_⟩) hHeld ?_
        rotate_left
        · intro w hSw
          go_simp
          with_reducible rfl
        try go_frame
        refine wpAnyH_take (i := 2) (oi := ⟨some 53, _, _, _, _, _⟩) (v := ?_) rfl (by kernel_rfl) (by kernel_rfl) (by kernel_rfl) (fun _ _ _ h => h) (Or.inl ⟨by rfl, ?_⟩) hHeld ?_
        rotate_left
        · intro w hSw
          go_simp
          with_reducible rfl
        try go_frame
        refine wpAnyH_ready (rs := [1]) (by kernel_rfl) (by simp) ?_
        refine AllReadyH.cons (o := ⟨some 52, _, _, _, _, _⟩) rfl (fun K hK => ?_) AllReadyH.nil
        go_simp
        go_at_call 10
        refine (HNm.out w5d).mono ?_
        rintro e w5d_na ⟨rfl, hb⟩
        replace hC := hC.trans (hb.mono hC.size)
        refine hK.out _ _ (HKeep.out _ hC) (fun hHeld => ?_)
        clear hK K hb 
        try go_frame
        refine wpAnyH_ready (rs := [3]) (by kernel_rfl) (by simp) ?_
        refine AllReadyH.cons (o := ⟨some 54, _, _, _, _, _⟩) rfl (fun K hK => ?_) AllReadyH.nil
        go_simp
        go_at_call 11
        refine (HRn.out w5d_na).mono ?_
        rintro e w5d_na_rn ⟨rfl, hb⟩
        replace hC := hC.trans (hb.mono hC.size)
        refine hK.out _ _ (HKeep.out _ hC) (fun hHeld => ?_)
        clear hK K hb 
        try go_frame
        refine wpAnyH_take (i := 4) (oi := ⟨some 55, _, _, _, _, _⟩) (v := ?_) rfl (by kernel_rfl) (by kernel_rfl) (by kernel_rfl) (fun _ _ _ h => h) (Or.inl ⟨by rfl, ?_⟩) hHeld ?_
        rotate_left
        · intro w hSw
          go_simp
          with_reducible rfl
        try go_frame
        refine wpAnyH_take (i := 5) (oi := ⟨some 56, _, _, _, _, _⟩) (v := ?_) rfl (by kernel_rfl) (by kernel_rfl) (by kernel_rfl) (fun _ _ _ h => h) (Or.inl ⟨by rfl, ?_⟩) hHeld ?_
        rotate_left
        · intro w hSw
          go_simp
          with_reducible rfl
        try go_frame
        refine wpAnyH_take (i := 6) (oi := ⟨some 57, _, _, _, _, _⟩) (v := ?_) rfl (by kernel_rfl) (by kernel_rfl) (by kernel_rfl) (fun _ _ _ h => h) (Or.inl ⟨by rfl, ?_⟩) hHeld ?_
        rotate_left
        · intro w hSw
          go_simp
          with_reducible rfl
        try go_frame
        refine wpAnyH_take (i := 7) (oi := ⟨some 58, _, _, _, _, _⟩) (v := ?_) rfl (by kernel_rfl) (by kernel_rfl) (by kernel_rfl) (fun _ _ _ h => h) (Or.inl ⟨by rfl, ?_⟩) hHeld ?_
        rotate_left
        · intro w hSw
          go_simp
          with_reducible rfl
        try go_frame
        refine wpAnyH_take (i := 8) (oi := ⟨some 59, _, _, _, _, _⟩) (v := ?_) rfl (by kernel_rfl) (by kernel_rfl) (by kernel_rfl) (fun _ _ _ h => h) (Or.inl ⟨by rfl, ?_⟩) hHeld ?_
        rotate_left
        · intro w hSw
          go_simp
          with_reducible rfl
        try go_frame
        refine wpAnyH_take (i := 9) (oi := ⟨some 60, _, _, _, _, _⟩) (v := ?_) rfl (by kernel_rfl) (by kernel_rfl) (by kernel_rfl) (fun _ _ _ h => h) (Or.inl ⟨by rfl, ?_⟩) hHeld ?_
        rotate_left
        · intro w hSw
          have hS1 := hSw
          go_simp
          with_reducible rfl
        try go_frame
        refine wpAnyH_take (i := 10) (oi := ⟨some 61, _, _, _, _, _⟩) (v := ?_) rfl (by kernel_rfl) (by kernel_rfl) (by kernel_rfl) (fun _ _ _ h => h) (Or.inl ⟨by rfl, ?_⟩) hHeld ?_
        rotate_left
        · intro w hSw
          go_simp
          with_reducible rfl
        try go_frame
        refine wpAnyH_ready (rs := [11]) (by kernel_rfl) (by simp) ?_
        refine AllReadyH.cons (o := ⟨some 62, _, _, _, _, _⟩) rfl (fun K hK => ?_) AllReadyH.nil
        go_simp
        go_at_call 9
        refine (HAs.out w5d_na_rn (HC.out.trans (hC.mono HC.out.size))).mono ?_
        rintro e w5d_na_rn_as ⟨ra, rfl, HA2, hb⟩
        have F_as : Hid (EntsAt w5d_na_rn_as ra l) := HA2.out.at_
        replace hC := hC.trans (hb.mono hC.size)
        refine hK.out _ _ (HKeep.out _ hC) (fun hHeld => ?_)
        clear hK K hb HA2
        try go_frame
        refine wpAnyH_ready (rs := [12]) (by kernel_rfl) (by simp) ?_
        refine AllReadyH.cons (o := ⟨some 63, _, _, _, _, _⟩) rfl (fun K hK => ?_) AllReadyH.nil
        go_simp
        go_at_call 12
        refine (HRP.out ra w5d_na_rn_as F_as.out).mono ?_
        rintro e w5d_na_rn_as_pu ⟨rp, rfl, HP, hb⟩
        have F_p : Hid (Arg w5d_na_rn_as_pu rp E) := HP.out.arg
        replace hC := hC.trans (hb.mono hC.size)
        replace F_as := Lib.hid (F_as.out.below hb)
        refine hK.out _ _ (HKeep.out _ hC) (fun hHeld => ?_)
        clear hK K hb HP
        try go_frame
        refine wpAnyH_ready (rs := [13]) (by kernel_rfl) (by simp) ?_
        refine AllReadyH.cons (o := ⟨some 64, _, _, _, _, _⟩) rfl (fun K hK => ?_) AllReadyH.nil
        have hcv := conv_arg F_p.out
        go_simp
        clear hcv
        refine hK.out _ _ (HKeep.out _ hC) (fun hHeld => ?_)
        clear hK K
        try go_frame
        refine wpAnyH_take (i := 14) (oi := ⟨some 65, _, _, _, _, _⟩) (v := ?_) rfl (by kernel_rfl) (by kernel_rfl) (by kernel_rfl) (fun _ _ _ h => h) (Or.inl ⟨by rfl, ?_⟩) hHeld ?_
        rotate_left
        · intro w hSw
          go_simp
          with_reducible rfl
        try go_frame
        refine wpAnyH_take (i := 15) (oi := ⟨some 66, _, _, _, _, _⟩) (v := ?_) rfl (by kernel_rfl) (by kernel_rfl) (by kernel_rfl) (fun _ _ _ h => h) (Or.inl ⟨by rfl, ?_⟩) hHeld ?_
        rotate_left
        · intro w hSw
          go_simp
          with_reducible rfl
        try go_frame
        refine wpAnyH_take (i := 16) (oi := ⟨some 67, _, _, _, _, _⟩) (v := ?_) rfl (by kernel_rfl) (by kernel_rfl) (by kernel_rfl) (fun _ _ _ h => h) (Or.inl ⟨by rfl, ?_⟩) hHeld ?_
        rotate_left
        · intro w hSw
          go_simp
          with_reducible rfl
        try go_frame
        refine wpAnyH_take (i := 17) (oi := ⟨some 68, _, _, _, _, _⟩) (v := ?_) rfl (by kernel_rfl) (by kernel_rfl) (by kernel_rfl) (fun _ _ _ h => h) (Or.inl ⟨by rfl, ?_⟩) hHeld ?_
        rotate_left
        · intro w hSw
          go_simp
          with_reducible rfl
        try go_frame
        refine wpAnyH_take (i := 18) (oi := ⟨some 69, _, _, _, _, _⟩) (v := ?_) rfl (by kernel_rfl) (by kernel_rfl) (by kernel_rfl) (fun _ _ _ h => h) (Or.inl ⟨by rfl, ?_⟩) hHeld ?_
        rotate_left
        · intro w hSw
          go_simp
          with_reducible rfl
        try go_frame
        refine wpAnyH_take (i := 19) (oi := ⟨some 70, _, _, _, _, _⟩) (v := ?_) rfl (by kernel_rfl) (by kernel_rfl) (by kernel_rfl) (fun _ _ _ h => h) (Or.inl ⟨by rfl, ?_⟩) hHeld ?_
        rotate_left
        · intro w hSw
          go_simp
          with_reducible rfl
        try go_frame
        refine wpAnyH_take (i := 20) (oi := ⟨some 71, _, _, _, _, _⟩) (v := ?_) rfl (by kernel_rfl) (by kernel_rfl) (by kernel_rfl) (fun _ _ _ h => h) (Or.inl ⟨by rfl, ?_⟩) hHeld ?_
        rotate_left
        · intro w hSw
          go_simp
          with_reducible rfl
        try go_frame
        refine wpAnyH_take (i := 21) (oi := ⟨some 72, _, _, _, _, _⟩) (v := ?_) rfl (by kernel_rfl) (by kernel_rfl) (by kernel_rfl) (fun _ _ _ h => h) (Or.inl ⟨by rfl, ?_⟩) hHeld ?_
        rotate_left
        · intro w hSw
          go_simp
          with_reducible rfl
        try go_frame
        refine wpAnyH_take (i := 22) (oi := ⟨some 73, _, _, _, _, _⟩) (v := ?_) rfl (by kernel_rfl) (by kernel_rfl) (by kernel_rfl) (fun _ _ _ h => h) (Or.inl ⟨by rfl, ?_⟩) hHeld ?_
        rotate_left
        · intro w hSw
          go_simp
          with_reducible rfl
        try go_frame
        refine wpAnyH_take (i := 23) (oi := ⟨some 74, _, _, _, _, _⟩) (v := ?_) rfl (by kernel_rfl) (by kernel_rfl) (by kernel_rfl) (fun _ _ _ h => h) (Or.inl ⟨by rfl, ?_⟩) hHeld ?_
        rotate_left
        · intro w hSw
          go_simp
          with_reducible rfl
        try go_frame
        refine wpAnyH_take (i := 24) (oi := ⟨some 75, _, _, _, _, _⟩) (v := ?_) rfl (by kernel_rfl) (by kernel_rfl) (by kernel_rfl) (fun _ _ _ h => h) (Or.inl ⟨by rfl, ?_⟩) hHeld ?_
        rotate_left
        · intro w hSw
          go_simp
          with_reducible rfl
        try go_frame
        refine wpAnyH_take (i := 25) (oi := ⟨some 76, _, _, _, _, _⟩) (v := undef) rfl (by kernel_rfl) (by kernel_rfl) (by kernel_rfl) (fun _ _ _ h => h) (Or.inr ⟨by rfl, rfl⟩) hHeld ?_
        try go_frame
        refine wpAnyH_take (i := 26) (oi := ⟨some 77, _, _, _, _, _⟩) (v := undef) rfl (by kernel_rfl) (by kernel_rfl) (by kernel_rfl) (fun _ _ _ h => h) (Or.inr ⟨by rfl, rfl⟩) hHeld ?_
        try go_frame
        refine wpAnyH_take (i := 27) (oi := ⟨some 78, _, _, _, _, _⟩) (v := undef) rfl (by kernel_rfl) (by kernel_rfl) (by kernel_rfl) (fun _ _ _ h => h) (Or.inr ⟨by rfl, rfl⟩) hHeld ?_
        try go_frame
        refine wpAnyH_take (i := 28) (oi := ⟨some 79, _, _, _, _, _⟩) (v := undef) rfl (by kernel_rfl) (by kernel_rfl) (by kernel_rfl) (fun _ _ _ h => h) (Or.inr ⟨by rfl, rfl⟩) hHeld ?_
        try go_frame
        refine wpAnyH_take (i := 29) (oi := ⟨some 80, _, _, _, _, _⟩) (v := undef) rfl (by kernel_rfl) (by kernel_rfl) (by kernel_rfl) (fun _ _ _ h => h) (Or.inr ⟨by rfl, rfl⟩) hHeld ?_
        try go_frame
        refine wpAnyH_take (i := 30) (oi := ⟨some 81, _, _, _, _, _⟩) (v := undef) rfl (by kernel_rfl) (by kernel_rfl) (by kernel_rfl) (fun _ _ _ h => h) (Or.inr ⟨by rfl, rfl⟩) hHeld ?_
        try go_frame
        refine wpAnyH_take (i := 31) (oi := ⟨some 82, _, _, _, _, _⟩) (v := undef) rfl (by kernel_rfl) (by kernel_rfl) (by kernel_rfl) (fun _ _ _ h => h) (Or.inr ⟨by rfl, rfl⟩) hHeld ?_
        try go_frame
        refine wpAnyH_take (i := 32) (oi := ⟨some 83, _, _, _, _, _⟩) (v := ?_) rfl (by kernel_rfl) (by kernel_rfl) (by kernel_rfl) (fun _ _ _ h => h) (Or.inl ⟨by rfl, ?_⟩) hHeld ?_
        rotate_left
        · intro w hSw
          go_simp
          with_reducible rfl
        try go_frame
        refine wpAnyH_take (i := 33) (oi := ⟨some 84, _, _, _, _, _⟩) (v := ?_) rfl (by kernel_rfl) (by kernel_rfl) (by kernel_rfl) (fun _ _ _ h => h) (Or.inl ⟨by rfl, ?_⟩) hHeld ?_
        rotate_left
        · intro w hSw
          go_simp
          with_reducible rfl
        try go_frame
        refine wpAnyH_done (by kernel_rfl) ?_ _
        clear hHeld HKeep
        replace HC := Lib.hid (HC.out.trans (hC.mono HC.out.size))
        clear hC
        go_wp2_with fail
        refine (HGet.out w5d_na_rn_as_pu HC.out).mono ?_
        rintro e wg ⟨rg, rfl, HM, hb⟩
        replace HC := Lib.hid (HC.out.trans (hb.mono HC.out.size))
        clear hb HGet
        go_wp2_with fail
        refine (HRGet.out wg HC.out).mono ?_
        rintro e wh ⟨rh, rfl, HN2, hb⟩
        replace HC := Lib.hid (HC.out.trans (hb.mono HC.out.size))
        replace HM := Lib.hid (HM.out.below hb)
        clear hb HRGet
        go_wp2_with fail
        refine (DiAs_any G HGl.out rg wh HM.out.at_).mono ?_
        rintro e wi ⟨ri, rfl, HI, hb⟩
        replace HC := Lib.hid (HC.out.trans (hb.mono HC.out.size))
        replace HN2 := Lib.hid (HN2.out.below hb)
        clear hb HM
        have HSm := Lib.hid (Disame_any G G (by have := HGl.out; omega) (by have := HGl.out; omega) ri rh wi HI.out.at_ HN2.out.at_)
        rw [decide_eq_true rfl] at HSm
        clear HI HN2
        go_wp2_with fail
        refine HSm.out.mono ?_
        rintro e wj ⟨rfl, hb⟩
        replace HC := Lib.hid (HC.out.trans (hb.mono HC.out.size))
        clear hb HSm
        rcases hgg with ⟨rfl, rfl⟩ | ⟨rfl, rfl⟩
        · go_wp2_with fail
          refine (HK.out wj).mono ?_
          rintro e wk ⟨rfl, hb⟩
          replace HC := Lib.hid (HC.out.trans (hb.mono HC.out.size))
          clear hb
          go_wp2
          go_ret
          exact ⟨rfl, HC.out⟩
        · go_wp2_with fail
          refine (HK.out wj).mono ?_
          rintro e wk ⟨rfl, hb⟩
          replace HC := Lib.hid (HC.out.trans (hb.mono HC.out.size))
          clear hb
          go_wp2
          go_ret
          exact ⟨rfl, HC.out⟩
      · rw [hf, if_neg Bool.false_ne_true] at HA1
        rw [hf]
        obtain ⟨Ar, cr, rfl⟩ := HA1.out.form
        rw [List.length_nil]
        have HKeep : Hid (∀ W, Below w5.heap.size w5 W → True) := fun _ _ => trivial
        clear HA1 hf HRP HAs
        go_wp2_with fail
        have hC : Below w5.heap.size w5 w5.drew := below_drewN (Below.refl _ _) 1
        refine wp_region_held_drew (S := (fun _ => True)) (by kernel_rfl) (HKeep.out _ hC) (fun hHeld => ?_)
        generalize w5.drew = w5d at *
        refine wpAnyH_take (i := 0) (oi := ⟨some 51, _, _, _, _, _⟩) (v := ?_) rfl (by kernel_rfl) (by kernel_rfl) (by kernel_rfl) (fun _ _ _ h => h) (Or.inl ⟨by rfl, ?_⟩) hHeld ?_
        rotate_left
        · intro w hSw
          go_simp
          with_reducible rfl
        try go_frame
        refine wpAnyH_take (i := 2) (oi := ⟨some 53, _, _, _, _, _⟩) (v := ?_) rfl (by kernel_rfl) (by kernel_rfl) (by kernel_rfl) (fun _ _ _ h => h) (Or.inl ⟨by rfl, ?_⟩) hHeld ?_
        rotate_left
        · intro w hSw
          go_simp
          with_reducible rfl
        try go_frame
        refine wpAnyH_ready (rs := [1]) (by kernel_rfl) (by simp) ?_
        refine AllReadyH.cons (o := ⟨some 52, _, _, _, _, _⟩) rfl (fun K hK => ?_) AllReadyH.nil
        go_simp
        go_at_call 10
        refine (HNm.out w5d).mono ?_
        rintro e w5d_na ⟨rfl, hb⟩
        replace hC := hC.trans (hb.mono hC.size)
        refine hK.out _ _ (HKeep.out _ hC) (fun hHeld => ?_)
        clear hK K hb 
        try go_frame
        refine wpAnyH_ready (rs := [3]) (by kernel_rfl) (by simp) ?_
        refine AllReadyH.cons (o := ⟨some 54, _, _, _, _, _⟩) rfl (fun K hK => ?_) AllReadyH.nil
        go_simp
        go_at_call 11
        refine (HRn.out w5d_na).mono ?_
        rintro e w5d_na_rn ⟨rfl, hb⟩
        replace hC := hC.trans (hb.mono hC.size)
        refine hK.out _ _ (HKeep.out _ hC) (fun hHeld => ?_)
        clear hK K hb 
        try go_frame
        refine wpAnyH_take (i := 4) (oi := ⟨some 55, _, _, _, _, _⟩) (v := ?_) rfl (by kernel_rfl) (by kernel_rfl) (by kernel_rfl) (fun _ _ _ h => h) (Or.inl ⟨by rfl, ?_⟩) hHeld ?_
        rotate_left
        · intro w hSw
          go_simp
          with_reducible rfl
        try go_frame
        refine wpAnyH_take (i := 5) (oi := ⟨some 56, _, _, _, _, _⟩) (v := ?_) rfl (by kernel_rfl) (by kernel_rfl) (by kernel_rfl) (fun _ _ _ h => h) (Or.inl ⟨by rfl, ?_⟩) hHeld ?_
        rotate_left
        · intro w hSw
          go_simp
          with_reducible rfl
        try go_frame
        refine wpAnyH_take (i := 6) (oi := ⟨some 57, _, _, _, _, _⟩) (v := ?_) rfl (by kernel_rfl) (by kernel_rfl) (by kernel_rfl) (fun _ _ _ h => h) (Or.inl ⟨by rfl, ?_⟩) hHeld ?_
        rotate_left
        · intro w hSw
          go_simp
          with_reducible rfl
        try go_frame
        refine wpAnyH_take (i := 7) (oi := ⟨some 58, _, _, _, _, _⟩) (v := ?_) rfl (by kernel_rfl) (by kernel_rfl) (by kernel_rfl) (fun _ _ _ h => h) (Or.inl ⟨by rfl, ?_⟩) hHeld ?_
        rotate_left
        · intro w hSw
          go_simp
          with_reducible rfl
        try go_frame
        refine wpAnyH_take (i := 8) (oi := ⟨some 59, _, _, _, _, _⟩) (v := undef) rfl (by kernel_rfl) (by kernel_rfl) (by kernel_rfl) (fun _ _ _ h => h) (Or.inr ⟨by rfl, rfl⟩) hHeld ?_
        try go_frame
        refine wpAnyH_take (i := 9) (oi := ⟨some 60, _, _, _, _, _⟩) (v := undef) rfl (by kernel_rfl) (by kernel_rfl) (by kernel_rfl) (fun _ _ _ h => h) (Or.inr ⟨by rfl, rfl⟩) hHeld ?_
        try go_frame
        refine wpAnyH_take (i := 10) (oi := ⟨some 61, _, _, _, _, _⟩) (v := undef) rfl (by kernel_rfl) (by kernel_rfl) (by kernel_rfl) (fun _ _ _ h => h) (Or.inr ⟨by rfl, rfl⟩) hHeld ?_
        try go_frame
        refine wpAnyH_take (i := 11) (oi := ⟨some 62, _, _, _, _, _⟩) (v := undef) rfl (by kernel_rfl) (by kernel_rfl) (by kernel_rfl) (fun _ _ _ h => h) (Or.inr ⟨by rfl, rfl⟩) hHeld ?_
        try go_frame
        refine wpAnyH_take (i := 12) (oi := ⟨some 63, _, _, _, _, _⟩) (v := undef) rfl (by kernel_rfl) (by kernel_rfl) (by kernel_rfl) (fun _ _ _ h => h) (Or.inr ⟨by rfl, rfl⟩) hHeld ?_
        try go_frame
        refine wpAnyH_take (i := 13) (oi := ⟨some 64, _, _, _, _, _⟩) (v := undef) rfl (by kernel_rfl) (by kernel_rfl) (by kernel_rfl) (fun _ _ _ h => h) (Or.inr ⟨by rfl, rfl⟩) hHeld ?_
        try go_frame
        refine wpAnyH_take (i := 14) (oi := ⟨some 65, _, _, _, _, _⟩) (v := undef) rfl (by kernel_rfl) (by kernel_rfl) (by kernel_rfl) (fun _ _ _ h => h) (Or.inr ⟨by rfl, rfl⟩) hHeld ?_
        try go_frame
        refine wpAnyH_take (i := 15) (oi := ⟨some 66, _, _, _, _, _⟩) (v := undef) rfl (by kernel_rfl) (by kernel_rfl) (by kernel_rfl) (fun _ _ _ h => h) (Or.inr ⟨by rfl, rfl⟩) hHeld ?_
        try go_frame
        refine wpAnyH_take (i := 16) (oi := ⟨some 67, _, _, _, _, _⟩) (v := undef) rfl (by kernel_rfl) (by kernel_rfl) (by kernel_rfl) (fun _ _ _ h => h) (Or.inr ⟨by rfl, rfl⟩) hHeld ?_
        try go_frame
        refine wpAnyH_take (i := 17) (oi := ⟨some 68, _, _, _, _, _⟩) (v := undef) rfl (by kernel_rfl) (by kernel_rfl) (by kernel_rfl) (fun _ _ _ h => h) (Or.inr ⟨by rfl, rfl⟩) hHeld ?_
        try go_frame
        refine wpAnyH_take (i := 18) (oi := ⟨some 69, _, _, _, _, _⟩) (v := undef) rfl (by kernel_rfl) (by kernel_rfl) (by kernel_rfl) (fun _ _ _ h => h) (Or.inr ⟨by rfl, rfl⟩) hHeld ?_
        try go_frame
        refine wpAnyH_take (i := 19) (oi := ⟨some 70, _, _, _, _, _⟩) (v := ?_) rfl (by kernel_rfl) (by kernel_rfl) (by kernel_rfl) (fun _ _ _ h => h) (Or.inl ⟨by rfl, ?_⟩) hHeld ?_
        rotate_left
        · intro w hSw
          go_simp
          with_reducible rfl
        try go_frame
        refine wpAnyH_take (i := 20) (oi := ⟨some 71, _, _, _, _, _⟩) (v := ?_) rfl (by kernel_rfl) (by kernel_rfl) (by kernel_rfl) (fun _ _ _ h => h) (Or.inl ⟨by rfl, ?_⟩) hHeld ?_
        rotate_left
        · intro w hSw
          go_simp
          with_reducible rfl
        try go_frame
        refine wpAnyH_take (i := 21) (oi := ⟨some 72, _, _, _, _, _⟩) (v := ?_) rfl (by kernel_rfl) (by kernel_rfl) (by kernel_rfl) (fun _ _ _ h => h) (Or.inl ⟨by rfl, ?_⟩) hHeld ?_
        rotate_left
        · intro w hSw
          go_simp
          with_reducible rfl
        try go_frame
        refine wpAnyH_take (i := 22) (oi := ⟨some 73, _, _, _, _, _⟩) (v := ?_) rfl (by kernel_rfl) (by kernel_rfl) (by kernel_rfl) (fun _ _ _ h => h) (Or.inl ⟨by rfl, ?_⟩) hHeld ?_
        rotate_left
        · intro w hSw
          go_simp
          with_reducible rfl
        try go_frame
        refine wpAnyH_take (i := 23) (oi := ⟨some 74, _, _, _, _, _⟩) (v := ?_) rfl (by kernel_rfl) (by kernel_rfl) (by kernel_rfl) (fun _ _ _ h => h) (Or.inl ⟨by rfl, ?_⟩) hHeld ?_
        rotate_left
        · intro w hSw
          go_simp
          with_reducible rfl
        try go_frame
        refine wpAnyH_take (i := 24) (oi := ⟨some 75, _, _, _, _, _⟩) (v := ?_) rfl (by kernel_rfl) (by kernel_rfl) (by kernel_rfl) (fun _ _ _ h => h) (Or.inl ⟨by rfl, ?_⟩) hHeld ?_
        rotate_left
        · intro w hSw
          go_simp
          with_reducible rfl
        try go_frame
        refine wpAnyH_take (i := 25) (oi := ⟨some 76, _, _, _, _, _⟩) (v := ?_) rfl (by kernel_rfl) (by kernel_rfl) (by kernel_rfl) (fun _ _ _ h => h) (Or.inl ⟨by rfl, ?_⟩) hHeld ?_
        rotate_left
        · intro w hSw
          go_simp
          with_reducible rfl
        try go_frame
        refine wpAnyH_take (i := 26) (oi := ⟨some 77, _, _, _, _, _⟩) (v := ?_) rfl (by kernel_rfl) (by kernel_rfl) (by kernel_rfl) (fun _ _ _ h => h) (Or.inl ⟨by rfl, ?_⟩) hHeld ?_
        rotate_left
        · intro w hSw
          go_simp
          with_reducible rfl
        try go_frame
        refine wpAnyH_take (i := 27) (oi := ⟨some 78, _, _, _, _, _⟩) (v := ?_) rfl (by kernel_rfl) (by kernel_rfl) (by kernel_rfl) (fun _ _ _ h => h) (Or.inl ⟨by rfl, ?_⟩) hHeld ?_
        rotate_left
        · intro w hSw
          go_simp
          with_reducible rfl
        try go_frame
        refine wpAnyH_take (i := 28) (oi := ⟨some 79, _, _, _, _, _⟩) (v := ?_) rfl (by kernel_rfl) (by kernel_rfl) (by kernel_rfl) (fun _ _ _ h => h) (Or.inl ⟨by rfl, ?_⟩) hHeld ?_
        rotate_left
        · intro w hSw
          go_simp
          with_reducible rfl
        try go_frame
        refine wpAnyH_take (i := 29) (oi := ⟨some 80, _, _, _, _, _⟩) (v := ?_) rfl (by kernel_rfl) (by kernel_rfl) (by kernel_rfl) (fun _ _ _ h => h) (Or.inl ⟨by rfl, ?_⟩) hHeld ?_
        rotate_left
        · intro w hSw
          go_simp
          with_reducible rfl
        try go_frame
        refine wpAnyH_take (i := 30) (oi := ⟨some 81, _, _, _, _, _⟩) (v := ?_) rfl (by kernel_rfl) (by kernel_rfl) (by kernel_rfl) (fun _ _ _ h => h) (Or.inl ⟨by rfl, ?_⟩) hHeld ?_
        rotate_left
        · intro w hSw
          go_simp
          with_reducible rfl
        try go_frame
        refine wpAnyH_take (i := 31) (oi := ⟨some 82, _, _, _, _, _⟩) (v := ?_) rfl (by kernel_rfl) (by kernel_rfl) (by kernel_rfl) (fun _ _ _ h => h) (Or.inl ⟨by rfl, ?_⟩) hHeld ?_
        rotate_left
        · intro w hSw
          go_simp
          with_reducible rfl
        try go_frame
        refine wpAnyH_take (i := 32) (oi := ⟨some 83, _, _, _, _, _⟩) (v := ?_) rfl (by kernel_rfl) (by kernel_rfl) (by kernel_rfl) (fun _ _ _ h => h) (Or.inl ⟨by rfl, ?_⟩) hHeld ?_
        rotate_left
        · intro w hSw
          go_simp
          with_reducible rfl
        try go_frame
        refine wpAnyH_take (i := 33) (oi := ⟨some 84, _, _, _, _, _⟩) (v := ?_) rfl (by kernel_rfl) (by kernel_rfl) (by kernel_rfl) (fun _ _ _ h => h) (Or.inl ⟨by rfl, ?_⟩) hHeld ?_
        rotate_left
        · intro w hSw
          go_simp
          with_reducible rfl
        try go_frame
        refine wpAnyH_done (by kernel_rfl) ?_ _
        clear hHeld HKeep
        replace HC := Lib.hid (HC.out.trans (hC.mono HC.out.size))
        clear hC
        go_wp2_with fail
        refine (HGet.out w5d_na_rn HC.out).mono ?_
        rintro e wg ⟨rg, rfl, HM, hb⟩
        replace HC := Lib.hid (HC.out.trans (hb.mono HC.out.size))
        clear hb HGet
        go_wp2_with fail
        refine (HRGet.out wg HC.out).mono ?_
        rintro e wh ⟨rh, rfl, HN2, hb⟩
        replace HC := Lib.hid (HC.out.trans (hb.mono HC.out.size))
        replace HM := Lib.hid (HM.out.below hb)
        clear hb HRGet
        go_wp2_with fail
        refine (DiAs_any G HGl.out rg wh HM.out.at_).mono ?_
        rintro e wi ⟨ri, rfl, HI, hb⟩
        replace HC := Lib.hid (HC.out.trans (hb.mono HC.out.size))
        replace HN2 := Lib.hid (HN2.out.below hb)
        clear hb HM
        have HSm := Lib.hid (Disame_any G G (by have := HGl.out; omega) (by have := HGl.out; omega) ri rh wi HI.out.at_ HN2.out.at_)
        rw [decide_eq_true rfl] at HSm
        clear HI HN2
        go_wp2_with fail
        refine HSm.out.mono ?_
        rintro e wj ⟨rfl, hb⟩
        replace HC := Lib.hid (HC.out.trans (hb.mono HC.out.size))
        clear hb HSm
        rcases hgg with ⟨rfl, rfl⟩ | ⟨rfl, rfl⟩
        · go_wp2_with fail
          refine (HK.out wj).mono ?_
          rintro e wk ⟨rfl, hb⟩
          replace HC := Lib.hid (HC.out.trans (hb.mono HC.out.size))
          clear hb
          go_wp2
          go_ret
          exact ⟨rfl, HC.out⟩
        · go_wp2_with fail
          refine (HK.out wj).mono ?_
          rintro e wk ⟨rfl, hb⟩
          replace HC := Lib.hid (HC.out.trans (hb.mono HC.out.size))
          clear hb
          go_wp2
          go_ret
          exact ⟨rfl, HC.out⟩
end Go.Proofs.Ytaamhdgngnpmoaa
