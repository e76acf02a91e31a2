/-
  THE WALK of the reference's Tag.
-/
import Derived.Test.YtfodblgoamkgmaaDoorSK
namespace Go.Proofs.YtfodblgoamkgmaaDoor
open Go.RowKit Aes Ctr Sl

theorem bigK_big (k n : Nat) : bigK k n = big k n := rfl
/-- A number's bytes, the place named. -/
theorem Big_form (k x : Nat) (z : Int) (hz : z = ((x : Nat) : Int)) (hx : x < 2 ^ 64) (hk : 0 < k) (hk2 : k ≤ 100) (w : World) :
    Calls Tryd.prog 22 #[.int .u64 z, .int .i64 k] w fun e w' => ∃ g c, e = .returned (.slice (some ⟨g, 0, none⟩) k c) ∧ Hid (Arg w' (.slice (some ⟨g, 0, none⟩) k c) (big k x)) ∧ Below w.heap.size w w' := by
  refine (Big_at k hk2 x hx z hz w).mono ?_
  rintro e w' ⟨v, rfl, hown, hb⟩
  have hl : ((bigK k x).map V8).length = k := by rw [List.length_map, bigK_big, big_length]
  obtain ⟨g, c, hv, _, _, _, _⟩ := hown.out.form_cap (by omega)
  rw [hl] at hv
  subst hv
  exact ⟨g, c, rfl, hown.out.arg, hb⟩
theorem Big_form4 (x : Nat) (z : Int) (hz : z = ((x : Nat) : Int)) (hx : x < 2 ^ 64) (w : World) :
    Calls Tryd.prog 22 #[.int .u64 z, .int .i64 4] w fun e w' => ∃ g c, e = .returned (.slice (some ⟨g, 0, none⟩) 4 c) ∧ Hid (Arg w' (.slice (some ⟨g, 0, none⟩) 4 c) (big 4 x)) ∧ Below w.heap.size w w' := Big_form 4 x z hz hx (by omega) (by omega) w

set_option maxRecDepth 100000 in
set_option maxHeartbeats 1000000 in
theorem RSTag_any (p : Nat) (ek mk : List UInt8) (d : Int) (raw : List UInt8) (hr : raw.length ≤ 1000) (v : Value) (w0 : World) (hM : MKeyAt w0 p ek mk) (h : Arg w0 v raw) :
    Calls Tryd.prog 11 #[.pointer (some ⟨p, 0, none⟩), .int .i64 d, v] w0 fun e w' => e = .returned (.string (strB (tg mk (nm d) raw))) ∧ Below w0.heap.size w0 w' := by
  obtain ⟨A, cap, rfl⟩ := h.form
  obtain ⟨n, hnl⟩ : ∃ n, n = raw.length := ⟨_, rfl⟩
  rw [← hnl] at h ⊢
  have HNl := Lib.hid hnl
  have HV := Lib.hid h
  obtain ⟨va, vb, pe, pm, hp, hs, hva, hvb, hke, hkm⟩ := hM
  obtain ⟨gm, rb, rc, cb, cc, rfl, hin⟩ := hkm.named
  have HKE := Lib.hid hke
  have HKM := Lib.hid hkm
  have HR := Lib.hid hr
  have HKeep : Hid (∀ W, Below w0.heap.size w0 W → W.cell? ⟨p, 3, none⟩ = some (.pointer (some ⟨gm, 0, none⟩))) := fun W hW => (hs.below hW hp) 3 _ rfl
  obtain ⟨J, HJ⟩ : ∃ J, Hid (J = Hm.joined [leafW, big 4 (nm d), raw]) := ⟨_, rfl⟩
  have HJl : Hid (J.length ≤ 900000) := by show _ ≤ _; rw [HJ.out]; have := (small3 (nm d) raw hr).joined; omega
  clear hin hnl h hs hva hvb hke hkm hr hp
  go_enter Tryd.func11, Tryd.ntmps11
  go_wp2
  have hC : Below w0.heap.size w0 w0.drew := below_drewN (Below.refl _ _) 1
  refine wp_region_held_drew (S := (fun W => W.cell? ⟨p, 3, none⟩ = some (.pointer (some ⟨gm, 0, none⟩)))) (by kernel_rfl) (HKeep.out _ hC) (fun hHeld => ?_)
  generalize w0.drew = w0d at *
  refine wpAnyH_take (i := 0) (oi := ⟨some 7, _, _, _, _, _⟩) (v := ?_) rfl (by kernel_rfl) (by kernel_rfl) (by kernel_rfl) (fun _ _ _ h => h) (Or.inl ⟨by rfl, ?_⟩) hHeld ?_
  rotate_left
  · intro w hSw
    go_simp
    with_reducible rfl
  try go_frame
  refine wpAnyH_take (i := 1) (oi := ⟨some 8, _, _, _, _, _⟩) (v := ?_) rfl (by kernel_rfl) (by kernel_rfl) (by kernel_rfl) (fun _ _ _ h => h) (Or.inl ⟨by rfl, ?_⟩) hHeld ?_
  rotate_left
  · intro w hSw
    go_simp
    with_reducible rfl
  try go_frame
  refine wpAnyH_take (i := 2) (oi := ⟨some 9, _, _, _, _, _⟩) (v := ?_) rfl (by kernel_rfl) (by kernel_rfl) (by kernel_rfl) (fun _ _ _ h => h) (Or.inl ⟨by rfl, ?_⟩) hHeld ?_
  rotate_left
  · intro w hSw
    go_simp
    with_reducible rfl
  try go_frame
  refine wpAnyH_take (i := 3) (oi := ⟨some 10, _, _, _, _, _⟩) (v := ?_) rfl (by kernel_rfl) (by kernel_rfl) (by kernel_rfl) (fun _ _ _ h => h) (Or.inl ⟨by rfl, ?_⟩) hHeld ?_
  rotate_left
  · intro w hSw
    go_simp
    with_reducible rfl
  try go_frame
  refine wpAnyH_take (i := 6) (oi := ⟨some 13, _, _, _, _, _⟩) (v := ?_) rfl (by kernel_rfl) (by kernel_rfl) (by kernel_rfl) (fun _ _ _ h => h) (Or.inl ⟨by rfl, ?_⟩) hHeld ?_
  rotate_left
  · intro w hSw
    go_simp
    with_reducible rfl
  try go_frame
  refine wpAnyH_take (i := 7) (oi := ⟨some 14, _, _, _, _, _⟩) (v := ?_) rfl (by kernel_rfl) (by kernel_rfl) (by kernel_rfl) (fun _ _ _ h => h) (Or.inl ⟨by rfl, ?_⟩) hHeld ?_
  rotate_left
  · intro w hSw
    go_simp
    with_reducible rfl
  try go_frame
  refine wpAnyH_take (i := 9) (oi := ⟨some 16, _, _, _, _, _⟩) (v := ?_) rfl (by kernel_rfl) (by kernel_rfl) (by kernel_rfl) (fun _ _ _ h => h) (Or.inl ⟨by rfl, ?_⟩) hHeld ?_
  rotate_left
  · intro w hSw
    go_simp
    with_reducible rfl
  try go_frame
  refine wpAnyH_ready (rs := [4, 8]) (by kernel_rfl) (by simp) ?_
  refine AllReadyH.cons (o := ⟨some 11, _, _, _, _, _⟩) rfl (fun K hK => ?_) ?_
  · skip
    go_simp
    have hb : Below w0d.heap.size w0d (w0d.alloc (.cells #[.int .u8 108, .int .u8 101, .int .u8 97, .int .u8 102] 5)) := Joins.below_alloc1 _ _
    have hg_lf := hC.size
    obtain ⟨g_lf, Hg_lf⟩ : ∃ g, Hid (g = w0d.heap.size) := ⟨_, rfl⟩
    have R_lf : Hid (Row (w0d.alloc (.cells #[.int .u8 108, .int .u8 101, .int .u8 97, .int .u8 102] 5)) w0d.heap.size 5 (leafW.map V8)) := Row.new w0d 5 (leafW.map V8)
    replace hC := hC.trans (hb.mono hC.size)
    refine hK.out _ _ (HKeep.out _ hC) (fun hHeld => ?_)
    clear hK K hb
    generalize (w0d.alloc (.cells #[.int .u8 108, .int .u8 101, .int .u8 97, .int .u8 102] 5)) = w0d_lf at *
    rw [← Hg_lf.out] at hg_lf ⊢
    rw [← Hg_lf.out] at R_lf
    clear Hg_lf
    try go_frame
    refine wpAnyH_ready (rs := [5, 8]) (by kernel_rfl) (by simp) ?_
    refine AllReadyH.cons (o := ⟨some 12, _, _, _, _, _⟩) rfl (fun K hK => ?_) ?_
    · skip
      have hcv := run_mark g_lf 4 4 leafW w0d_lf R_lf.out
      go_simp
      clear hcv
      have hb0 := hC.trans (mark_below w0d_lf _ g_lf (List.length leafW) hg_lf)
      have F_lf : Hid (Arg (w0d_lf.freeze ⟨g_lf, List.length leafW, none⟩ 1) (.slice (some ⟨g_lf, 0, none⟩) 4 4) (leafW)) := mark_arg w0d_lf g_lf _ R_lf.out 4 rfl
      clear R_lf
      replace hC := hb0
      refine hK.out _ _ (HKeep.out _ hC) (fun hHeld => ?_)
      clear hK K hb0
      generalize (w0d_lf.freeze ⟨g_lf, List.length leafW, none⟩ 1) = w0d_lf_mk at *
      try go_frame
      refine wpAnyH_ready (rs := [8]) (by kernel_rfl) (by simp) ?_
      refine AllReadyH.cons (o := ⟨some 15, _, _, _, _, _⟩) rfl (fun K hK => ?_) AllReadyH.nil
      go_simp
      go_at_call 22
      refine (Big_form4 (nm d) _ (nm_wrap d) (nm_lt d) w0d_lf_mk).mono ?_
      rintro e w0d_lf_mk_nm ⟨gn, cn, rfl, A_nm, hb⟩
      have F_nm : Hid (Arg w0d_lf_mk_nm (.slice (some ⟨gn, 0, none⟩) 4 cn) (big 4 (nm d))) := A_nm.out
      replace hC := hC.trans (hb.mono hC.size)
      replace F_lf := Lib.hid (F_lf.out.below hb)
      refine hK.out _ _ (HKeep.out _ hC) (fun hHeld => ?_)
      clear hK K hb 
      clear A_nm
      try go_frame
      refine wpAnyH_ready (rs := [10]) (by kernel_rfl) (by simp) ?_
      refine AllReadyH.cons (o := ⟨some 17, _, _, _, _, _⟩) rfl (fun K hK => ?_) AllReadyH.nil
      go_simp
      have hb : Below w0d_lf_mk_nm.heap.size w0d_lf_mk_nm (w0d_lf_mk_nm.alloc (.cells #[.slice (some ⟨g_lf, 0, none⟩) 4 4, .slice (some ⟨gn, 0, none⟩) 4 cn, .slice A n cap] 22)) := Joins.below_alloc1 _ _
      have hg_ps := hC.size
      obtain ⟨g_ps, Hg_ps⟩ : ∃ g, Hid (g = w0d_lf_mk_nm.heap.size) := ⟨_, rfl⟩
      have F_ps : Hid (Hm.Parts (w0d_lf_mk_nm.alloc (.cells #[.slice (some ⟨g_lf, 0, none⟩) 4 4, .slice (some ⟨gn, 0, none⟩) 4 cn, .slice A n cap] 22)) (.slice (some ⟨w0d_lf_mk_nm.heap.size, 0, none⟩) 3 3) [leafW, big 4 (nm d), raw]) := parts3 F_lf.out F_nm.out (HV.out.below hC)
      replace hC := hC.trans (hb.mono hC.size)
      replace F_lf := Lib.hid (F_lf.out.below hb)
      replace F_nm := Lib.hid (F_nm.out.below hb)
      refine hK.out _ _ (HKeep.out _ hC) (fun hHeld => ?_)
      clear hK K hb
      generalize (w0d_lf_mk_nm.alloc (.cells #[.slice (some ⟨g_lf, 0, none⟩) 4 4, .slice (some ⟨gn, 0, none⟩) 4 cn, .slice A n cap] 22)) = w0d_lf_mk_nm_ps at *
      rw [← Hg_ps.out] at hg_ps ⊢
      rw [← Hg_ps.out] at F_ps
      clear Hg_ps
      try go_frame
      refine wpAnyH_ready (rs := [11]) (by kernel_rfl) (by simp) ?_
      refine AllReadyH.cons (o := ⟨some 18, _, _, _, _, _⟩) rfl (fun K hK => ?_) AllReadyH.nil
      go_simp
      go_at_call 19
      refine (Hm.Joined_any _ _ _ _ (small3 (nm d) raw HR.out) w0d_lf_mk_nm_ps F_ps.out).mono ?_
      rintro e w0d_lf_mk_nm_ps_jd ⟨jv, rfl, hown, hb⟩
      have F_jv : Hid (Arg w0d_lf_mk_nm_ps_jd jv J) := (by show Arg _ _ _; rw [HJ.out]; exact hm_arg.1 (Hm.Own.arg hown))
      replace hC := hC.trans (hb.mono hC.size)
      replace F_lf := Lib.hid (F_lf.out.below hb)
      replace F_nm := Lib.hid (F_nm.out.below hb)
      replace F_ps := Lib.hid (F_ps.out.below hb)
      refine hK.out _ _ (HKeep.out _ hC) (fun hHeld => ?_)
      clear hK K hb 
      clear hown F_ps F_lf F_nm
      try go_frame
      refine wpAnyH_ready (rs := [12]) (by kernel_rfl) (by simp) ?_
      refine AllReadyH.cons (o := ⟨some 19, _, _, _, _, _⟩) rfl (fun K hK => ?_) AllReadyH.nil
      go_simp
      go_at_call 18
      refine (Hm.KSum_any _ mk _ J HJl.out w0d_lf_mk_nm_ps_jd (HKM.out.below hC) F_jv.out).mono ?_
      rintro e w0d_lf_mk_nm_ps_jd_ks ⟨kv, rfl, hown, hb⟩
      have F_kv : Hid (Arg w0d_lf_mk_nm_ps_jd_ks kv (tg mk (nm d) raw)) := (by show Arg _ _ _; rw [tg, ← HJ.out]; exact hm_arg.1 (Hm.Own.arg hown))
      replace hC := hC.trans (hb.mono hC.size)
      replace F_jv := Lib.hid (F_jv.out.below hb)
      refine hK.out _ _ (HKeep.out _ hC) (fun hHeld => ?_)
      clear hK K hb 
      clear hown
      try go_frame
      refine wpAnyH_ready (rs := [13]) (by kernel_rfl) (by simp) ?_
      refine AllReadyH.cons (o := ⟨some 20, _, _, _, _, _⟩) rfl (fun K hK => ?_) AllReadyH.nil
      have hcv := conv_arg F_kv.out
      go_simp
      clear hcv
      refine hK.out _ _ (HKeep.out _ hC) (fun hHeld => ?_)
      clear hK K
      try go_frame
      refine wpAnyH_take (i := 14) (oi := ⟨some 6, _, _, _, _, _⟩) (v := ?_) rfl (by kernel_rfl) (by kernel_rfl) (by kernel_rfl) (fun _ _ _ h => h) (Or.inl ⟨by rfl, ?_⟩) hHeld ?_
      rotate_left
      · intro w hSw
        go_simp
        with_reducible rfl
      try go_frame
      refine wpAnyH_done (by kernel_rfl) ?_ _
      clear HKeep hHeld F_kv
      go_wp2
      go_ret
      exact ⟨rfl, hC⟩
    refine AllReadyH.cons (o := ⟨some 15, _, _, _, _, _⟩) rfl (fun K hK => ?_) ?_
    · skip
      go_simp
      go_at_call 22
      refine (Big_form4 (nm d) _ (nm_wrap d) (nm_lt d) w0d_lf).mono ?_
      rintro e w0d_lf_nm ⟨gn, cn, rfl, A_nm, hb⟩
      have F_nm : Hid (Arg w0d_lf_nm (.slice (some ⟨gn, 0, none⟩) 4 cn) (big 4 (nm d))) := A_nm.out
      replace hC := hC.trans (hb.mono hC.size)
      replace R_lf := Lib.hid (R_lf.out.below hb R_lf.out.lt)
      refine hK.out _ _ (HKeep.out _ hC) (fun hHeld => ?_)
      clear hK K hb 
      clear A_nm
      try go_frame
      refine wpAnyH_ready (rs := [5]) (by kernel_rfl) (by simp) ?_
      refine AllReadyH.cons (o := ⟨some 12, _, _, _, _, _⟩) rfl (fun K hK => ?_) AllReadyH.nil
      have hcv := run_mark g_lf 4 4 leafW w0d_lf_nm R_lf.out
      go_simp
      clear hcv
      have hb0 := hC.trans (mark_below w0d_lf_nm _ g_lf (List.length leafW) hg_lf)
      have F_lf : Hid (Arg (w0d_lf_nm.freeze ⟨g_lf, List.length leafW, none⟩ 1) (.slice (some ⟨g_lf, 0, none⟩) 4 4) (leafW)) := mark_arg w0d_lf_nm g_lf _ R_lf.out 4 rfl
      clear R_lf
      replace F_nm := Lib.hid (F_nm.out.mark g_lf (List.length leafW))
      replace hC := hb0
      refine hK.out _ _ (HKeep.out _ hC) (fun hHeld => ?_)
      clear hK K hb0
      generalize (w0d_lf_nm.freeze ⟨g_lf, List.length leafW, none⟩ 1) = w0d_lf_nm_mk at *
      try go_frame
      refine wpAnyH_ready (rs := [10]) (by kernel_rfl) (by simp) ?_
      refine AllReadyH.cons (o := ⟨some 17, _, _, _, _, _⟩) rfl (fun K hK => ?_) AllReadyH.nil
      go_simp
      have hb : Below w0d_lf_nm_mk.heap.size w0d_lf_nm_mk (w0d_lf_nm_mk.alloc (.cells #[.slice (some ⟨g_lf, 0, none⟩) 4 4, .slice (some ⟨gn, 0, none⟩) 4 cn, .slice A n cap] 22)) := Joins.below_alloc1 _ _
      have hg_ps := hC.size
      obtain ⟨g_ps, Hg_ps⟩ : ∃ g, Hid (g = w0d_lf_nm_mk.heap.size) := ⟨_, rfl⟩
      have F_ps : Hid (Hm.Parts (w0d_lf_nm_mk.alloc (.cells #[.slice (some ⟨g_lf, 0, none⟩) 4 4, .slice (some ⟨gn, 0, none⟩) 4 cn, .slice A n cap] 22)) (.slice (some ⟨w0d_lf_nm_mk.heap.size, 0, none⟩) 3 3) [leafW, big 4 (nm d), raw]) := parts3 F_lf.out F_nm.out (HV.out.below hC)
      replace hC := hC.trans (hb.mono hC.size)
      replace F_nm := Lib.hid (F_nm.out.below hb)
      replace F_lf := Lib.hid (F_lf.out.below hb)
      refine hK.out _ _ (HKeep.out _ hC) (fun hHeld => ?_)
      clear hK K hb
      generalize (w0d_lf_nm_mk.alloc (.cells #[.slice (some ⟨g_lf, 0, none⟩) 4 4, .slice (some ⟨gn, 0, none⟩) 4 cn, .slice A n cap] 22)) = w0d_lf_nm_mk_ps at *
      rw [← Hg_ps.out] at hg_ps ⊢
      rw [← Hg_ps.out] at F_ps
      clear Hg_ps
      try go_frame
      refine wpAnyH_ready (rs := [11]) (by kernel_rfl) (by simp) ?_
      refine AllReadyH.cons (o := ⟨some 18, _, _, _, _, _⟩) rfl (fun K hK => ?_) AllReadyH.nil
      go_simp
      go_at_call 19
      refine (Hm.Joined_any _ _ _ _ (small3 (nm d) raw HR.out) w0d_lf_nm_mk_ps F_ps.out).mono ?_
      rintro e w0d_lf_nm_mk_ps_jd ⟨jv, rfl, hown, hb⟩
      have F_jv : Hid (Arg w0d_lf_nm_mk_ps_jd jv J) := (by show Arg _ _ _; rw [HJ.out]; exact hm_arg.1 (Hm.Own.arg hown))
      replace hC := hC.trans (hb.mono hC.size)
      replace F_nm := Lib.hid (F_nm.out.below hb)
      replace F_lf := Lib.hid (F_lf.out.below hb)
      replace F_ps := Lib.hid (F_ps.out.below hb)
      refine hK.out _ _ (HKeep.out _ hC) (fun hHeld => ?_)
      clear hK K hb 
      clear hown F_ps F_lf F_nm
      try go_frame
      refine wpAnyH_ready (rs := [12]) (by kernel_rfl) (by simp) ?_
      refine AllReadyH.cons (o := ⟨some 19, _, _, _, _, _⟩) rfl (fun K hK => ?_) AllReadyH.nil
      go_simp
      go_at_call 18
      refine (Hm.KSum_any _ mk _ J HJl.out w0d_lf_nm_mk_ps_jd (HKM.out.below hC) F_jv.out).mono ?_
      rintro e w0d_lf_nm_mk_ps_jd_ks ⟨kv, rfl, hown, hb⟩
      have F_kv : Hid (Arg w0d_lf_nm_mk_ps_jd_ks kv (tg mk (nm d) raw)) := (by show Arg _ _ _; rw [tg, ← HJ.out]; exact hm_arg.1 (Hm.Own.arg hown))
      replace hC := hC.trans (hb.mono hC.size)
      replace F_jv := Lib.hid (F_jv.out.below hb)
      refine hK.out _ _ (HKeep.out _ hC) (fun hHeld => ?_)
      clear hK K hb 
      clear hown
      try go_frame
      refine wpAnyH_ready (rs := [13]) (by kernel_rfl) (by simp) ?_
      refine AllReadyH.cons (o := ⟨some 20, _, _, _, _, _⟩) rfl (fun K hK => ?_) AllReadyH.nil
      have hcv := conv_arg F_kv.out
      go_simp
      clear hcv
      refine hK.out _ _ (HKeep.out _ hC) (fun hHeld => ?_)
      clear hK K
      try go_frame
      refine wpAnyH_take (i := 14) (oi := ⟨some 6, _, _, _, _, _⟩) (v := ?_) rfl (by kernel_rfl) (by kernel_rfl) (by kernel_rfl) (fun _ _ _ h => h) (Or.inl ⟨by rfl, ?_⟩) hHeld ?_
      rotate_left
      · intro w hSw
        go_simp
        with_reducible rfl
      try go_frame
      refine wpAnyH_done (by kernel_rfl) ?_ _
      clear HKeep hHeld F_kv
      go_wp2
      go_ret
      exact ⟨rfl, hC⟩
    exact AllReadyH.nil
  refine AllReadyH.cons (o := ⟨some 15, _, _, _, _, _⟩) rfl (fun K hK => ?_) ?_
  · skip
    go_simp
    go_at_call 22
    refine (Big_form4 (nm d) _ (nm_wrap d) (nm_lt d) w0d).mono ?_
    rintro e w0d_nm ⟨gn, cn, rfl, A_nm, hb⟩
    have F_nm : Hid (Arg w0d_nm (.slice (some ⟨gn, 0, none⟩) 4 cn) (big 4 (nm d))) := A_nm.out
    replace hC := hC.trans (hb.mono hC.size)
    refine hK.out _ _ (HKeep.out _ hC) (fun hHeld => ?_)
    clear hK K hb 
    clear A_nm
    try go_frame
    refine wpAnyH_ready (rs := [4]) (by kernel_rfl) (by simp) ?_
    refine AllReadyH.cons (o := ⟨some 11, _, _, _, _, _⟩) rfl (fun K hK => ?_) AllReadyH.nil
    go_simp
    have hb : Below w0d_nm.heap.size w0d_nm (w0d_nm.alloc (.cells #[.int .u8 108, .int .u8 101, .int .u8 97, .int .u8 102] 5)) := Joins.below_alloc1 _ _
    have hg_lf := hC.size
    obtain ⟨g_lf, Hg_lf⟩ : ∃ g, Hid (g = w0d_nm.heap.size) := ⟨_, rfl⟩
    have R_lf : Hid (Row (w0d_nm.alloc (.cells #[.int .u8 108, .int .u8 101, .int .u8 97, .int .u8 102] 5)) w0d_nm.heap.size 5 (leafW.map V8)) := Row.new w0d_nm 5 (leafW.map V8)
    replace hC := hC.trans (hb.mono hC.size)
    replace F_nm := Lib.hid (F_nm.out.below hb)
    refine hK.out _ _ (HKeep.out _ hC) (fun hHeld => ?_)
    clear hK K hb
    generalize (w0d_nm.alloc (.cells #[.int .u8 108, .int .u8 101, .int .u8 97, .int .u8 102] 5)) = w0d_nm_lf at *
    rw [← Hg_lf.out] at hg_lf ⊢
    rw [← Hg_lf.out] at R_lf
    clear Hg_lf
    try go_frame
    refine wpAnyH_ready (rs := [5]) (by kernel_rfl) (by simp) ?_
    refine AllReadyH.cons (o := ⟨some 12, _, _, _, _, _⟩) rfl (fun K hK => ?_) AllReadyH.nil
    have hcv := run_mark g_lf 4 4 leafW w0d_nm_lf R_lf.out
    go_simp
    clear hcv
    have hb0 := hC.trans (mark_below w0d_nm_lf _ g_lf (List.length leafW) hg_lf)
    have F_lf : Hid (Arg (w0d_nm_lf.freeze ⟨g_lf, List.length leafW, none⟩ 1) (.slice (some ⟨g_lf, 0, none⟩) 4 4) (leafW)) := mark_arg w0d_nm_lf g_lf _ R_lf.out 4 rfl
    clear R_lf
    replace F_nm := Lib.hid (F_nm.out.mark g_lf (List.length leafW))
    replace hC := hb0
    refine hK.out _ _ (HKeep.out _ hC) (fun hHeld => ?_)
    clear hK K hb0
    generalize (w0d_nm_lf.freeze ⟨g_lf, List.length leafW, none⟩ 1) = w0d_nm_lf_mk at *
    try go_frame
    refine wpAnyH_ready (rs := [10]) (by kernel_rfl) (by simp) ?_
    refine AllReadyH.cons (o := ⟨some 17, _, _, _, _, _⟩) rfl (fun K hK => ?_) AllReadyH.nil
    go_simp
    have hb : Below w0d_nm_lf_mk.heap.size w0d_nm_lf_mk (w0d_nm_lf_mk.alloc (.cells #[.slice (some ⟨g_lf, 0, none⟩) 4 4, .slice (some ⟨gn, 0, none⟩) 4 cn, .slice A n cap] 22)) := Joins.below_alloc1 _ _
    have hg_ps := hC.size
    obtain ⟨g_ps, Hg_ps⟩ : ∃ g, Hid (g = w0d_nm_lf_mk.heap.size) := ⟨_, rfl⟩
    have F_ps : Hid (Hm.Parts (w0d_nm_lf_mk.alloc (.cells #[.slice (some ⟨g_lf, 0, none⟩) 4 4, .slice (some ⟨gn, 0, none⟩) 4 cn, .slice A n cap] 22)) (.slice (some ⟨w0d_nm_lf_mk.heap.size, 0, none⟩) 3 3) [leafW, big 4 (nm d), raw]) := parts3 F_lf.out F_nm.out (HV.out.below hC)
    replace hC := hC.trans (hb.mono hC.size)
    replace F_nm := Lib.hid (F_nm.out.below hb)
    replace F_lf := Lib.hid (F_lf.out.below hb)
    refine hK.out _ _ (HKeep.out _ hC) (fun hHeld => ?_)
    clear hK K hb
    generalize (w0d_nm_lf_mk.alloc (.cells #[.slice (some ⟨g_lf, 0, none⟩) 4 4, .slice (some ⟨gn, 0, none⟩) 4 cn, .slice A n cap] 22)) = w0d_nm_lf_mk_ps at *
    rw [← Hg_ps.out] at hg_ps ⊢
    rw [← Hg_ps.out] at F_ps
    clear Hg_ps
    try go_frame
    refine wpAnyH_ready (rs := [11]) (by kernel_rfl) (by simp) ?_
    refine AllReadyH.cons (o := ⟨some 18, _, _, _, _, _⟩) rfl (fun K hK => ?_) AllReadyH.nil
    go_simp
    go_at_call 19
    refine (Hm.Joined_any _ _ _ _ (small3 (nm d) raw HR.out) w0d_nm_lf_mk_ps F_ps.out).mono ?_
    rintro e w0d_nm_lf_mk_ps_jd ⟨jv, rfl, hown, hb⟩
    have F_jv : Hid (Arg w0d_nm_lf_mk_ps_jd jv J) := (by show Arg _ _ _; rw [HJ.out]; exact hm_arg.1 (Hm.Own.arg hown))
    replace hC := hC.trans (hb.mono hC.size)
    replace F_nm := Lib.hid (F_nm.out.below hb)
    replace F_lf := Lib.hid (F_lf.out.below hb)
    replace F_ps := Lib.hid (F_ps.out.below hb)
    refine hK.out _ _ (HKeep.out _ hC) (fun hHeld => ?_)
    clear hK K hb 
    clear hown F_ps F_lf F_nm
    try go_frame
    refine wpAnyH_ready (rs := [12]) (by kernel_rfl) (by simp) ?_
    refine AllReadyH.cons (o := ⟨some 19, _, _, _, _, _⟩) rfl (fun K hK => ?_) AllReadyH.nil
    go_simp
    go_at_call 18
    refine (Hm.KSum_any _ mk _ J HJl.out w0d_nm_lf_mk_ps_jd (HKM.out.below hC) F_jv.out).mono ?_
    rintro e w0d_nm_lf_mk_ps_jd_ks ⟨kv, rfl, hown, hb⟩
    have F_kv : Hid (Arg w0d_nm_lf_mk_ps_jd_ks kv (tg mk (nm d) raw)) := (by show Arg _ _ _; rw [tg, ← HJ.out]; exact hm_arg.1 (Hm.Own.arg hown))
    replace hC := hC.trans (hb.mono hC.size)
    replace F_jv := Lib.hid (F_jv.out.below hb)
    refine hK.out _ _ (HKeep.out _ hC) (fun hHeld => ?_)
    clear hK K hb 
    clear hown
    try go_frame
    refine wpAnyH_ready (rs := [13]) (by kernel_rfl) (by simp) ?_
    refine AllReadyH.cons (o := ⟨some 20, _, _, _, _, _⟩) rfl (fun K hK => ?_) AllReadyH.nil
    have hcv := conv_arg F_kv.out
    go_simp
    clear hcv
    refine hK.out _ _ (HKeep.out _ hC) (fun hHeld => ?_)
    clear hK K
    try go_frame
    refine wpAnyH_take (i := 14) (oi := ⟨some 6, _, _, _, _, _⟩) (v := ?_) rfl (by kernel_rfl) (by kernel_rfl) (by kernel_rfl) (fun _ _ _ h => h) (Or.inl ⟨by rfl, ?_⟩) hHeld ?_
    rotate_left
    · intro w hSw
      go_simp
      with_reducible rfl
    try go_frame
    refine wpAnyH_done (by kernel_rfl) ?_ _
    clear HKeep hHeld F_kv
    go_wp2
    go_ret
    exact ⟨rfl, hC⟩
  exact AllReadyH.nil
end Go.Proofs.YtfodblgoamkgmaaDoor
