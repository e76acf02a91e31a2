/-
  OF THE WALK: SC, SD.
-/
import Derived.Test.YthbmknpbcgnabaaGreatDoorP15
namespace Go.Proofs.YthbmknpbcgnabaaGreatDoor
open Go.RowKit Aes Ctr Sl
set_option maxRecDepth 100000 in
set_option maxHeartbeats 1000000 in
theorem STag_any (ek mk : List UInt8) (ks : List Value) (hk : KeysV ek mk ks) (d : Int) (raw : List UInt8) (hr : raw.length ≤ 1000) (v : Value) (w : World) (hT : Hm.Tab w) (h : Arg w v raw) :
    Calls Tryz.prog 36 #[.agg ks.toArray, .int .i64 d, v] w fun e w' => ∃ rs : List Value, Hid (Vec 32 (tg mk (nm d) raw) rs) ∧ e = .returned (.agg rs.toArray) ∧ Below w.heap.size w w' := by
  obtain ⟨A, cap, rfl⟩ := h.form
  obtain ⟨n, hnl⟩ : ∃ n, n = raw.length := ⟨_, rfl⟩
  rw [← hnl] at h ⊢
  have HK := Lib.hid hk
  have HR := Lib.hid hr
  have Hzk : Hid (ks.toArray.size = 48) := hk.size
  have hz := Hm.zeroTag
  obtain ⟨w0, hw0⟩ : ∃ w0, w0 = (w.alloc (.cells ks.toArray 29)).alloc (.cells Hm.Z32.toArray 27) := ⟨_, rfl⟩
  have HBL : Hid (Below w.heap.size w w0) := by rw [hw0]; exact ((Below.refl _ _).alloc (Nat.le_refl _) _).alloc (by simp) _
  have HBX : Hid (Row w0 w.heap.size 29 ks) := by rw [hw0]; exact (Row.new w 29 ks).alloc _
  have HZ0 : Hid (Row w0 (w.heap.size + 1) 27 Hm.Z32) := by rw [hw0]; exact Row.newAt 27 Hm.Z32 (by simp)
  have HT : Hid (Hm.Tab w0) := hT.below HBL.out
  have HV : Hid (Arg w0 (.slice A n cap) raw) := h.below HBL.out
  have HKeep : Hid (∀ W, Below w0.heap.size w0 W → Below w.heap.size w W) := fun W hW => HBL.out.trans (hW.mono HBL.out.size)
  clear h hT hk hr hnl
  go_enter Tryz.func36, Tryz.ntmps36
  go_wp2
  rw [← hw0]
  clear hw0 hz
  have hC : Below w0.heap.size w0 w0.drew := below_drewN (Below.refl _ _) 1
  refine wp_region_held_drew (S := (fun W => Below w.heap.size w W)) (by kernel_rfl) (HKeep.out _ hC) (fun hHeld => ?_)
  generalize w0.drew = w0d at *
  refine wpAnyH_take (i := 0) (oi := ⟨some 7, _, _, _, _, _⟩) (v := ?_) rfl (by kernel_rfl) (by kernel_rfl) (by kernel_rfl) (fun _ _ _ h => h) (Or.inl ⟨by rfl, ?_⟩) hHeld ?_
  rotate_left
  · intro w hSw
    go_simp
    with_reducible rfl
  try go_frame
  refine wpAnyH_take (i := 1) (oi := ⟨some 8, _, _, _, _, _⟩) (v := ?_) rfl (by kernel_rfl) (by kernel_rfl) (by kernel_rfl) (fun _ _ _ h => h) (Or.inl ⟨by rfl, ?_⟩) hHeld ?_
  rotate_left
  · intro w hSw
    go_simp
    with_reducible rfl
  try go_frame
  refine wpAnyH_take (i := 4) (oi := ⟨some 11, _, _, _, _, _⟩) (v := ?_) rfl (by kernel_rfl) (by kernel_rfl) (by kernel_rfl) (fun _ _ _ h => h) (Or.inl ⟨by rfl, ?_⟩) hHeld ?_
  rotate_left
  · intro w hSw
    go_simp
    with_reducible rfl
  try go_frame
  refine wpAnyH_take (i := 5) (oi := ⟨some 12, _, _, _, _, _⟩) (v := ?_) rfl (by kernel_rfl) (by kernel_rfl) (by kernel_rfl) (fun _ _ _ h => h) (Or.inl ⟨by rfl, ?_⟩) hHeld ?_
  rotate_left
  · intro w hSw
    go_simp
    with_reducible rfl
  try go_frame
  refine wpAnyH_take (i := 7) (oi := ⟨some 14, _, _, _, _, _⟩) (v := ?_) rfl (by kernel_rfl) (by kernel_rfl) (by kernel_rfl) (fun _ _ _ h => h) (Or.inl ⟨by rfl, ?_⟩) hHeld ?_
  rotate_left
  · intro w hSw
    go_simp
    with_reducible rfl
  try go_frame
  refine wpAnyH_ready (rs := [2, 6]) (by kernel_rfl) (by simp) ?_
  refine AllReadyH.cons (o := ⟨some 9, _, _, _, _, _⟩) rfl (fun K hK => ?_) ?_
  · skip
    go_simp
    have hb : Below w0d.heap.size w0d (w0d.alloc (.cells #[.int .u8 108, .int .u8 101, .int .u8 97, .int .u8 102] 5)) := Joins.below_alloc1 _ _
    have hg_lf := hC.size
    obtain ⟨g_lf, Hg_lf⟩ : ∃ g, Hid (g = w0d.heap.size) := ⟨_, rfl⟩
    have R_lf : Hid (Row (w0d.alloc (.cells #[.int .u8 108, .int .u8 101, .int .u8 97, .int .u8 102] 5)) w0d.heap.size 5 (leafW.map V8)) := Row.new w0d 5 (leafW.map V8)
    replace hC := hC.trans (hb.mono hC.size)
    refine hK.out _ _ (HKeep.out _ hC) (fun hHeld => ?_)
    clear hK K hb
    generalize (w0d.alloc (.cells #[.int .u8 108, .int .u8 101, .int .u8 97, .int .u8 102] 5)) = w0d_lf at *
    rw [← Hg_lf.out] at hg_lf ⊢
    rw [← Hg_lf.out] at R_lf
    clear Hg_lf
    try go_frame
    refine wpAnyH_ready (rs := [3, 6]) (by kernel_rfl) (by simp) ?_
    refine AllReadyH.cons (o := ⟨some 10, _, _, _, _, _⟩) rfl (fun K hK => ?_) ?_
    · skip
      have hcv := run_mark g_lf 4 4 leafW w0d_lf R_lf.out
      go_simp
      clear hcv
      have hb0 := hC.trans (mark_below w0d_lf _ g_lf (List.length leafW) hg_lf)
      have F_lf : Hid (Arg (w0d_lf.freeze ⟨g_lf, List.length leafW, none⟩ 1) (.slice (some ⟨g_lf, 0, none⟩) 4 4) (leafW)) := mark_arg w0d_lf g_lf _ R_lf.out 4 rfl
      clear R_lf
      replace hC := hb0
      refine hK.out _ _ (HKeep.out _ hC) (fun hHeld => ?_)
      clear hK K hb0
      generalize (w0d_lf.freeze ⟨g_lf, List.length leafW, none⟩ 1) = w0d_lf_mk at *
      try go_frame
      refine wpAnyH_ready (rs := [6]) (by kernel_rfl) (by simp) ?_
      refine AllReadyH.cons (o := ⟨some 13, _, _, _, _, _⟩) rfl (fun K hK => ?_) AllReadyH.nil
      go_simp
      go_at_call 73
      obtain ⟨g_nm, Hg_nm⟩ : ∃ g, Hid (g = w0d_lf_mk.heap.size) := ⟨_, rfl⟩
      refine (SputN_4 (nm d) _ (nm_wrap d) (nm_lt d) w0d_lf_mk).mono ?_
      rintro e w0d_lf_mk_nm ⟨rfl, R_nm, hb⟩
      have F_nm : Hid (Arg w0d_lf_mk_nm (.slice (some ⟨g_nm, 0, none⟩) 4 4) (big 4 (nm d))) := (Hg_nm.out ▸ R_nm.out : Row w0d_lf_mk_nm g_nm _ _).arg 4 (big_length _ _)
      replace hC := hC.trans (hb.mono hC.size)
      replace F_lf := Lib.hid (F_lf.out.below hb)
      refine hK.out _ _ (HKeep.out _ hC) (fun hHeld => ?_)
      clear hK K hb 
      rw [← Hg_nm.out]
      clear Hg_nm R_nm
      try go_frame
      refine wpAnyH_ready (rs := [8]) (by kernel_rfl) (by simp) ?_
      refine AllReadyH.cons (o := ⟨some 15, _, _, _, _, _⟩) rfl (fun K hK => ?_) AllReadyH.nil
      go_simp
      have hb : Below w0d_lf_mk_nm.heap.size w0d_lf_mk_nm (w0d_lf_mk_nm.alloc (.cells #[.slice (some ⟨g_lf, 0, none⟩) 4 4, .slice (some ⟨g_nm, 0, none⟩) 4 4, .slice A n cap] 22)) := Joins.below_alloc1 _ _
      have hg_ps := hC.size
      obtain ⟨g_ps, Hg_ps⟩ : ∃ g, Hid (g = w0d_lf_mk_nm.heap.size) := ⟨_, rfl⟩
      have F_ps : Hid (Hm.Parts (w0d_lf_mk_nm.alloc (.cells #[.slice (some ⟨g_lf, 0, none⟩) 4 4, .slice (some ⟨g_nm, 0, none⟩) 4 4, .slice A n cap] 22)) (.slice (some ⟨w0d_lf_mk_nm.heap.size, 0, none⟩) 3 3) [leafW, big 4 (nm d), raw]) := parts3 F_lf.out F_nm.out (HV.out.below hC)
      replace hC := hC.trans (hb.mono hC.size)
      replace F_lf := Lib.hid (F_lf.out.below hb)
      replace F_nm := Lib.hid (F_nm.out.below hb)
      refine hK.out _ _ (HKeep.out _ hC) (fun hHeld => ?_)
      clear hK K hb
      generalize (w0d_lf_mk_nm.alloc (.cells #[.slice (some ⟨g_lf, 0, none⟩) 4 4, .slice (some ⟨g_nm, 0, none⟩) 4 4, .slice A n cap] 22)) = w0d_lf_mk_nm_ps at *
      rw [← Hg_ps.out] at hg_ps ⊢
      rw [← Hg_ps.out] at F_ps
      clear Hg_ps
      try go_frame
      refine wpAnyH_ready (rs := [9]) (by kernel_rfl) (by simp) ?_
      refine AllReadyH.cons (o := ⟨some 16, _, _, _, _, _⟩) rfl (fun K hK => ?_) AllReadyH.nil
      go_simp
      go_at_call 31
      refine (Hm.Join_any _ mk (by rw [HK.out.2.2]; omega) _ _ _ _ (small3 (nm d) raw HR.out) w0d_lf_mk_nm_ps (HT.out.below hC) (HK.out.mac (HBX.out.below hC HBX.out.lt)) F_ps.out).mono ?_
      rintro e w0d_lf_mk_nm_ps_jn ⟨rs, Hrs, rfl, hb⟩
      replace hC := hC.trans (hb.mono hC.size)
      replace F_lf := Lib.hid (F_lf.out.below hb)
      replace F_nm := Lib.hid (F_nm.out.below hb)
      replace F_ps := Lib.hid (F_ps.out.below hb)
      refine hK.out _ _ (HKeep.out _ hC) (fun hHeld => ?_)
      clear hK K hb 
      have Hsz : Hid (rs.toArray.size = 32) := Hrs.out.size
      have Hone : Hid (rs.toArray.all (·.oneCell') = true) := Hrs.out.one
      clear F_lf F_nm F_ps
      try go_frame
      refine wpAnyH_ready (rs := [10]) (by kernel_rfl) (by simp) ?_
      refine AllReadyH.cons (o := ⟨none, _, _, _, _, _⟩) rfl (fun K hK => ?_) AllReadyH.nil
      rw [if_pos (by rfl)]
      refine Go.wp_store_row 27 (.tmp 6) (.tmp 16) rfl (w.heap.size + 1) rs.toArray rfl rfl 27 _ (HZ0.out.below hC HZ0.out.lt) (by rw [Hsz.out]; kernel_rfl) (by rw [Hsz.out]; rfl) Hone.out ?_
      have HF := Lib.hid (((HZ0.out.below hC HZ0.out.lt)).whole rs)
      have HBF := Lib.hid (below_setRow' (HBL.out.trans (hC.mono HBL.out.size)) (k := w.heap.size + 1) (by omega) rs.toArray)
      refine hK.out _ _ HBF.out (fun hHeld => ?_)
      clear hK K
      generalize (w0d_lf_mk_nm_ps_jn.setRow (w.heap.size + 1) rs.toArray) = w0d_lf_mk_nm_ps_jn_st at *
      try go_frame
      refine wpAnyH_done (by kernel_rfl) ?_ _
      clear hC
      have hinfo : (Tryz.prog.info? 27).map (·.size) = some rs.toArray.size := by rw [Hsz.out]; kernel_rfl
      go_wp2
      refine bodyPost_ret (v := .agg rs.toArray) (results_cell_row rfl _ _ (w.heap.size + 1) 27 rs.toArray (0, 0) _ rfl HF.out Tryz.underlying27 rfl hinfo) rfl ?_
      exact ⟨rs, Hrs, rfl, HBF.out⟩
    refine AllReadyH.cons (o := ⟨some 13, _, _, _, _, _⟩) rfl (fun K hK => ?_) ?_
    · skip
      go_simp
      go_at_call 73
      obtain ⟨g_nm, Hg_nm⟩ : ∃ g, Hid (g = w0d_lf.heap.size) := ⟨_, rfl⟩
      refine (SputN_4 (nm d) _ (nm_wrap d) (nm_lt d) w0d_lf).mono ?_
      rintro e w0d_lf_nm ⟨rfl, R_nm, hb⟩
      have F_nm : Hid (Arg w0d_lf_nm (.slice (some ⟨g_nm, 0, none⟩) 4 4) (big 4 (nm d))) := (Hg_nm.out ▸ R_nm.out : Row w0d_lf_nm g_nm _ _).arg 4 (big_length _ _)
      replace hC := hC.trans (hb.mono hC.size)
      replace R_lf := Lib.hid (R_lf.out.below hb R_lf.out.lt)
      refine hK.out _ _ (HKeep.out _ hC) (fun hHeld => ?_)
      clear hK K hb 
      rw [← Hg_nm.out]
      clear Hg_nm R_nm
      try go_frame
      refine wpAnyH_ready (rs := [3]) (by kernel_rfl) (by simp) ?_
      refine AllReadyH.cons (o := ⟨some 10, _, _, _, _, _⟩) rfl (fun K hK => ?_) AllReadyH.nil
      have hcv := run_mark g_lf 4 4 leafW w0d_lf_nm R_lf.out
      go_simp
      clear hcv
      have hb0 := hC.trans (mark_below w0d_lf_nm _ g_lf (List.length leafW) hg_lf)
      have F_lf : Hid (Arg (w0d_lf_nm.freeze ⟨g_lf, List.length leafW, none⟩ 1) (.slice (some ⟨g_lf, 0, none⟩) 4 4) (leafW)) := mark_arg w0d_lf_nm g_lf _ R_lf.out 4 rfl
      clear R_lf
      replace F_nm := Lib.hid (F_nm.out.mark g_lf (List.length leafW))
      replace hC := hb0
      refine hK.out _ _ (HKeep.out _ hC) (fun hHeld => ?_)
      clear hK K hb0
      generalize (w0d_lf_nm.freeze ⟨g_lf, List.length leafW, none⟩ 1) = w0d_lf_nm_mk at *
      try go_frame
      refine wpAnyH_ready (rs := [8]) (by kernel_rfl) (by simp) ?_
      refine AllReadyH.cons (o := ⟨some 15, _, _, _, _, _⟩) rfl (fun K hK => ?_) AllReadyH.nil
      go_simp
      have hb : Below w0d_lf_nm_mk.heap.size w0d_lf_nm_mk (w0d_lf_nm_mk.alloc (.cells #[.slice (some ⟨g_lf, 0, none⟩) 4 4, .slice (some ⟨g_nm, 0, none⟩) 4 4, .slice A n cap] 22)) := Joins.below_alloc1 _ _
      have hg_ps := hC.size
      obtain ⟨g_ps, Hg_ps⟩ : ∃ g, Hid (g = w0d_lf_nm_mk.heap.size) := ⟨_, rfl⟩
      have F_ps : Hid (Hm.Parts (w0d_lf_nm_mk.alloc (.cells #[.slice (some ⟨g_lf, 0, none⟩) 4 4, .slice (some ⟨g_nm, 0, none⟩) 4 4, .slice A n cap] 22)) (.slice (some ⟨w0d_lf_nm_mk.heap.size, 0, none⟩) 3 3) [leafW, big 4 (nm d), raw]) := parts3 F_lf.out F_nm.out (HV.out.below hC)
      replace hC := hC.trans (hb.mono hC.size)
      replace F_nm := Lib.hid (F_nm.out.below hb)
      replace F_lf := Lib.hid (F_lf.out.below hb)
      refine hK.out _ _ (HKeep.out _ hC) (fun hHeld => ?_)
      clear hK K hb
      generalize (w0d_lf_nm_mk.alloc (.cells #[.slice (some ⟨g_lf, 0, none⟩) 4 4, .slice (some ⟨g_nm, 0, none⟩) 4 4, .slice A n cap] 22)) = w0d_lf_nm_mk_ps at *
      rw [← Hg_ps.out] at hg_ps ⊢
      rw [← Hg_ps.out] at F_ps
      clear Hg_ps
      try go_frame
      refine wpAnyH_ready (rs := [9]) (by kernel_rfl) (by simp) ?_
      refine AllReadyH.cons (o := ⟨some 16, _, _, _, _, _⟩) rfl (fun K hK => ?_) AllReadyH.nil
      go_simp
      go_at_call 31
      refine (Hm.Join_any _ mk (by rw [HK.out.2.2]; omega) _ _ _ _ (small3 (nm d) raw HR.out) w0d_lf_nm_mk_ps (HT.out.below hC) (HK.out.mac (HBX.out.below hC HBX.out.lt)) F_ps.out).mono ?_
      rintro e w0d_lf_nm_mk_ps_jn ⟨rs, Hrs, rfl, hb⟩
      replace hC := hC.trans (hb.mono hC.size)
      replace F_nm := Lib.hid (F_nm.out.below hb)
      replace F_lf := Lib.hid (F_lf.out.below hb)
      replace F_ps := Lib.hid (F_ps.out.below hb)
      refine hK.out _ _ (HKeep.out _ hC) (fun hHeld => ?_)
      clear hK K hb 
      have Hsz : Hid (rs.toArray.size = 32) := Hrs.out.size
      have Hone : Hid (rs.toArray.all (·.oneCell') = true) := Hrs.out.one
      clear F_lf F_nm F_ps
      try go_frame
      refine wpAnyH_ready (rs := [10]) (by kernel_rfl) (by simp) ?_
      refine AllReadyH.cons (o := ⟨none, _, _, _, _, _⟩) rfl (fun K hK => ?_) AllReadyH.nil
      rw [if_pos (by rfl)]
      refine Go.wp_store_row 27 (.tmp 6) (.tmp 16) rfl (w.heap.size + 1) rs.toArray rfl rfl 27 _ (HZ0.out.below hC HZ0.out.lt) (by rw [Hsz.out]; kernel_rfl) (by rw [Hsz.out]; rfl) Hone.out ?_
      have HF := Lib.hid (((HZ0.out.below hC HZ0.out.lt)).whole rs)
      have HBF := Lib.hid (below_setRow' (HBL.out.trans (hC.mono HBL.out.size)) (k := w.heap.size + 1) (by omega) rs.toArray)
      refine hK.out _ _ HBF.out (fun hHeld => ?_)
      clear hK K
      generalize (w0d_lf_nm_mk_ps_jn.setRow (w.heap.size + 1) rs.toArray) = w0d_lf_nm_mk_ps_jn_st at *
      try go_frame
      refine wpAnyH_done (by kernel_rfl) ?_ _
      clear hC
      have hinfo : (Tryz.prog.info? 27).map (·.size) = some rs.toArray.size := by rw [Hsz.out]; kernel_rfl
      go_wp2
      refine bodyPost_ret (v := .agg rs.toArray) (results_cell_row rfl _ _ (w.heap.size + 1) 27 rs.toArray (0, 0) _ rfl HF.out Tryz.underlying27 rfl hinfo) rfl ?_
      exact ⟨rs, Hrs, rfl, HBF.out⟩
    exact AllReadyH.nil
  refine AllReadyH.cons (o := ⟨some 13, _, _, _, _, _⟩) rfl (fun K hK => ?_) ?_
  · skip
    go_simp
    go_at_call 73
    obtain ⟨g_nm, Hg_nm⟩ : ∃ g, Hid (g = w0d.heap.size) := ⟨_, rfl⟩
    refine (SputN_4 (nm d) _ (nm_wrap d) (nm_lt d) w0d).mono ?_
    rintro e w0d_nm ⟨rfl, R_nm, hb⟩
    have F_nm : Hid (Arg w0d_nm (.slice (some ⟨g_nm, 0, none⟩) 4 4) (big 4 (nm d))) := (Hg_nm.out ▸ R_nm.out : Row w0d_nm g_nm _ _).arg 4 (big_length _ _)
    replace hC := hC.trans (hb.mono hC.size)
    refine hK.out _ _ (HKeep.out _ hC) (fun hHeld => ?_)
    clear hK K hb 
    rw [← Hg_nm.out]
    clear Hg_nm R_nm
    try go_frame
    refine wpAnyH_ready (rs := [2]) (by kernel_rfl) (by simp) ?_
    refine AllReadyH.cons (o := ⟨some 9, _, _, _, _, _⟩) rfl (fun K hK => ?_) AllReadyH.nil
    go_simp
    have hb : Below w0d_nm.heap.size w0d_nm (w0d_nm.alloc (.cells #[.int .u8 108, .int .u8 101, .int .u8 97, .int .u8 102] 5)) := Joins.below_alloc1 _ _
    have hg_lf := hC.size
    obtain ⟨g_lf, Hg_lf⟩ : ∃ g, Hid (g = w0d_nm.heap.size) := ⟨_, rfl⟩
    have R_lf : Hid (Row (w0d_nm.alloc (.cells #[.int .u8 108, .int .u8 101, .int .u8 97, .int .u8 102] 5)) w0d_nm.heap.size 5 (leafW.map V8)) := Row.new w0d_nm 5 (leafW.map V8)
    replace hC := hC.trans (hb.mono hC.size)
    replace F_nm := Lib.hid (F_nm.out.below hb)
    refine hK.out _ _ (HKeep.out _ hC) (fun hHeld => ?_)
    clear hK K hb
    generalize (w0d_nm.alloc (.cells #[.int .u8 108, .int .u8 101, .int .u8 97, .int .u8 102] 5)) = w0d_nm_lf at *
    rw [← Hg_lf.out] at hg_lf ⊢
    rw [← Hg_lf.out] at R_lf
    clear Hg_lf
    try go_frame
    refine wpAnyH_ready (rs := [3]) (by kernel_rfl) (by simp) ?_
    refine AllReadyH.cons (o := ⟨some 10, _, _, _, _, _⟩) rfl (fun K hK => ?_) AllReadyH.nil
    have hcv := run_mark g_lf 4 4 leafW w0d_nm_lf R_lf.out
    go_simp
    clear hcv
    have hb0 := hC.trans (mark_below w0d_nm_lf _ g_lf (List.length leafW) hg_lf)
    have F_lf : Hid (Arg (w0d_nm_lf.freeze ⟨g_lf, List.length leafW, none⟩ 1) (.slice (some ⟨g_lf, 0, none⟩) 4 4) (leafW)) := mark_arg w0d_nm_lf g_lf _ R_lf.out 4 rfl
    clear R_lf
    replace F_nm := Lib.hid (F_nm.out.mark g_lf (List.length leafW))
    replace hC := hb0
    refine hK.out _ _ (HKeep.out _ hC) (fun hHeld => ?_)
    clear hK K hb0
    generalize (w0d_nm_lf.freeze ⟨g_lf, List.length leafW, none⟩ 1) = w0d_nm_lf_mk at *
    try go_frame
    refine wpAnyH_ready (rs := [8]) (by kernel_rfl) (by simp) ?_
    refine AllReadyH.cons (o := ⟨some 15, _, _, _, _, _⟩) rfl (fun K hK => ?_) AllReadyH.nil
    go_simp
    have hb : Below w0d_nm_lf_mk.heap.size w0d_nm_lf_mk (w0d_nm_lf_mk.alloc (.cells #[.slice (some ⟨g_lf, 0, none⟩) 4 4, .slice (some ⟨g_nm, 0, none⟩) 4 4, .slice A n cap] 22)) := Joins.below_alloc1 _ _
    have hg_ps := hC.size
    obtain ⟨g_ps, Hg_ps⟩ : ∃ g, Hid (g = w0d_nm_lf_mk.heap.size) := ⟨_, rfl⟩
    have F_ps : Hid (Hm.Parts (w0d_nm_lf_mk.alloc (.cells #[.slice (some ⟨g_lf, 0, none⟩) 4 4, .slice (some ⟨g_nm, 0, none⟩) 4 4, .slice A n cap] 22)) (.slice (some ⟨w0d_nm_lf_mk.heap.size, 0, none⟩) 3 3) [leafW, big 4 (nm d), raw]) := parts3 F_lf.out F_nm.out (HV.out.below hC)
    replace hC := hC.trans (hb.mono hC.size)
    replace F_nm := Lib.hid (F_nm.out.below hb)
    replace F_lf := Lib.hid (F_lf.out.below hb)
    refine hK.out _ _ (HKeep.out _ hC) (fun hHeld => ?_)
    clear hK K hb
    generalize (w0d_nm_lf_mk.alloc (.cells #[.slice (some ⟨g_lf, 0, none⟩) 4 4, .slice (some ⟨g_nm, 0, none⟩) 4 4, .slice A n cap] 22)) = w0d_nm_lf_mk_ps at *
    rw [← Hg_ps.out] at hg_ps ⊢
    rw [← Hg_ps.out] at F_ps
    clear Hg_ps
    try go_frame
    refine wpAnyH_ready (rs := [9]) (by kernel_rfl) (by simp) ?_
    refine AllReadyH.cons (o := ⟨some 16, _, _, _, _, _⟩) rfl (fun K hK => ?_) AllReadyH.nil
    go_simp
    go_at_call 31
    refine (Hm.Join_any _ mk (by rw [HK.out.2.2]; omega) _ _ _ _ (small3 (nm d) raw HR.out) w0d_nm_lf_mk_ps (HT.out.below hC) (HK.out.mac (HBX.out.below hC HBX.out.lt)) F_ps.out).mono ?_
    rintro e w0d_nm_lf_mk_ps_jn ⟨rs, Hrs, rfl, hb⟩
    replace hC := hC.trans (hb.mono hC.size)
    replace F_nm := Lib.hid (F_nm.out.below hb)
    replace F_lf := Lib.hid (F_lf.out.below hb)
    replace F_ps := Lib.hid (F_ps.out.below hb)
    refine hK.out _ _ (HKeep.out _ hC) (fun hHeld => ?_)
    clear hK K hb 
    have Hsz : Hid (rs.toArray.size = 32) := Hrs.out.size
    have Hone : Hid (rs.toArray.all (·.oneCell') = true) := Hrs.out.one
    clear F_lf F_nm F_ps
    try go_frame
    refine wpAnyH_ready (rs := [10]) (by kernel_rfl) (by simp) ?_
    refine AllReadyH.cons (o := ⟨none, _, _, _, _, _⟩) rfl (fun K hK => ?_) AllReadyH.nil
    rw [if_pos (by rfl)]
    refine Go.wp_store_row 27 (.tmp 6) (.tmp 16) rfl (w.heap.size + 1) rs.toArray rfl rfl 27 _ (HZ0.out.below hC HZ0.out.lt) (by rw [Hsz.out]; kernel_rfl) (by rw [Hsz.out]; rfl) Hone.out ?_
    have HF := Lib.hid (((HZ0.out.below hC HZ0.out.lt)).whole rs)
    have HBF := Lib.hid (below_setRow' (HBL.out.trans (hC.mono HBL.out.size)) (k := w.heap.size + 1) (by omega) rs.toArray)
    refine hK.out _ _ HBF.out (fun hHeld => ?_)
    clear hK K
    generalize (w0d_nm_lf_mk_ps_jn.setRow (w.heap.size + 1) rs.toArray) = w0d_nm_lf_mk_ps_jn_st at *
    try go_frame
    refine wpAnyH_done (by kernel_rfl) ?_ _
    clear hC
    have hinfo : (Tryz.prog.info? 27).map (·.size) = some rs.toArray.size := by rw [Hsz.out]; kernel_rfl
    go_wp2
    refine bodyPost_ret (v := .agg rs.toArray) (results_cell_row rfl _ _ (w.heap.size + 1) 27 rs.toArray (0, 0) _ rfl HF.out Tryz.underlying27 rfl hinfo) rfl ?_
    exact ⟨rs, Hrs, rfl, HBF.out⟩
  exact AllReadyH.nil
end Go.Proofs.YthbmknpbcgnabaaGreatDoor
namespace Go.Proofs.YthbmknpbcgnabaaGreatDoor
open Go.RowKit Aes Ctr Sl
theorem Nonce_nm (d : Int) (v : Nat) (hv : v < 2 ^ 64) (w : World) :
    Calls Tryz.prog 126 #[.int .i64 d, .int .u64 v] w fun e w' => ∃ ts : List Value, Hid (Vec 12 (nnc (nm d) v) ts) ∧ e = .returned (.agg ts.toArray) ∧ Below w.heap.size w w' := by
  have h : (((d % 4294967296).toNat : Nat) : Int) = d % 4294967296 := by omega
  have := Nonce_any d _ h v hv w
  rwa [nnc_low d _ v h] at this
theorem range_enc {ek mk : List UInt8} {ks : List Value} {w : World} {g : Nat} {t : TypeId} (h : KeysV ek mk ks) (hr : Row w g t ks) : w.rangeAt g 0 (ek.map V8) := by
  rcases h.enc hr with ⟨A, e, hn⟩ | ⟨b, o, c, e, _, _, hs⟩
  · rw [hn] at h; exact absurd h.2.1 (by decide)
  · injection e with e1 _ _
    injection e1 with e1
    injection e1 with e1 e2 _
    subst e1 e2
    exact hs
theorem range_row {w : World} {g : Nat} {t : TypeId} {cs : List Value} (h : Row w g t cs) : w.rangeAt g 0 cs := h.sees
set_option maxRecDepth 100000 in
set_option maxHeartbeats 1000000 in
theorem Scode_any (ek mk : List UInt8) (ks : List Value) (hk : KeysV ek mk ks) (d : Int) (v : Nat) (hv : v < 2 ^ 64) (b : List UInt8) (x : Value) (hbl : b.length ≤ 100000) (w : World) (h : Arg w x b) :
    Calls Tryz.prog 94 #[.agg ks.toArray, .int .i64 d, .int .u64 v, x] w fun e w' => ∃ g, e = .returned (.slice (some ⟨g, 0, none⟩) b.length b.length) ∧ w.heap.size ≤ g ∧ Hid (Row w' g 5 ((code ek (nnc (nm d) v) b).map V8)) ∧ Below w.heap.size w w' := by
  obtain ⟨A, cap, rfl⟩ := h.form
  obtain ⟨n, hnl⟩ : ∃ n, n = b.length := ⟨_, rfl⟩
  rw [← hnl] at h hbl ⊢
  have HNl := Lib.hid hnl
  have HK := Lib.hid hk
  have Hzk : Hid (ks.toArray.size = 48) := hk.size
  obtain ⟨w0, hw0⟩ : ∃ w0, w0 = w.alloc (.cells ks.toArray 29) := ⟨_, rfl⟩
  have HBL : Hid (Below w.heap.size w w0) := by rw [hw0]; exact (Below.refl _ _).alloc (Nat.le_refl _) _
  have HBX : Hid (Row w0 w.heap.size 29 ks) := by rw [hw0]; exact Row.new w 29 ks
  have HA : Hid (Arg w0 (.slice A n cap) b) := h.below HBL.out
  have hsz0 := HBL.out.size
  have HKeep : Hid (∀ W, Below w0.heap.size w0 W → W.rangeAt w.heap.size 0 (ek.map V8)) := fun W hW => range_enc HK.out (HBX.out.below hW HBX.out.lt)
  have hi1 : (Tryz.prog.info? 25).map (·.size) = some (ek.map V8).length := by rw [List.length_map, HK.out.2.1]; kernel_rfl
  clear h hk hnl
  go_enter Tryz.func94, Tryz.ntmps94
  go_wp2
  rw [← hw0]
  clear hw0
  have hC : Below w0.heap.size w0 w0.drew := below_drewN (Below.refl _ _) 1
  refine wp_region_held_drew (S := (fun W => W.rangeAt w.heap.size 0 (ek.map V8))) (by kernel_rfl) (HKeep.out _ hC) (fun hHeld => ?_)
  generalize w0.drew = w0d at *
  refine wpAnyH_take (i := 0) (oi := ⟨some 9, _, _, _, _, _⟩) (v := ?_) rfl (by kernel_rfl) (by kernel_rfl) (by kernel_rfl) (fun _ _ _ h => h) (Or.inl ⟨by rfl, ?_⟩) hHeld ?_
  rotate_left
  · intro w hSw
    go_simp
    with_reducible rfl
  try go_frame
  refine wpAnyH_take (i := 1) (oi := ⟨some 10, _, _, _, _, _⟩) (v := .agg (ek.map V8).toArray) rfl (by kernel_rfl) (by kernel_rfl) (by kernel_rfl) (fun _ _ _ h => h) (yieldsIf_load_mid (by rfl) 25 (.tmp 9) rfl (w.heap.size) 0 rfl (ek.map V8) _ (fun W h => h) Tryz.underlying25 rfl hi1) hHeld ?_
  try go_frame
  refine wpAnyH_take (i := 2) (oi := ⟨some 11, _, _, _, _, _⟩) (v := ?_) rfl (by kernel_rfl) (by kernel_rfl) (by kernel_rfl) (fun _ _ _ h => h) (Or.inl ⟨by rfl, ?_⟩) hHeld ?_
  rotate_left
  · intro w hSw
    go_simp
    with_reducible rfl
  try go_frame
  refine wpAnyH_take (i := 3) (oi := ⟨some 12, _, _, _, _, _⟩) (v := ?_) rfl (by kernel_rfl) (by kernel_rfl) (by kernel_rfl) (fun _ _ _ h => h) (Or.inl ⟨by rfl, ?_⟩) hHeld ?_
  rotate_left
  · intro w hSw
    go_simp
    with_reducible rfl
  try go_frame
  refine wpAnyH_take (i := 5) (oi := ⟨some 14, _, _, _, _, _⟩) (v := ?_) rfl (by kernel_rfl) (by kernel_rfl) (by kernel_rfl) (fun _ _ _ h => h) (Or.inl ⟨by rfl, ?_⟩) hHeld ?_
  rotate_left
  · intro w hSw
    go_simp
    with_reducible rfl
  try go_frame
  refine wpAnyH_ready (rs := [4]) (by kernel_rfl) (by simp) ?_
  refine AllReadyH.cons (o := ⟨some 13, _, _, _, _, _⟩) rfl (fun K hK => ?_) AllReadyH.nil
  go_simp
  go_at_call 126
  refine (Nonce_nm d v hv w0d).mono ?_
  rintro e w0d_no ⟨ts, Hts, rfl, hb⟩
  replace hC := hC.trans (hb.mono hC.size)
  refine hK.out _ _ (HKeep.out _ hC) (fun hHeld => ?_)
  clear hK K hb 
  have Hzt : Hid (ts.toArray.size = 12) := Hts.out.size
  try go_frame
  refine wpAnyH_ready (rs := [6]) (by kernel_rfl) (by simp) ?_
  refine AllReadyH.cons (o := ⟨some 15, _, _, _, _, _⟩) rfl (fun K hK => ?_) AllReadyH.nil
  go_simp
  go_at_call 125
  have hzc := hC.size
  refine (Code_any ek (nnc (nm d) v) b (ek.map V8) ts (Vec.mk 16 ek HK.out.2.1) Hts.out _ (by rw [← HNl.out]; exact hbl) w0d_no (HA.out.below hC)).mono ?_
  rintro e w0d_no_cd ⟨g, rfl, hg, HR, hb⟩
  replace hC := hC.trans (hb.mono hC.size)
  refine hK.out _ _ (HKeep.out _ hC) (fun hHeld => ?_)
  clear hK K hb 
  try go_frame
  refine wpAnyH_take (i := 7) (oi := ⟨some 8, _, _, _, _, _⟩) (v := ?_) rfl (by kernel_rfl) (by kernel_rfl) (by kernel_rfl) (fun _ _ _ h => h) (Or.inl ⟨by rfl, ?_⟩) hHeld ?_
  rotate_left
  · intro w hSw
    go_simp
    with_reducible rfl
  try go_frame
  refine wpAnyH_done (by kernel_rfl) ?_ _
  clear HKeep hHeld
  rw [← HNl.out]
  go_wp2
  go_ret
  exact ⟨g, rfl, by omega, HR, HBL.out.trans (hC.mono HBL.out.size)⟩
end Go.Proofs.YthbmknpbcgnabaaGreatDoor
