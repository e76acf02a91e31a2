/-
  THE WALK of the program's Node.
-/
import Derived.Test.YtepbnimheedodaaDoorMS
namespace Go.Proofs.YtepbnimheedodaaDoor
open Go.RowKit Mk

set_option maxRecDepth 100000 in
set_option maxHeartbeats 1000000 in
theorem node_holds : NodeC := by
  intro key four v ks w hk h4 h32 hks hT hA
  obtain ⟨A, cap, rfl⟩ := hA.form
  obtain ⟨n, hnl⟩ : ∃ n, n = key.length := ⟨_, rfl⟩
  rw [← hnl] at hA ⊢
  match four, h4 with
  | [t0, t1, t2, t3], _ =>
  have e0 := h32 t0 (by simp)
  have e1 := h32 t1 (by simp)
  have e2 := h32 t2 (by simp)
  have e3 := h32 t3 (by simp)
  have Hks := Lib.hid hks
  have Hkz : Hid (ks.toArray.size = 128) := by show _ = _; rw [hks, List.size_toArray, List.length_map, flat_length [t0, t1, t2, t3] rfl h32]
  have HSm : Hid (Hm.Small [nodeW, t0, t1, t2, t3]) := by
    refine ⟨by simp, fun p hp => ?_⟩
    simp only [List.mem_cons, List.not_mem_nil, or_false] at hp
    rcases hp with rfl | rfl | rfl | rfl | rfl
    · decide
    all_goals omega
  have hz := Hm.zeroTag
  obtain ⟨w0, hw0⟩ : ∃ w0, w0 = (w.alloc (.cells ks.toArray 80)).alloc (.cells Hm.Z32.toArray 34) := ⟨_, rfl⟩
  have HC : Hid (Below w.heap.size w w0) := by rw [hw0]; exact ((Below.refl _ _).alloc (Nat.le_refl _) _).alloc (by simp) _
  have HX_K : Hid (Row w0 w.heap.size 80 ks) := by rw [hw0]; exact (Row.new w 80 ks).alloc _
  have HX_Z : Hid (Row w0 (w.heap.size + 1) 34 Hm.Z32) := by rw [hw0]; exact Row.newAt 34 Hm.Z32 (by simp)
  have HT : Hid (Hm.Tab w0) := hT.below HC.out
  have HA : Hid (Arg w0 (.slice A n cap) key) := hA.below HC.out
  obtain ⟨k0, k1, k2, k3⟩ := kid_at e0 e1 e2 e3 (Hks.out ▸ HX_K.out)
  have HK0 := Lib.hid k0
  have HK1 := Lib.hid k1
  have HK2 := Lib.hid k2
  have HK3 := Lib.hid k3
  have HKeep : Hid (∀ W, Below w0.heap.size w0 W → True) := fun _ _ => trivial
  clear k0 k1 k2 k3 hks e0 e1 e2 e3 h32 hT hA hnl
  go_enter Tryd.func33, Tryd.ntmps33
  go_wp2
  rw [← hw0]
  clear hw0 hz
  have hC : Below w0.heap.size w0 w0.drew := below_drewN (Below.refl _ _) 1
  refine wp_region_held_drew (S := (fun _ => True)) (by kernel_rfl) (HKeep.out _ hC) (fun hHeld => ?_)
  generalize w0.drew = w0d at *
  refine wpAnyH_take (i := 0) (oi := ⟨some 5, _, _, _, _, _⟩) (v := ?_) rfl (by kernel_rfl) (by kernel_rfl) (by kernel_rfl) (fun _ _ _ h => h) (Or.inl ⟨by rfl, ?_⟩) hHeld ?_
  rotate_left
  · intro w hSw
    go_simp
    with_reducible rfl
  try go_frame
  refine wpAnyH_take (i := 3) (oi := ⟨some 8, _, _, _, _, _⟩) (v := ?_) rfl (by kernel_rfl) (by kernel_rfl) (by kernel_rfl) (fun _ _ _ h => h) (Or.inl ⟨by rfl, ?_⟩) hHeld ?_
  rotate_left
  · intro w hSw
    go_simp
    with_reducible rfl
  try go_frame
  refine wpAnyH_take (i := 4) (oi := ⟨some 9, _, _, _, _, _⟩) (v := ?_) rfl (by kernel_rfl) (by kernel_rfl) (by kernel_rfl) (fun _ _ _ h => h) (Or.inl ⟨by rfl, ?_⟩) hHeld ?_
  rotate_left
  · intro w hSw
    go_simp
    with_reducible rfl
  try go_frame
  refine wpAnyH_take (i := 5) (oi := ⟨some 10, _, _, _, _, _⟩) (v := ?_) rfl (by kernel_rfl) (by kernel_rfl) (by kernel_rfl) (fun _ _ _ h => h) (Or.inl ⟨by rfl, ?_⟩) hHeld ?_
  rotate_left
  · intro w hSw
    go_simp
    with_reducible rfl
  try go_frame
  refine wpAnyH_take (i := 6) (oi := ⟨some 11, _, _, _, _, _⟩) (v := ?_) rfl (by kernel_rfl) (by kernel_rfl) (by kernel_rfl) (fun _ _ _ h => h) (Or.inl ⟨by rfl, ?_⟩) hHeld ?_
  rotate_left
  · intro w hSw
    go_simp
    with_reducible rfl
  try go_frame
  refine wpAnyH_take (i := 7) (oi := ⟨some 12, _, _, _, _, _⟩) (v := ?_) rfl (by kernel_rfl) (by kernel_rfl) (by kernel_rfl) (fun _ _ _ h => h) (Or.inl ⟨by rfl, ?_⟩) hHeld ?_
  rotate_left
  · intro w hSw
    go_simp
    with_reducible rfl
  try go_frame
  refine wpAnyH_take (i := 8) (oi := ⟨some 13, _, _, _, _, _⟩) (v := ?_) rfl (by kernel_rfl) (by kernel_rfl) (by kernel_rfl) (fun _ _ _ h => h) (Or.inl ⟨by rfl, ?_⟩) hHeld ?_
  rotate_left
  · intro w hSw
    go_simp
    with_reducible rfl
  try go_frame
  refine wpAnyH_take (i := 9) (oi := ⟨some 14, _, _, _, _, _⟩) (v := ?_) rfl (by kernel_rfl) (by kernel_rfl) (by kernel_rfl) (fun _ _ _ h => h) (Or.inl ⟨by rfl, ?_⟩) hHeld ?_
  rotate_left
  · intro w hSw
    go_simp
    with_reducible rfl
  try go_frame
  refine wpAnyH_take (i := 10) (oi := ⟨some 15, _, _, _, _, _⟩) (v := ?_) rfl (by kernel_rfl) (by kernel_rfl) (by kernel_rfl) (fun _ _ _ h => h) (Or.inl ⟨by rfl, ?_⟩) hHeld ?_
  rotate_left
  · intro w hSw
    go_simp
    with_reducible rfl
  try go_frame
  refine wpAnyH_ready (rs := [1]) (by kernel_rfl) (by simp) ?_
  refine AllReadyH.cons (o := ⟨some 6, _, _, _, _, _⟩) rfl (fun K hK => ?_) AllReadyH.nil
  go_simp
  have hb : Below w0d.heap.size w0d (w0d.alloc (.cells #[.int .u8 110, .int .u8 111, .int .u8 100, .int .u8 101] 5)) := Joins.below_alloc1 _ _
  have hg_lf := hC.size
  obtain ⟨g_lf, Hg_lf⟩ : ∃ g, Hid (g = w0d.heap.size) := ⟨_, rfl⟩
  have R_lf : Hid (Row (w0d.alloc (.cells #[.int .u8 110, .int .u8 111, .int .u8 100, .int .u8 101] 5)) w0d.heap.size 5 (nodeW.map V8)) := Row.new w0d 5 (nodeW.map V8)
  replace hC := hC.trans (hb.mono hC.size)
  refine hK.out _ _ (HKeep.out _ hC) (fun hHeld => ?_)
  clear hK K hb
  generalize (w0d.alloc (.cells #[.int .u8 110, .int .u8 111, .int .u8 100, .int .u8 101] 5)) = w0d_lf at *
  rw [← Hg_lf.out] at hg_lf ⊢
  rw [← Hg_lf.out] at R_lf
  clear Hg_lf
  try go_frame
  refine wpAnyH_ready (rs := [2]) (by kernel_rfl) (by simp) ?_
  refine AllReadyH.cons (o := ⟨some 7, _, _, _, _, _⟩) rfl (fun K hK => ?_) AllReadyH.nil
  have hcv := run_mark g_lf 4 4 nodeW w0d_lf R_lf.out
  go_simp
  clear hcv
  have hb0 := hC.trans (mark_below w0d_lf _ g_lf (List.length nodeW) hg_lf)
  have F_lf : Hid (Arg (w0d_lf.freeze ⟨g_lf, List.length nodeW, none⟩ 1) (.slice (some ⟨g_lf, 0, none⟩) 4 4) (nodeW)) := mark_arg w0d_lf g_lf _ R_lf.out 4 rfl
  clear R_lf
  replace hC := hb0
  refine hK.out _ _ (HKeep.out _ hC) (fun hHeld => ?_)
  clear hK K hb0
  generalize (w0d_lf.freeze ⟨g_lf, List.length nodeW, none⟩ 1) = w0d_lf_mk at *
  try go_frame
  refine wpAnyH_ready (rs := [11]) (by kernel_rfl) (by simp) ?_
  refine AllReadyH.cons (o := ⟨some 16, _, _, _, _, _⟩) rfl (fun K hK => ?_) AllReadyH.nil
  go_simp
  have hb : Below w0d_lf_mk.heap.size w0d_lf_mk (w0d_lf_mk.alloc (.cells #[.slice (some ⟨g_lf, 0, none⟩) 4 4, .slice (some ⟨w.heap.size, 0, none⟩) 32 32, .slice (some ⟨w.heap.size, 32, none⟩) 32 32, .slice (some ⟨w.heap.size, 64, none⟩) 32 32, .slice (some ⟨w.heap.size, 96, none⟩) 32 32] 22)) := Joins.below_alloc1 _ _
  have hg_ps := hC.size
  obtain ⟨g_ps, Hg_ps⟩ : ∃ g, Hid (g = w0d_lf_mk.heap.size) := ⟨_, rfl⟩
  have F_ps : Hid (Hm.Parts (w0d_lf_mk.alloc (.cells #[.slice (some ⟨g_lf, 0, none⟩) 4 4, .slice (some ⟨w.heap.size, 0, none⟩) 32 32, .slice (some ⟨w.heap.size, 32, none⟩) 32 32, .slice (some ⟨w.heap.size, 64, none⟩) 32 32, .slice (some ⟨w.heap.size, 96, none⟩) 32 32] 22)) (.slice (some ⟨w0d_lf_mk.heap.size, 0, none⟩) 5 5) [nodeW, t0, t1, t2, t3]) := parts5 F_lf.out (HK0.out.below hC) (HK1.out.below hC) (HK2.out.below hC) (HK3.out.below hC)
  replace hC := hC.trans (hb.mono hC.size)
  replace F_lf := Lib.hid (F_lf.out.below hb)
  refine hK.out _ _ (HKeep.out _ hC) (fun hHeld => ?_)
  clear hK K hb
  generalize (w0d_lf_mk.alloc (.cells #[.slice (some ⟨g_lf, 0, none⟩) 4 4, .slice (some ⟨w.heap.size, 0, none⟩) 32 32, .slice (some ⟨w.heap.size, 32, none⟩) 32 32, .slice (some ⟨w.heap.size, 64, none⟩) 32 32, .slice (some ⟨w.heap.size, 96, none⟩) 32 32] 22)) = w0d_lf_mk_ps at *
  rw [← Hg_ps.out] at hg_ps ⊢
  rw [← Hg_ps.out] at F_ps
  clear Hg_ps
  try go_frame
  refine wpAnyH_ready (rs := [12]) (by kernel_rfl) (by simp) ?_
  refine AllReadyH.cons (o := ⟨some 17, _, _, _, _, _⟩) rfl (fun K hK => ?_) AllReadyH.nil
  go_simp
  go_at_call 47
  refine (Hm.Join_any _ key (by omega) _ _ _ _ HSm.out w0d_lf_mk_ps (HT.out.below hC) (HA.out.below hC) F_ps.out).mono ?_
  rintro e w0d_lf_mk_ps_jn ⟨rs, Hrs, rfl, hb⟩
  replace hC := hC.trans (hb.mono hC.size)
  replace F_lf := Lib.hid (F_lf.out.below hb)
  replace F_ps := Lib.hid (F_ps.out.below hb)
  refine hK.out _ _ (HKeep.out _ hC) (fun hHeld => ?_)
  clear hK K hb 
  have Hsz : Hid (rs.toArray.size = 32) := Hrs.out.size
  have Hone : Hid (rs.toArray.all (·.oneCell') = true) := Hrs.out.one
  clear F_lf F_ps
  try go_frame
  refine wpAnyH_ready (rs := [13]) (by kernel_rfl) (by simp) ?_
  refine AllReadyH.cons (o := ⟨none, _, _, _, _, _⟩) rfl (fun K hK => ?_) AllReadyH.nil
  rw [if_pos (by rfl)]
  refine Go.wp_store_row 34 (.tmp 4) (.tmp 17) rfl (w.heap.size + 1) rs.toArray rfl rfl 34 _ (HX_Z.out.below hC HX_Z.out.lt) (by rw [Hsz.out]; kernel_rfl) (by rw [Hsz.out]; rfl) Hone.out ?_
  have HF := Lib.hid ((HX_Z.out.below hC HX_Z.out.lt).whole rs)
  have HBF := Lib.hid (below_setRow' (HC.out.trans (hC.mono HC.out.size)) (k := w.heap.size + 1) (by omega) rs.toArray)
  refine hK.out _ _ trivial (fun hHeld => ?_)
  clear hK K
  generalize (w0d_lf_mk_ps_jn.setRow (w.heap.size + 1) rs.toArray) = w0d_lf_mk_ps_jn_st at *
  try go_frame
  refine wpAnyH_done (by kernel_rfl) ?_ _
  clear hC HKeep hHeld
  have hinfo : (Tryd.prog.info? 34).map (·.size) = some rs.toArray.size := by rw [Hsz.out]; kernel_rfl
  go_wp2
  refine bodyPost_ret (v := .agg rs.toArray) (results_cell_row rfl _ _ (w.heap.size + 1) 34 rs.toArray (0, 0) _ rfl HF.out Tryd.underlying34 rfl hinfo) rfl ?_
  exact ⟨⟨rs, Hrs, rfl⟩, HBF.out⟩
end Go.Proofs.YtepbnimheedodaaDoor
