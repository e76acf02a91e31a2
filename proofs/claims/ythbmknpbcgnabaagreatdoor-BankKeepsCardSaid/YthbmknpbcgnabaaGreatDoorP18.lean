/-
  OF THE WALK: SE.
-/
import Derived.Test.YthbmknpbcgnabaaGreatDoorP17
namespace Go.Proofs.YthbmknpbcgnabaaGreatDoor
open Go.RowKit Aes Ctr Sl
theorem results_trt {P : Program} {fn : Func} {t p u : Tmp} {ty : TypeId} (h : fn.results = #[.tmp t, .cell p ty, .tmp u]) (tmps : Array Value) (w : World) (g : Nat) (T : TypeId) (cs : Array Value) (fr : Nat × Nat) (d : TypeDesc)
    (hp : tmps.getD p undef = .pointer (some ⟨g, 0, none⟩)) (hg : w.heap[g]? = some (.cells cs T fr))
    (hu : P.underlying ty = some d) (hd : (match d with | .struct _ | .array _ _ => true | _ => false) = true) (hi : (P.info? ty).map (·.size) = some cs.size) :
    (results fn tmps).run P w = .ok (.tuple #[tmps.getD t undef, .agg cs, tmps.getD u undef]) w := by
  have hp' : tmps[p]?.getD undef = .pointer (some ⟨g, 0, none⟩) := by rw [← hp]; simp
  simp [results, h, hp', asAddr, run_loadVar_row w g T ty cs fr d hg hu hd hi]
theorem Arg.off {w : World} {g o n c k : Nat} {bs : List UInt8} (h : Arg w (.slice (some ⟨g, o, none⟩) n c) bs) (hk : g ≠ k) (cs : Array Value) : Arg (w.setRow k cs) (.slice (some ⟨g, o, none⟩) n c) bs := by
  rcases h with ⟨A, e, hn⟩ | ⟨b, o', c', e, hb, hc, hs⟩
  · exact .inl ⟨_, e, hn⟩
  · refine .inr ⟨b, o', c', e, by simpa using hb, hc, ?_⟩
    injection e with e1 _ _
    injection e1 with e1
    injection e1 with e1 _ _
    exact hs.same (setRow_other w k b cs (by omega))
set_option maxRecDepth 100000 in
set_option maxHeartbeats 1000000 in
theorem SClose_ok (ek mk : List UInt8) (ks : List Value) (hk : KeysV ek mk ks) (d : Int) (v : Nat) (hv : v < 2 ^ 64) (p : List UInt8) (hp : p.length = 64) (x : Value) (w : World) (hT : Hm.Tab w) (h : Arg w x p) :
    Calls Tryz.prog 90 #[.agg ks.toArray, .int .i64 d, .int .u64 v, x] w fun e w' => ∃ g cap rs, e = .returned (.tuple #[.slice (some ⟨g, 0, none⟩) 72 cap, .agg (List.toArray rs), .int .i64 0]) ∧ 72 ≤ cap ∧ w.heap.size ≤ g ∧ Arg w' (.slice (some ⟨g, 0, none⟩) 72 cap) (rw_ ek (nm d) v p) ∧ Hid (Vec 32 (tg mk (nm d) (rw_ ek (nm d) v p)) rs) ∧ Below w.heap.size w w' := by
  obtain ⟨A, cap0, rfl⟩ := h.form
  have HK := Lib.hid hk
  have Hzk : Hid (ks.toArray.size = 48) := hk.size
  have hz := Hm.zeroTag
  obtain ⟨w0, hw0⟩ : ∃ w0, w0 = (w.alloc (.cells ks.toArray 29)).alloc (.cells Hm.Z32.toArray 27) := ⟨_, rfl⟩
  have HBL : Hid (Below w.heap.size w w0) := by rw [hw0]; exact ((Below.refl _ _).alloc (Nat.le_refl _) _).alloc (by simp) _
  have HBX : Hid (Row w0 w.heap.size 29 ks) := by rw [hw0]; exact (Row.new w 29 ks).alloc _
  have HZ0 : Hid (Row w0 (w.heap.size + 1) 27 Hm.Z32) := by rw [hw0]; exact Row.newAt 27 Hm.Z32 (by simp)
  have HSZ : Hid (w0.heap.size = w.heap.size + 1 + 1) := by show _ = _; rw [hw0]; simp
  have HP := Lib.hid hp
  rw [hp] at h ⊢
  have HT : Hid (Hm.Tab w0) := hT.below HBL.out
  have HA : Hid (Arg w0 (.slice A 64 cap0) p) := h.below HBL.out
  have HKeep : Hid (∀ W, Below w0.heap.size w0 W → W.rangeAt w.heap.size 0 ks) := fun W hW => range_row (HBX.out.below hW HBX.out.lt)
  have hi1 : (Tryz.prog.info? 29).map (·.size) = some ks.length := by rw [HK.out.vec.len]; kernel_rfl
  have HLap : Hid (((big 8 v).map V8).length + ((code ek (nnc (nm d) v) p).map V8).length ≤ 100000000) := by show _ ≤ _; rw [List.length_map, List.length_map, big_length, code_length, hp]; omega
  clear h hk hp hT
  go_enter Tryz.func90, Tryz.ntmps90
  go_wp2
  rw [← hw0]
  clear hw0 hz
  have hC : Below w0.heap.size w0 w0.drew := below_drewN (Below.refl _ _) 1
  refine wp_region_held_drew (S := (fun W => W.rangeAt w.heap.size 0 ks)) (by kernel_rfl) (HKeep.out _ hC) (fun hHeld => ?_)
  generalize w0.drew = w0d at *
  refine wpAnyH_take (i := 0) (oi := ⟨some 16, _, _, _, _, _⟩) (v := ?_) rfl (by kernel_rfl) (by kernel_rfl) (by kernel_rfl) (fun _ _ _ h => h) (Or.inl ⟨by rfl, ?_⟩) hHeld ?_
  rotate_left
  · intro w hSw
    go_simp
    with_reducible rfl
  try go_frame
  refine wpAnyH_take (i := 2) (oi := ⟨some 18, _, _, _, _, _⟩) (v := .agg (ks).toArray) rfl (by kernel_rfl) (by kernel_rfl) (by kernel_rfl) (fun _ _ _ h => h) (yieldsIf_load_mid (by rfl) 29 (.tmp 4) rfl (w.heap.size) 0 rfl (ks) _ (fun W h => h) Tryz.underlying29 rfl hi1) hHeld ?_
  try go_frame
  refine wpAnyH_take (i := 3) (oi := ⟨some 19, _, _, _, _, _⟩) (v := ?_) rfl (by kernel_rfl) (by kernel_rfl) (by kernel_rfl) (fun _ _ _ h => h) (Or.inl ⟨by rfl, ?_⟩) hHeld ?_
  rotate_left
  · intro w hSw
    go_simp
    with_reducible rfl
  try go_frame
  refine wpAnyH_take (i := 4) (oi := ⟨some 20, _, _, _, _, _⟩) (v := ?_) rfl (by kernel_rfl) (by kernel_rfl) (by kernel_rfl) (fun _ _ _ h => h) (Or.inl ⟨by rfl, ?_⟩) hHeld ?_
  rotate_left
  · intro w hSw
    go_simp
    with_reducible rfl
  try go_frame
  refine wpAnyH_take (i := 5) (oi := ⟨some 21, _, _, _, _, _⟩) (v := ?_) rfl (by kernel_rfl) (by kernel_rfl) (by kernel_rfl) (fun _ _ _ h => h) (Or.inl ⟨by rfl, ?_⟩) hHeld ?_
  rotate_left
  · intro w hSw
    go_simp
    with_reducible rfl
  try go_frame
  refine wpAnyH_ready (rs := [1]) (by kernel_rfl) (by simp) ?_
  refine AllReadyH.cons (o := ⟨some 17, _, _, _, _, _⟩) rfl (fun K hK => ?_) AllReadyH.nil
  go_simp
  go_at_call 73
  obtain ⟨g_nm, Hg_nm⟩ : ∃ g, Hid (g = w0d.heap.size) := ⟨_, rfl⟩
  have hg_nm : w0.heap.size ≤ g_nm := by rw [Hg_nm.out]; exact hC.size
  refine (SputN_8 v hv w0d).mono ?_
  rintro e w0d_nm ⟨rfl, R_nm, hb⟩
  have O_nm : Hid (Own w0d_nm w0.heap.size 5 (.slice (some ⟨g_nm, 0, none⟩) 8 8) ((big 8 v).map V8)) := (Hg_nm.out ▸ R_nm.out : Row w0d_nm g_nm _ _).own hg_nm (by rw [List.length_map, big_length]) (by omega)
  replace hC := hC.trans (hb.mono hC.size)
  refine hK.out _ _ (HKeep.out _ hC) (fun hHeld => ?_)
  clear hK K hb 
  rw [← Hg_nm.out]
  clear Hg_nm R_nm
  try go_frame
  refine wpAnyH_ready (rs := [6]) (by kernel_rfl) (by simp) ?_
  refine AllReadyH.cons (o := ⟨some 22, _, _, _, _, _⟩) rfl (fun K hK => ?_) AllReadyH.nil
  go_simp
  go_at_call 94
  refine (Scode_any ek mk ks HK.out d v hv p _ (by rw [HP.out]; omega) w0d_nm (HA.out.below hC)).mono ?_
  rintro e w0d_nm_cd ⟨g_cd, rfl, _, R_cd, hb⟩
  have F_cd : Hid (Arg w0d_nm_cd (.slice (some ⟨g_cd, 0, none⟩) 64 64) (code ek (nnc (nm d) v) p)) := R_cd.out.arg 64 (by rw [code_length, HP.out])
  replace hC := hC.trans (hb.mono hC.size)
  replace O_nm := Lib.hid (O_nm.out.below hb (Nat.le_refl _))
  refine hK.out _ _ (HKeep.out _ hC) (fun hHeld => ?_)
  clear hK K hb 
  rw [HP.out]
  clear R_cd
  try go_frame
  refine wpAnyH_ready (rs := [7]) (by kernel_rfl) (by simp) ?_
  refine AllReadyH.cons (o := ⟨some 23, _, _, _, _, _⟩) rfl (fun K hK => ?_) AllReadyH.nil
  have hs0 := hC.size
  refine step_app rfl (.tmp 17) (.tmp 22) 22 rfl w0.heap.size 5 Tryz.underlying22 info8 rfl (by decide) _ (List.map V8 (big 8 v)) rfl O_nm.out _ (List.map V8 (code ek (nnc (nm d) v) p)) rfl (arg_from F_cd.out) (oneC8 _) HLap.out hs0 ?_
  intro v_rw w0d_nm_cd_rw hown hg _
  replace hC := below_app hC O_nm.out hg (Nat.le_refl _) hs0
  have O_rw : Hid (Own w0d_nm_cd_rw w0.heap.size 5 v_rw ((big 8 v ++ code ek (nnc (nm d) v) p).map V8)) := by show Own _ _ _ _ _; rw [List.map_append]; exact hown
  clear hown hg O_nm F_cd
  refine hK.out _ _ (HKeep.out _ hC) (fun hHeld => ?_)
  clear hK K
  try go_frame
  refine wpAnyH_take (i := 8) (oi := ⟨some 11, _, _, _, _, _⟩) (v := ?_) rfl (by kernel_rfl) (by kernel_rfl) (by kernel_rfl) (fun _ _ _ h => h) (Or.inl ⟨by rfl, ?_⟩) hHeld ?_
  rotate_left
  · intro w hSw
    go_simp
    with_reducible rfl
  try go_frame
  refine wpAnyH_done (by kernel_rfl) ?_ _
  have HL : Hid ((List.map V8 (big 8 v ++ code ek (nnc (nm d) v) p)).length = 72) := by show _ = _; rw [List.length_map, List.length_append, big_length, code_length, HP.out]
  obtain ⟨g, cap, hv1, hgB, hgl, hcap, hsee⟩ := O_rw.out.form_cap (by rw [HL.out]; omega)
  rw [HL.out] at hv1 hcap
  have HAr : Hid (Arg w0d_nm_cd_rw (.slice (some ⟨g, 0, none⟩) 72 cap) (rw_ ek (nm d) v p)) := by rw [← hv1]; exact O_rw.out.arg
  rw [HSZ.out] at hgB
  subst hv1
  have HX := Lib.hid (HBX.out.below hC HBX.out.lt)
  have HZ := Lib.hid (HZ0.out.below hC HZ0.out.lt)
  have HTW := Lib.hid (HT.out.below hC)
  have HC := Lib.hid (HBL.out.trans (hC.mono HBL.out.size))
  have hszW := hC.size
  clear HL O_rw hsee hC HBX HZ0 HT HBL HKeep hHeld HA hgl HLap
  generalize w0d_nm_cd_rw = w1 at *
  go_wp2_with (refine wpList_load_row rfl 29 (.tmp 4) rfl w.heap.size rfl 29 ks.toArray (0, 0) _ HX.out Tryz.underlying29 rfl (by rw [Hzk.out]; kernel_rfl) ?_)
  refine (STag_any ek mk ks HK.out d (rw_ ek (nm d) v p) (by rw [rw_length, HP.out]; omega) _ w1 HTW.out HAr.out).mono ?_
  rintro e w5 ⟨rs, Hrs, rfl, hb5⟩
  have HZ5 := Lib.hid (HZ.out.below hb5 HZ.out.lt)
  have HAr5 := Lib.hid (HAr.out.below hb5)
  have HC5 := Lib.hid (HC.out.trans (hb5.mono HC.out.size))
  have Hsz : Hid (rs.toArray.size = 32) := Hrs.out.size
  have Hone : Hid (rs.toArray.all (·.oneCell') = true) := Hrs.out.one
  clear hb5 HX HZ HTW HAr HC
  go_wp2_with (refine wpList_store_row rfl 27 (.tmp 9) (.tmp 28) rfl (w.heap.size + 1) rs.toArray rfl rfl 27 _ HZ5.out (by rw [Hsz.out]; kernel_rfl) (by rw [Hsz.out]; rfl) Hone.out ?_)
  have hlast := HZ5.out.whole rs
  have hinfo : (Tryz.prog.info? 27).map (·.size) = some rs.toArray.size := by rw [Hsz.out]; kernel_rfl
  refine bodyPost_ret (v := .tuple #[.slice (some ⟨g, 0, none⟩) 72 cap, .agg rs.toArray, .int .i64 0]) (results_trt (t := 8) (p := 9) (u := 10) rfl _ _ (w.heap.size + 1) 27 rs.toArray (0, 0) _ rfl hlast Tryz.underlying27 rfl hinfo) rfl ?_
  exact ⟨g, cap, rs, rfl, hcap, by omega, HAr5.out.off (by omega) _, Hrs, below_setRow' HC5.out (by omega) _⟩
end Go.Proofs.YthbmknpbcgnabaaGreatDoor
