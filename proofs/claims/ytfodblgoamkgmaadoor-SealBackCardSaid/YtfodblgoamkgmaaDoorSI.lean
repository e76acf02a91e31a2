/-
  THE WALK of the law SealBack.
-/
import Derived.Test.YtfodblgoamkgmaaDoorSH
namespace Go.Proofs.YtfodblgoamkgmaaDoor
open Go.RowKit Aes Ctr Sl

theorem SClose_rw (ks : List Value) {ek mk : List UInt8} (hk : KeysV ek mk ks) (d : Int) (v : Nat) (hv : v < 2 ^ 64) (p R : List UInt8) (hR : R = rw_ ek (nm d) v p) (hp : p.length = 64) (x : Value) (w : World) (hT : Hm.Tab w) (h : Arg w x p) :
    Calls Tryd.prog 10 #[.agg ks.toArray, .int .i64 d, .int .u64 v, x] w fun e w' => ∃ g cap rs, e = .returned (.tuple #[.slice (some ⟨g, 0, none⟩) 72 cap, .agg (List.toArray rs), .int .i64 0]) ∧ 72 ≤ cap ∧ w.heap.size ≤ g ∧ Arg w' (.slice (some ⟨g, 0, none⟩) 72 cap) R ∧ Hid (Vec 32 (tg mk (nm d) R) rs) ∧ Below w.heap.size w w' := by
  subst hR
  exact SClose_ok ek mk ks hk d v hv p hp x w hT h
theorem SOpen_rw (ks : List Value) {ek mk : List UInt8} (hk : KeysV ek mk ks) (d : Int) (v : Nat) (hv : v < 2 ^ 64) (p R : List UInt8) (hR : R = rw_ ek (nm d) v p) (hl : R.length = 72) (x : Value) (ts : List Value) (hts : Vec 32 (tg mk (nm d) R) ts) (w : World) (hT : Hm.Tab w) (h : Arg w x R) :
    Calls Tryd.prog 14 #[.agg ks.toArray, .int .i64 d, x, .agg ts.toArray] w fun e w' => ∃ g, e = .returned (.tuple #[.slice (some ⟨g, 0, none⟩) 64 64, .int .u64 v, .int .i64 0]) ∧ Hid (Row w' g 5 (p.map V8)) ∧ Below w.heap.size w w' := by
  refine (SOpen_ok ek mk ks hk d R hl x _ ts hts rfl w hT h).mono ?_
  rintro e w' ⟨g, he, _, hr, hb⟩
  have h1 : ver R = v := by rw [hR, ver_rw _ _ _ hv]
  have h2 : pl ek (nm d) R = p := by rw [hR, pl_rw _ _ _ hv]
  rw [h1] at he
  rw [h2] at hr
  exact ⟨g, he, hr, hb⟩

set_option maxRecDepth 100000 in
set_option maxHeartbeats 1000000 in
theorem SBack_any (ek mk : List UInt8) (ks : List Value) (hk : KeysV ek mk ks) (d : Int) (v : Nat) (hv : v < 2 ^ 64) (p : List UInt8) (ps : List Value) (hp : Vec 64 p ps) (w : World) (hT : Hm.Tab w) :
    Calls Tryd.prog 5 #[.agg ks.toArray, .int .i64 d, .int .u64 v, .agg ps.toArray] w fun e w' => e = .returned (.bool true) ∧ Below w.heap.size w w' := by
  have HK := Lib.hid hk
  have HPV := Lib.hid hp
  have HP : Hid (p.length = 64) := hp.2
  have Hzk : Hid (ks.toArray.size = 48) := hk.size
  have Hzp : Hid (ps.toArray.size = 64) := hp.size
  have hz := Hm.zeroTag
  obtain ⟨w0, hw0⟩ : ∃ w0, w0 = (w.alloc (.cells ks.toArray 29)).alloc (.cells ps.toArray 50) := ⟨_, rfl⟩
  have HBL : Hid (Below w.heap.size w w0) := by rw [hw0]; exact ((Below.refl _ _).alloc (Nat.le_refl _) _).alloc (by simp) _
  have HBX : Hid (Row w0 w.heap.size 29 ks) := by rw [hw0]; exact (Row.new w 29 ks).alloc _
  have HBP : Hid (Row w0 (w.heap.size + 1) 50 ps) := by rw [hw0]; exact Row.newAt 50 ps (by simp)
  have HAp : Hid (Arg w0 (.slice (some ⟨w.heap.size + 1, 0, none⟩) 64 64) p) := (HPV.out.row HBP.out).arg 64 HP.out
  have HT0 : Hid (Hm.Tab w0) := hT.below HBL.out
  have HKeep : Hid (∀ W, Below w0.heap.size w0 W → W.rangeAt w.heap.size 0 ks) := fun W hW => range_row (HBX.out.below hW HBX.out.lt)
  have hi1 : (Tryd.prog.info? 29).map (·.size) = some ks.length := by rw [HK.out.vec.len]; kernel_rfl
  obtain ⟨R, HRe⟩ : ∃ R, Hid (R = rw_ ek (nm d) v p) := ⟨_, rfl⟩
  have HRl : Hid (R.length = 72) := by show _ = _; rw [HRe.out, rw_length, HP.out]
  clear hk hp hT HBP HPV
  go_enter Tryd.func5, Tryd.ntmps5
  go_wp2
  rw [← hw0]
  clear hw0
  have hC : Below w0.heap.size w0 w0.drew := below_drewN (Below.refl _ _) 1
  refine wp_region_held_drew (S := (fun W => W.rangeAt w.heap.size 0 ks)) (by kernel_rfl) (HKeep.out _ hC) (fun hHeld => ?_)
  generalize w0.drew = w0d at *
  refine wpAnyH_take (i := 0) (oi := ⟨some 16, _, _, _, _, _⟩) (v := .agg (ks).toArray) rfl (by kernel_rfl) (by kernel_rfl) (by kernel_rfl) (fun _ _ _ h => h) (yieldsIf_load_mid (by rfl) 29 (.tmp 4) rfl (w.heap.size) 0 rfl (ks) _ (fun W h => h) Tryd.underlying29 rfl hi1) hHeld ?_
  try go_frame
  refine wpAnyH_take (i := 1) (oi := ⟨some 17, _, _, _, _, _⟩) (v := ?_) rfl (by kernel_rfl) (by kernel_rfl) (by kernel_rfl) (fun _ _ _ h => h) (Or.inl ⟨by rfl, ?_⟩) hHeld ?_
  rotate_left
  · intro w hSw
    go_simp
    with_reducible rfl
  try go_frame
  refine wpAnyH_take (i := 2) (oi := ⟨some 18, _, _, _, _, _⟩) (v := ?_) rfl (by kernel_rfl) (by kernel_rfl) (by kernel_rfl) (fun _ _ _ h => h) (Or.inl ⟨by rfl, ?_⟩) hHeld ?_
  rotate_left
  · intro w hSw
    go_simp
    with_reducible rfl
  try go_frame
  refine wpAnyH_take (i := 3) (oi := ⟨some 19, _, _, _, _, _⟩) (v := ?_) rfl (by kernel_rfl) (by kernel_rfl) (by kernel_rfl) (fun _ _ _ h => h) (Or.inl ⟨by rfl, ?_⟩) hHeld ?_
  rotate_left
  · intro w hSw
    go_simp
    with_reducible rfl
  try go_frame
  refine wpAnyH_ready (rs := [4, 9]) (by kernel_rfl) (by simp) ?_
  refine AllReadyH.cons (o := ⟨some 20, _, _, _, _, _⟩) rfl (fun K hK => ?_) ?_
  · skip
    go_simp
    go_at_call 10
    refine (SClose_rw ks HK.out d v hv p R HRe.out HP.out _ w0d (HT0.out.below hC) (HAp.out.below hC)).mono ?_
    rintro e w0d_cl ⟨g, cap, ts, rfl, hcap, hgr, HAr, Hts, hb⟩
    have F_r : Hid (Arg w0d_cl (.slice (some ⟨g, 0, none⟩) 72 cap) R) := HAr
    replace hC := hC.trans (hb.mono hC.size)
    refine hK.out _ _ (HKeep.out _ hC) (fun hHeld => ?_)
    clear hK K hb 
    have hlt : g < w0d_cl.heap.size := arg_lt F_r.out
    have Hsz : Hid (ts.toArray.size = 32) := Hts.out.size
    have Hone : Hid (ts.toArray.all (·.oneCell') = true) := Hts.out.one
    clear HAr
    try go_frame
    refine wpAnyH_take (i := 5) (oi := ⟨some 15, _, _, _, _, _⟩) (v := ?_) rfl (by kernel_rfl) (by kernel_rfl) (by kernel_rfl) (fun _ _ _ h => h) (Or.inl ⟨by rfl, ?_⟩) hHeld ?_
    rotate_left
    · intro w hSw
      go_simp
      with_reducible rfl
    try go_frame
    refine wpAnyH_take (i := 6) (oi := ⟨some 21, _, _, _, _, _⟩) (v := ?_) rfl (by kernel_rfl) (by kernel_rfl) (by kernel_rfl) (fun _ _ _ h => h) (Or.inl ⟨by rfl, ?_⟩) hHeld ?_
    rotate_left
    · intro w hSw
      go_simp
      with_reducible rfl
    try go_frame
    refine wpAnyH_take (i := 7) (oi := ⟨some 22, _, _, _, _, _⟩) (v := ?_) rfl (by kernel_rfl) (by kernel_rfl) (by kernel_rfl) (fun _ _ _ h => h) (Or.inl ⟨by rfl, ?_⟩) hHeld ?_
    rotate_left
    · intro w hSw
      go_simp
      with_reducible rfl
    try go_frame
    refine wpAnyH_take (i := 8) (oi := ⟨some 23, _, _, _, _, _⟩) (v := ?_) rfl (by kernel_rfl) (by kernel_rfl) (by kernel_rfl) (fun _ _ _ h => h) (Or.inl ⟨by rfl, ?_⟩) hHeld ?_
    rotate_left
    · intro w hSw
      go_simp
      with_reducible rfl
    try go_frame
    refine wpAnyH_ready (rs := [9]) (by kernel_rfl) (by simp) ?_
    refine AllReadyH.cons (o := ⟨some 10, _, _, _, _, _⟩) rfl (fun K hK => ?_) AllReadyH.nil
    go_simp
    have hb : Below w0d_cl.heap.size w0d_cl (w0d_cl.alloc (.cells Hm.Z32.toArray 27)) := Joins.below_alloc1 _ _
    have hg_al := hC.size
    obtain ⟨g_al, Hg_al⟩ : ∃ g, Hid (g = w0d_cl.heap.size) := ⟨_, rfl⟩
    have R_al : Hid (Row (w0d_cl.alloc (.cells Hm.Z32.toArray 27)) w0d_cl.heap.size 27 Hm.Z32) := Row.new w0d_cl 27 Hm.Z32
    have hne : Hid (g ≠ w0d_cl.heap.size) := Nat.ne_of_lt hlt
    replace hC := hC.trans (hb.mono hC.size)
    replace F_r := Lib.hid (F_r.out.below hb)
    refine hK.out _ _ (HKeep.out _ hC) (fun hHeld => ?_)
    clear hK K hb
    generalize (w0d_cl.alloc (.cells Hm.Z32.toArray 27)) = w0d_cl_al at *
    rw [← Hg_al.out] at hg_al ⊢
    rw [← Hg_al.out] at R_al
    rw [← Hg_al.out] at hne
    clear Hg_al
    try go_frame
    replace hne := hne.out
    refine wpAnyH_take (i := 10) (oi := ⟨some 9, _, _, _, _, _⟩) (v := ?_) rfl (by kernel_rfl) (by kernel_rfl) (by kernel_rfl) (fun _ _ _ h => h) (Or.inl ⟨by rfl, ?_⟩) hHeld ?_
    rotate_left
    · intro w hSw
      go_simp
      with_reducible rfl
    try go_frame
    refine wpAnyH_ready (rs := [11]) (by kernel_rfl) (by simp) ?_
    refine AllReadyH.cons (o := ⟨none, _, _, _, _, _⟩) rfl (fun K hK => ?_) AllReadyH.nil
    rw [if_pos (by rfl)]
    refine Go.wp_store_row 27 (.tmp 10) (.tmp 22) rfl g_al ts.toArray rfl rfl 27 _ R_al.out (by rw [Hsz.out]; kernel_rfl) (by rw [Hsz.out]; rfl) Hone.out ?_
    replace R_al := Lib.hid (R_al.out.whole ts)
    replace hC := below_setRow' hC (k := g_al) hg_al ts.toArray
    replace F_r := Lib.hid (F_r.out.off hne ts.toArray)
    refine hK.out _ _ (HKeep.out _ hC) (fun hHeld => ?_)
    clear hK K
    generalize (w0d_cl_al.setRow g_al ts.toArray) = w0d_cl_al_st at *
    try go_frame
    refine wpAnyH_take (i := 12) (oi := ⟨some 11, _, _, _, _, _⟩) (v := ?_) rfl (by kernel_rfl) (by kernel_rfl) (by kernel_rfl) (fun _ _ _ h => h) (Or.inl ⟨by rfl, ?_⟩) hHeld ?_
    rotate_left
    · intro w hSw
      go_simp
      with_reducible rfl
    try go_frame
    refine wpAnyH_done (by kernel_rfl) ?_ _
    have HC := Lib.hid (HBL.out.trans (hC.mono HBL.out.size))
    have HKB := Lib.hid (HBX.out.below hC HBX.out.lt)
    have HTT := Lib.hid (HT0.out.below hC)
    have HA2 := Lib.hid (HAp.out.below hC)
    clear hC HKeep hHeld HBX HT0 HAp HBL
    generalize w0d_cl_al_st = w2 at *
    go_wp2_with (first | (refine wpList_load_row rfl 29 (.tmp 4) rfl w.heap.size rfl 29 ks.toArray (0, 0) _ HKB.out Tryd.underlying29 rfl (by rw [Hzk.out]; kernel_rfl) ?_) | (refine wpList_load_row rfl 27 (.tmp 10) rfl g_al rfl 27 ts.toArray (0, 0) _ R_al.out Tryd.underlying27 rfl (by rw [Hsz.out]; kernel_rfl) ?_))
    refine (SOpen_rw ks HK.out d v hv p R HRe.out HRl.out _ ts Hts.out w2 HTT.out F_r.out).mono ?_
    rintro e w3 ⟨g3, rfl, R3, hb⟩
    replace HC := Lib.hid (HC.out.trans (hb.mono HC.out.size))
    replace HTT := Lib.hid (HTT.out.below hb)
    replace HA2 := Lib.hid (HA2.out.below hb)
    have HA3 : Hid (Arg w3 (.slice (some ⟨g3, 0, none⟩) 64 64) p) := R3.out.arg 64 HP.out
    have HKeep : Hid (∀ W, Below w3.heap.size w3 W → (convert 22 9 (.slice (some ⟨g3, 0, none⟩) 64 64)).run Tryd.prog W = .ok (.string (strB p)) W ∧ (convert 22 9 (.slice (some ⟨w.heap.size + 1, 0, none⟩) 64 64)).run Tryd.prog W = .ok (.string (strB p)) W) := fun W hW => ⟨conv_arg (HA3.out.below hW), conv_arg (HA2.out.below hW)⟩
    clear hb HKB F_r R_al R3 HA3 HA2
    go_wp2
    have hC : Below w3.heap.size w3 w3.drew := below_drewN (Below.refl _ _) 1
    refine wp_region_held_drew (S := (fun W => (convert 22 9 (.slice (some ⟨g3, 0, none⟩) 64 64)).run Tryd.prog W = .ok (.string (strB p)) W ∧ (convert 22 9 (.slice (some ⟨w.heap.size + 1, 0, none⟩) 64 64)).run Tryd.prog W = .ok (.string (strB p)) W)) (by kernel_rfl) (HKeep.out _ hC) (fun hHeld => ?_)
    generalize w3.drew = w3d at *
    refine wpAnyH_take (i := 0) (oi := ⟨some 33, _, _, _, _, _⟩) (v := ?_) rfl (by kernel_rfl) (by kernel_rfl) (by kernel_rfl) (fun _ _ _ h => h) (Or.inl ⟨by rfl, ?_⟩) hHeld ?_
    rotate_left
    · intro w hSw
      go_simp
      with_reducible rfl
    try go_frame
    refine wpAnyH_take (i := 1) (oi := ⟨some 34, _, _, _, _, _⟩) (v := ?_) rfl (by kernel_rfl) (by kernel_rfl) (by kernel_rfl) (fun _ _ _ h => h) (Or.inl ⟨by rfl, ?_⟩) hHeld ?_
    rotate_left
    · intro w hSw
      go_simp
      with_reducible rfl
    try go_frame
    refine wpAnyH_take (i := 2) (oi := ⟨some 35, _, _, _, _, _⟩) (v := ?_) rfl (by kernel_rfl) (by kernel_rfl) (by kernel_rfl) (fun _ _ _ h => h) (Or.inl ⟨by rfl, ?_⟩) hHeld ?_
    rotate_left
    · intro w hSw
      go_simp
      with_reducible rfl
    try go_frame
    refine wpAnyH_take (i := 3) (oi := ⟨some 36, _, _, _, _, _⟩) (v := ?_) rfl (by kernel_rfl) (by kernel_rfl) (by kernel_rfl) (fun _ _ _ h => h) (Or.inl ⟨by rfl, ?_⟩) hHeld ?_
    rotate_left
    · intro w hSw
      go_simp
      with_reducible rfl
    try go_frame
    refine wpAnyH_take (i := 4) (oi := ⟨some 37, _, _, _, _, _⟩) (v := ?_) rfl (by kernel_rfl) (by kernel_rfl) (by kernel_rfl) (fun _ _ _ h => h) (Or.inl ⟨by rfl, ?_⟩) hHeld ?_
    rotate_left
    · intro w hSw
      obtain ⟨hSw1, hSw2⟩ := hSw
      go_simp
      with_reducible rfl
    try go_frame
    refine wpAnyH_take (i := 5) (oi := ⟨some 38, _, _, _, _, _⟩) (v := ?_) rfl (by kernel_rfl) (by kernel_rfl) (by kernel_rfl) (fun _ _ _ h => h) (Or.inl ⟨by rfl, ?_⟩) hHeld ?_
    rotate_left
    · intro w hSw
      go_simp
      with_reducible rfl
    try go_frame
    refine wpAnyH_take (i := 6) (oi := ⟨some 39, _, _, _, _, _⟩) (v := ?_) rfl (by kernel_rfl) (by kernel_rfl) (by kernel_rfl) (fun _ _ _ h => h) (Or.inl ⟨by rfl, ?_⟩) hHeld ?_
    rotate_left
    · intro w hSw
      obtain ⟨hSw1, hSw2⟩ := hSw
      go_simp
      with_reducible rfl
    try go_frame
    refine wpAnyH_take (i := 7) (oi := ⟨some 40, _, _, _, _, _⟩) (v := ?_) rfl (by kernel_rfl) (by kernel_rfl) (by kernel_rfl) (fun _ _ _ h => h) (Or.inl ⟨by rfl, ?_⟩) hHeld ?_
    rotate_left
    · intro w hSw
      go_simp
      with_reducible rfl
    try go_frame
    refine wpAnyH_take (i := 8) (oi := ⟨some 41, _, _, _, _, _⟩) (v := ?_) rfl (by kernel_rfl) (by kernel_rfl) (by kernel_rfl) (fun _ _ _ h => h) (Or.inl ⟨by rfl, ?_⟩) hHeld ?_
    rotate_left
    · intro w hSw
      go_simp
      with_reducible rfl
    try go_frame
    refine wpAnyH_take (i := 9) (oi := ⟨some 42, _, _, _, _, _⟩) (v := ?_) rfl (by kernel_rfl) (by kernel_rfl) (by kernel_rfl) (fun _ _ _ h => h) (Or.inl ⟨by rfl, ?_⟩) hHeld ?_
    rotate_left
    · intro w hSw
      go_simp
      with_reducible rfl
    try go_frame
    refine wpAnyH_take (i := 10) (oi := ⟨some 43, _, _, _, _, _⟩) (v := ?_) rfl (by kernel_rfl) (by kernel_rfl) (by kernel_rfl) (fun _ _ _ h => h) (Or.inl ⟨by rfl, ?_⟩) hHeld ?_
    rotate_left
    · intro w hSw
      go_simp
      with_reducible rfl
    try go_frame
    refine wpAnyH_take (i := 11) (oi := ⟨some 44, _, _, _, _, _⟩) (v := ?_) rfl (by kernel_rfl) (by kernel_rfl) (by kernel_rfl) (fun _ _ _ h => h) (Or.inl ⟨by rfl, ?_⟩) hHeld ?_
    rotate_left
    · intro w hSw
      go_simp
      with_reducible rfl
    try go_frame
    refine wpAnyH_take (i := 12) (oi := ⟨some 45, _, _, _, _, _⟩) (v := ?_) rfl (by kernel_rfl) (by kernel_rfl) (by kernel_rfl) (fun _ _ _ h => h) (Or.inl ⟨by rfl, ?_⟩) hHeld ?_
    rotate_left
    · intro w hSw
      go_simp
      with_reducible rfl
    try go_frame
    refine wpAnyH_take (i := 13) (oi := ⟨some 46, _, _, _, _, _⟩) (v := ?_) rfl (by kernel_rfl) (by kernel_rfl) (by kernel_rfl) (fun _ _ _ h => h) (Or.inl ⟨by rfl, ?_⟩) hHeld ?_
    rotate_left
    · intro w hSw
      go_simp
      with_reducible rfl
    try go_frame
    refine wpAnyH_take (i := 14) (oi := ⟨some 47, _, _, _, _, _⟩) (v := ?_) rfl (by kernel_rfl) (by kernel_rfl) (by kernel_rfl) (fun _ _ _ h => h) (Or.inl ⟨by rfl, ?_⟩) hHeld ?_
    rotate_left
    · intro w hSw
      go_simp
      with_reducible rfl
    try go_frame
    refine wpAnyH_take (i := 15) (oi := ⟨some 48, _, _, _, _, _⟩) (v := ?_) rfl (by kernel_rfl) (by kernel_rfl) (by kernel_rfl) (fun _ _ _ h => h) (Or.inl ⟨by rfl, ?_⟩) hHeld ?_
    rotate_left
    · intro w hSw
      go_simp
      with_reducible rfl
    try go_frame
    refine wpAnyH_take (i := 16) (oi := ⟨some 49, _, _, _, _, _⟩) (v := ?_) rfl (by kernel_rfl) (by kernel_rfl) (by kernel_rfl) (fun _ _ _ h => h) (Or.inl ⟨by rfl, ?_⟩) hHeld ?_
    rotate_left
    · intro w hSw
      go_simp
      with_reducible rfl
    try go_frame
    refine wpAnyH_take (i := 17) (oi := ⟨some 50, _, _, _, _, _⟩) (v := ?_) rfl (by kernel_rfl) (by kernel_rfl) (by kernel_rfl) (fun _ _ _ h => h) (Or.inl ⟨by rfl, ?_⟩) hHeld ?_
    rotate_left
    · intro w hSw
      go_simp
      with_reducible rfl
    try go_frame
    refine wpAnyH_take (i := 18) (oi := ⟨some 51, _, _, _, _, _⟩) (v := ?_) rfl (by kernel_rfl) (by kernel_rfl) (by kernel_rfl) (fun _ _ _ h => h) (Or.inl ⟨by rfl, ?_⟩) hHeld ?_
    rotate_left
    · intro w hSw
      go_simp
      with_reducible rfl
    try go_frame
    refine wpAnyH_take (i := 19) (oi := ⟨some 52, _, _, _, _, _⟩) (v := ?_) rfl (by kernel_rfl) (by kernel_rfl) (by kernel_rfl) (fun _ _ _ h => h) (Or.inl ⟨by rfl, ?_⟩) hHeld ?_
    rotate_left
    · intro w hSw
      go_simp
      with_reducible rfl
    try go_frame
    refine wpAnyH_take (i := 20) (oi := ⟨some 53, _, _, _, _, _⟩) (v := ?_) rfl (by kernel_rfl) (by kernel_rfl) (by kernel_rfl) (fun _ _ _ h => h) (Or.inl ⟨by rfl, ?_⟩) hHeld ?_
    rotate_left
    · intro w hSw
      go_simp
      with_reducible rfl
    try go_frame
    refine wpAnyH_take (i := 21) (oi := ⟨some 54, _, _, _, _, _⟩) (v := ?_) rfl (by kernel_rfl) (by kernel_rfl) (by kernel_rfl) (fun _ _ _ h => h) (Or.inl ⟨by rfl, ?_⟩) hHeld ?_
    rotate_left
    · intro w hSw
      go_simp
      with_reducible rfl
    try go_frame
    refine wpAnyH_take (i := 22) (oi := ⟨some 55, _, _, _, _, _⟩) (v := ?_) rfl (by kernel_rfl) (by kernel_rfl) (by kernel_rfl) (fun _ _ _ h => h) (Or.inl ⟨by rfl, ?_⟩) hHeld ?_
    rotate_left
    · intro w hSw
      go_simp
      with_reducible rfl
    try go_frame
    refine wpAnyH_take (i := 23) (oi := ⟨some 56, _, _, _, _, _⟩) (v := ?_) rfl (by kernel_rfl) (by kernel_rfl) (by kernel_rfl) (fun _ _ _ h => h) (Or.inl ⟨by rfl, ?_⟩) hHeld ?_
    rotate_left
    · intro w hSw
      go_simp
      with_reducible rfl
    try go_frame
    refine wpAnyH_ready (rs := [24]) (by kernel_rfl) (by simp) ?_
    refine AllReadyH.cons (o := ⟨some 57, _, _, _, _, _⟩) rfl (fun K hK => ?_) AllReadyH.nil
    go_simp
    go_at_call 6
    refine (Sknows_any w3d (HTT.out.below hC)).mono ?_
    rintro e w3d_kn ⟨rfl, hb⟩
    replace hC := hC.trans (hb.mono hC.size)
    refine hK.out _ _ (HKeep.out _ hC) (fun hHeld => ?_)
    clear hK K hb 
    try go_frame
    refine wpAnyH_take (i := 25) (oi := ⟨some 58, _, _, _, _, _⟩) (v := ?_) rfl (by kernel_rfl) (by kernel_rfl) (by kernel_rfl) (fun _ _ _ h => h) (Or.inl ⟨by rfl, ?_⟩) hHeld ?_
    rotate_left
    · intro w hSw
      go_simp
      with_reducible rfl
    try go_frame
    refine wpAnyH_take (i := 26) (oi := ⟨some 8, _, _, _, _, _⟩) (v := ?_) rfl (by kernel_rfl) (by kernel_rfl) (by kernel_rfl) (fun _ _ _ h => h) (Or.inl ⟨by rfl, ?_⟩) hHeld ?_
    rotate_left
    · intro w hSw
      go_simp
      with_reducible rfl
    try go_frame
    refine wpAnyH_done (by kernel_rfl) ?_ _
    have HC2 := Lib.hid (HC.out.trans (hC.mono HC.out.size))
    clear hC HKeep hHeld
    go_wp2
    go_ret
    exact ⟨rfl, HC2.out⟩
  refine AllReadyH.cons (o := ⟨some 10, _, _, _, _, _⟩) rfl (fun K hK => ?_) ?_
  · skip
    go_simp
    have hb : Below w0d.heap.size w0d (w0d.alloc (.cells Hm.Z32.toArray 27)) := Joins.below_alloc1 _ _
    have hg_al := hC.size
    obtain ⟨g_al, Hg_al⟩ : ∃ g, Hid (g = w0d.heap.size) := ⟨_, rfl⟩
    have R_al : Hid (Row (w0d.alloc (.cells Hm.Z32.toArray 27)) w0d.heap.size 27 Hm.Z32) := Row.new w0d 27 Hm.Z32
    replace hC := hC.trans (hb.mono hC.size)
    refine hK.out _ _ (HKeep.out _ hC) (fun hHeld => ?_)
    clear hK K hb
    generalize (w0d.alloc (.cells Hm.Z32.toArray 27)) = w0d_al at *
    rw [← Hg_al.out] at hg_al ⊢
    rw [← Hg_al.out] at R_al
    clear Hg_al
    try go_frame
    refine wpAnyH_ready (rs := [4]) (by kernel_rfl) (by simp) ?_
    refine AllReadyH.cons (o := ⟨some 20, _, _, _, _, _⟩) rfl (fun K hK => ?_) AllReadyH.nil
    go_simp
    go_at_call 10
    have hal := R_al.out.lt
    refine (SClose_rw ks HK.out d v hv p R HRe.out HP.out _ w0d_al (HT0.out.below hC) (HAp.out.below hC)).mono ?_
    rintro e w0d_al_cl ⟨g, cap, ts, rfl, hcap, hgr, HAr, Hts, hb⟩
    have F_r : Hid (Arg w0d_al_cl (.slice (some ⟨g, 0, none⟩) 72 cap) R) := HAr
    replace hC := hC.trans (hb.mono hC.size)
    replace R_al := Lib.hid (R_al.out.below hb R_al.out.lt)
    refine hK.out _ _ (HKeep.out _ hC) (fun hHeld => ?_)
    clear hK K hb 
    have hne : g ≠ g_al := by omega
    clear hal
    have Hsz : Hid (ts.toArray.size = 32) := Hts.out.size
    have Hone : Hid (ts.toArray.all (·.oneCell') = true) := Hts.out.one
    clear HAr
    try go_frame
    refine wpAnyH_take (i := 5) (oi := ⟨some 15, _, _, _, _, _⟩) (v := ?_) rfl (by kernel_rfl) (by kernel_rfl) (by kernel_rfl) (fun _ _ _ h => h) (Or.inl ⟨by rfl, ?_⟩) hHeld ?_
    rotate_left
    · intro w hSw
      go_simp
      with_reducible rfl
    try go_frame
    refine wpAnyH_take (i := 6) (oi := ⟨some 21, _, _, _, _, _⟩) (v := ?_) rfl (by kernel_rfl) (by kernel_rfl) (by kernel_rfl) (fun _ _ _ h => h) (Or.inl ⟨by rfl, ?_⟩) hHeld ?_
    rotate_left
    · intro w hSw
      go_simp
      with_reducible rfl
    try go_frame
    refine wpAnyH_take (i := 7) (oi := ⟨some 22, _, _, _, _, _⟩) (v := ?_) rfl (by kernel_rfl) (by kernel_rfl) (by kernel_rfl) (fun _ _ _ h => h) (Or.inl ⟨by rfl, ?_⟩) hHeld ?_
    rotate_left
    · intro w hSw
      go_simp
      with_reducible rfl
    try go_frame
    refine wpAnyH_take (i := 8) (oi := ⟨some 23, _, _, _, _, _⟩) (v := ?_) rfl (by kernel_rfl) (by kernel_rfl) (by kernel_rfl) (fun _ _ _ h => h) (Or.inl ⟨by rfl, ?_⟩) hHeld ?_
    rotate_left
    · intro w hSw
      go_simp
      with_reducible rfl
    try go_frame
    refine wpAnyH_take (i := 10) (oi := ⟨some 9, _, _, _, _, _⟩) (v := ?_) rfl (by kernel_rfl) (by kernel_rfl) (by kernel_rfl) (fun _ _ _ h => h) (Or.inl ⟨by rfl, ?_⟩) hHeld ?_
    rotate_left
    · intro w hSw
      go_simp
      with_reducible rfl
    try go_frame
    refine wpAnyH_ready (rs := [11]) (by kernel_rfl) (by simp) ?_
    refine AllReadyH.cons (o := ⟨none, _, _, _, _, _⟩) rfl (fun K hK => ?_) AllReadyH.nil
    rw [if_pos (by rfl)]
    refine Go.wp_store_row 27 (.tmp 10) (.tmp 22) rfl g_al ts.toArray rfl rfl 27 _ R_al.out (by rw [Hsz.out]; kernel_rfl) (by rw [Hsz.out]; rfl) Hone.out ?_
    replace R_al := Lib.hid (R_al.out.whole ts)
    replace hC := below_setRow' hC (k := g_al) hg_al ts.toArray
    replace F_r := Lib.hid (F_r.out.off hne ts.toArray)
    refine hK.out _ _ (HKeep.out _ hC) (fun hHeld => ?_)
    clear hK K
    generalize (w0d_al_cl.setRow g_al ts.toArray) = w0d_al_cl_st at *
    try go_frame
    refine wpAnyH_take (i := 12) (oi := ⟨some 11, _, _, _, _, _⟩) (v := ?_) rfl (by kernel_rfl) (by kernel_rfl) (by kernel_rfl) (fun _ _ _ h => h) (Or.inl ⟨by rfl, ?_⟩) hHeld ?_
    rotate_left
    · intro w hSw
      go_simp
      with_reducible rfl
    try go_frame
    refine wpAnyH_done (by kernel_rfl) ?_ _
    have HC := Lib.hid (HBL.out.trans (hC.mono HBL.out.size))
    have HKB := Lib.hid (HBX.out.below hC HBX.out.lt)
    have HTT := Lib.hid (HT0.out.below hC)
    have HA2 := Lib.hid (HAp.out.below hC)
    clear hC HKeep hHeld HBX HT0 HAp HBL
    generalize w0d_al_cl_st = w2 at *
    go_wp2_with (first | (refine wpList_load_row rfl 29 (.tmp 4) rfl w.heap.size rfl 29 ks.toArray (0, 0) _ HKB.out Tryd.underlying29 rfl (by rw [Hzk.out]; kernel_rfl) ?_) | (refine wpList_load_row rfl 27 (.tmp 10) rfl g_al rfl 27 ts.toArray (0, 0) _ R_al.out Tryd.underlying27 rfl (by rw [Hsz.out]; kernel_rfl) ?_))
    refine (SOpen_rw ks HK.out d v hv p R HRe.out HRl.out _ ts Hts.out w2 HTT.out F_r.out).mono ?_
    rintro e w3 ⟨g3, rfl, R3, hb⟩
    replace HC := Lib.hid (HC.out.trans (hb.mono HC.out.size))
    replace HTT := Lib.hid (HTT.out.below hb)
    replace HA2 := Lib.hid (HA2.out.below hb)
    have HA3 : Hid (Arg w3 (.slice (some ⟨g3, 0, none⟩) 64 64) p) := R3.out.arg 64 HP.out
    have HKeep : Hid (∀ W, Below w3.heap.size w3 W → (convert 22 9 (.slice (some ⟨g3, 0, none⟩) 64 64)).run Tryd.prog W = .ok (.string (strB p)) W ∧ (convert 22 9 (.slice (some ⟨w.heap.size + 1, 0, none⟩) 64 64)).run Tryd.prog W = .ok (.string (strB p)) W) := fun W hW => ⟨conv_arg (HA3.out.below hW), conv_arg (HA2.out.below hW)⟩
    clear hb HKB F_r R_al R3 HA3 HA2
    go_wp2
    have hC : Below w3.heap.size w3 w3.drew := below_drewN (Below.refl _ _) 1
    refine wp_region_held_drew (S := (fun W => (convert 22 9 (.slice (some ⟨g3, 0, none⟩) 64 64)).run Tryd.prog W = .ok (.string (strB p)) W ∧ (convert 22 9 (.slice (some ⟨w.heap.size + 1, 0, none⟩) 64 64)).run Tryd.prog W = .ok (.string (strB p)) W)) (by kernel_rfl) (HKeep.out _ hC) (fun hHeld => ?_)
    generalize w3.drew = w3d at *
    refine wpAnyH_take (i := 0) (oi := ⟨some 33, _, _, _, _, _⟩) (v := ?_) rfl (by kernel_rfl) (by kernel_rfl) (by kernel_rfl) (fun _ _ _ h => h) (Or.inl ⟨by rfl, ?_⟩) hHeld ?_
    rotate_left
    · intro w hSw
      go_simp
      with_reducible rfl
    try go_frame
    refine wpAnyH_take (i := 1) (oi := ⟨some 34, _, _, _, _, _⟩) (v := ?_) rfl (by kernel_rfl) (by kernel_rfl) (by kernel_rfl) (fun _ _ _ h => h) (Or.inl ⟨by rfl, ?_⟩) hHeld ?_
    rotate_left
    · intro w hSw
      go_simp
      with_reducible rfl
    try go_frame
    refine wpAnyH_take (i := 2) (oi := ⟨some 35, _, _, _, _, _⟩) (v := ?_) rfl (by kernel_rfl) (by kernel_rfl) (by kernel_rfl) (fun _ _ _ h => h) (Or.inl ⟨by rfl, ?_⟩) hHeld ?_
    rotate_left
    · intro w hSw
      go_simp
      with_reducible rfl
    try go_frame
    refine wpAnyH_take (i := 3) (oi := ⟨some 36, _, _, _, _, _⟩) (v := ?_) rfl (by kernel_rfl) (by kernel_rfl) (by kernel_rfl) (fun _ _ _ h => h) (Or.inl ⟨by rfl, ?_⟩) hHeld ?_
    rotate_left
    · intro w hSw
      go_simp
      with_reducible rfl
    try go_frame
    refine wpAnyH_take (i := 4) (oi := ⟨some 37, _, _, _, _, _⟩) (v := ?_) rfl (by kernel_rfl) (by kernel_rfl) (by kernel_rfl) (fun _ _ _ h => h) (Or.inl ⟨by rfl, ?_⟩) hHeld ?_
    rotate_left
    · intro w hSw
      obtain ⟨hSw1, hSw2⟩ := hSw
      go_simp
      with_reducible rfl
    try go_frame
    refine wpAnyH_take (i := 5) (oi := ⟨some 38, _, _, _, _, _⟩) (v := ?_) rfl (by kernel_rfl) (by kernel_rfl) (by kernel_rfl) (fun _ _ _ h => h) (Or.inl ⟨by rfl, ?_⟩) hHeld ?_
    rotate_left
    · intro w hSw
      go_simp
      with_reducible rfl
    try go_frame
    refine wpAnyH_take (i := 6) (oi := ⟨some 39, _, _, _, _, _⟩) (v := ?_) rfl (by kernel_rfl) (by kernel_rfl) (by kernel_rfl) (fun _ _ _ h => h) (Or.inl ⟨by rfl, ?_⟩) hHeld ?_
    rotate_left
    · intro w hSw
      obtain ⟨hSw1, hSw2⟩ := hSw
      go_simp
      with_reducible rfl
    try go_frame
    refine wpAnyH_take (i := 7) (oi := ⟨some 40, _, _, _, _, _⟩) (v := ?_) rfl (by kernel_rfl) (by kernel_rfl) (by kernel_rfl) (fun _ _ _ h => h) (Or.inl ⟨by rfl, ?_⟩) hHeld ?_
    rotate_left
    · intro w hSw
      go_simp
      with_reducible rfl
    try go_frame
    refine wpAnyH_take (i := 8) (oi := ⟨some 41, _, _, _, _, _⟩) (v := ?_) rfl (by kernel_rfl) (by kernel_rfl) (by kernel_rfl) (fun _ _ _ h => h) (Or.inl ⟨by rfl, ?_⟩) hHeld ?_
    rotate_left
    · intro w hSw
      go_simp
      with_reducible rfl
    try go_frame
    refine wpAnyH_take (i := 9) (oi := ⟨some 42, _, _, _, _, _⟩) (v := ?_) rfl (by kernel_rfl) (by kernel_rfl) (by kernel_rfl) (fun _ _ _ h => h) (Or.inl ⟨by rfl, ?_⟩) hHeld ?_
    rotate_left
    · intro w hSw
      go_simp
      with_reducible rfl
    try go_frame
    refine wpAnyH_take (i := 10) (oi := ⟨some 43, _, _, _, _, _⟩) (v := ?_) rfl (by kernel_rfl) (by kernel_rfl) (by kernel_rfl) (fun _ _ _ h => h) (Or.inl ⟨by rfl, ?_⟩) hHeld ?_
    rotate_left
    · intro w hSw
      go_simp
      with_reducible rfl
    try go_frame
    refine wpAnyH_take (i := 11) (oi := ⟨some 44, _, _, _, _, _⟩) (v := ?_) rfl (by kernel_rfl) (by kernel_rfl) (by kernel_rfl) (fun _ _ _ h => h) (Or.inl ⟨by rfl, ?_⟩) hHeld ?_
    rotate_left
    · intro w hSw
      go_simp
      with_reducible rfl
    try go_frame
    refine wpAnyH_take (i := 12) (oi := ⟨some 45, _, _, _, _, _⟩) (v := ?_) rfl (by kernel_rfl) (by kernel_rfl) (by kernel_rfl) (fun _ _ _ h => h) (Or.inl ⟨by rfl, ?_⟩) hHeld ?_
    rotate_left
    · intro w hSw
      go_simp
      with_reducible rfl
    try go_frame
    refine wpAnyH_take (i := 13) (oi := ⟨some 46, _, _, _, _, _⟩) (v := ?_) rfl (by kernel_rfl) (by kernel_rfl) (by kernel_rfl) (fun _ _ _ h => h) (Or.inl ⟨by rfl, ?_⟩) hHeld ?_
    rotate_left
    · intro w hSw
      go_simp
      with_reducible rfl
    try go_frame
    refine wpAnyH_take (i := 14) (oi := ⟨some 47, _, _, _, _, _⟩) (v := ?_) rfl (by kernel_rfl) (by kernel_rfl) (by kernel_rfl) (fun _ _ _ h => h) (Or.inl ⟨by rfl, ?_⟩) hHeld ?_
    rotate_left
    · intro w hSw
      go_simp
      with_reducible rfl
    try go_frame
    refine wpAnyH_take (i := 15) (oi := ⟨some 48, _, _, _, _, _⟩) (v := ?_) rfl (by kernel_rfl) (by kernel_rfl) (by kernel_rfl) (fun _ _ _ h => h) (Or.inl ⟨by rfl, ?_⟩) hHeld ?_
    rotate_left
    · intro w hSw
      go_simp
      with_reducible rfl
    try go_frame
    refine wpAnyH_take (i := 16) (oi := ⟨some 49, _, _, _, _, _⟩) (v := ?_) rfl (by kernel_rfl) (by kernel_rfl) (by kernel_rfl) (fun _ _ _ h => h) (Or.inl ⟨by rfl, ?_⟩) hHeld ?_
    rotate_left
    · intro w hSw
      go_simp
      with_reducible rfl
    try go_frame
    refine wpAnyH_take (i := 17) (oi := ⟨some 50, _, _, _, _, _⟩) (v := ?_) rfl (by kernel_rfl) (by kernel_rfl) (by kernel_rfl) (fun _ _ _ h => h) (Or.inl ⟨by rfl, ?_⟩) hHeld ?_
    rotate_left
    · intro w hSw
      go_simp
      with_reducible rfl
    try go_frame
    refine wpAnyH_take (i := 18) (oi := ⟨some 51, _, _, _, _, _⟩) (v := ?_) rfl (by kernel_rfl) (by kernel_rfl) (by kernel_rfl) (fun _ _ _ h => h) (Or.inl ⟨by rfl, ?_⟩) hHeld ?_
    rotate_left
    · intro w hSw
      go_simp
      with_reducible rfl
    try go_frame
    refine wpAnyH_take (i := 19) (oi := ⟨some 52, _, _, _, _, _⟩) (v := ?_) rfl (by kernel_rfl) (by kernel_rfl) (by kernel_rfl) (fun _ _ _ h => h) (Or.inl ⟨by rfl, ?_⟩) hHeld ?_
    rotate_left
    · intro w hSw
      go_simp
      with_reducible rfl
    try go_frame
    refine wpAnyH_take (i := 20) (oi := ⟨some 53, _, _, _, _, _⟩) (v := ?_) rfl (by kernel_rfl) (by kernel_rfl) (by kernel_rfl) (fun _ _ _ h => h) (Or.inl ⟨by rfl, ?_⟩) hHeld ?_
    rotate_left
    · intro w hSw
      go_simp
      with_reducible rfl
    try go_frame
    refine wpAnyH_take (i := 21) (oi := ⟨some 54, _, _, _, _, _⟩) (v := ?_) rfl (by kernel_rfl) (by kernel_rfl) (by kernel_rfl) (fun _ _ _ h => h) (Or.inl ⟨by rfl, ?_⟩) hHeld ?_
    rotate_left
    · intro w hSw
      go_simp
      with_reducible rfl
    try go_frame
    refine wpAnyH_take (i := 22) (oi := ⟨some 55, _, _, _, _, _⟩) (v := ?_) rfl (by kernel_rfl) (by kernel_rfl) (by kernel_rfl) (fun _ _ _ h => h) (Or.inl ⟨by rfl, ?_⟩) hHeld ?_
    rotate_left
    · intro w hSw
      go_simp
      with_reducible rfl
    try go_frame
    refine wpAnyH_take (i := 23) (oi := ⟨some 56, _, _, _, _, _⟩) (v := ?_) rfl (by kernel_rfl) (by kernel_rfl) (by kernel_rfl) (fun _ _ _ h => h) (Or.inl ⟨by rfl, ?_⟩) hHeld ?_
    rotate_left
    · intro w hSw
      go_simp
      with_reducible rfl
    try go_frame
    refine wpAnyH_ready (rs := [24]) (by kernel_rfl) (by simp) ?_
    refine AllReadyH.cons (o := ⟨some 57, _, _, _, _, _⟩) rfl (fun K hK => ?_) AllReadyH.nil
    go_simp
    go_at_call 6
    refine (Sknows_any w3d (HTT.out.below hC)).mono ?_
    rintro e w3d_kn ⟨rfl, hb⟩
    replace hC := hC.trans (hb.mono hC.size)
    refine hK.out _ _ (HKeep.out _ hC) (fun hHeld => ?_)
    clear hK K hb 
    try go_frame
    refine wpAnyH_take (i := 25) (oi := ⟨some 58, _, _, _, _, _⟩) (v := ?_) rfl (by kernel_rfl) (by kernel_rfl) (by kernel_rfl) (fun _ _ _ h => h) (Or.inl ⟨by rfl, ?_⟩) hHeld ?_
    rotate_left
    · intro w hSw
      go_simp
      with_reducible rfl
    try go_frame
    refine wpAnyH_take (i := 26) (oi := ⟨some 8, _, _, _, _, _⟩) (v := ?_) rfl (by kernel_rfl) (by kernel_rfl) (by kernel_rfl) (fun _ _ _ h => h) (Or.inl ⟨by rfl, ?_⟩) hHeld ?_
    rotate_left
    · intro w hSw
      go_simp
      with_reducible rfl
    try go_frame
    refine wpAnyH_done (by kernel_rfl) ?_ _
    have HC2 := Lib.hid (HC.out.trans (hC.mono HC.out.size))
    clear hC HKeep hHeld
    go_wp2
    go_ret
    exact ⟨rfl, HC2.out⟩
  exact AllReadyH.nil
end Go.Proofs.YtfodblgoamkgmaaDoor
