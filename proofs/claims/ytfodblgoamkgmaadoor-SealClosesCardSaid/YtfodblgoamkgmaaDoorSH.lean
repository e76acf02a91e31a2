/-
  THE WALK of knows (the example of the laws of layer 7).
-/
import Derived.Test.YtfodblgoamkgmaaDoorSG
import Derived.Test.YtfodblgoamkgmaaDoorSX
namespace Go.Proofs.YtfodblgoamkgmaaDoor
open Go.RowKit Aes Ctr Sl

theorem SClose_35 (ks : List Value) {ek mk : List UInt8} (hk : KeysV ek mk ks) (p R : List UInt8) (hR : R = rw_ ek (nm 3) 5 p) (hp : p.length = 64) (x : Value) (w : World) (hT : Hm.Tab w) (h : Arg w x p) :
    Calls Tryd.prog 10 #[.agg ks.toArray, .int .i64 3, .int .u64 5, x] w fun e w' => ∃ g cap rs, e = .returned (.tuple #[.slice (some ⟨g, 0, none⟩) 72 cap, .agg (List.toArray rs), .int .i64 0]) ∧ 72 ≤ cap ∧ w.heap.size ≤ g ∧ Arg w' (.slice (some ⟨g, 0, none⟩) 72 cap) R ∧ Hid (Vec 32 (tg mk (nm 3) R) rs) ∧ Below w.heap.size w w' := by
  subst hR
  exact SClose_ok ek mk ks hk 3 5 (by decide) p hp x w hT h
theorem SClose_35no (ks : List Value) {ek mk : List UInt8} (hk : KeysV ek mk ks) (w : World) :
    Calls Tryd.prog 10 #[.agg ks.toArray, .int .i64 3, .int .u64 5, .slice none 0 0] w fun e w' => e = .returned (.tuple #[.slice none 0 0, .agg Hm.Z32.toArray, .int .i64 1]) ∧ Below w.heap.size w w' :=
  SClose_bad ek mk ks hk 3 5 [] (by decide) _ w (.inl ⟨none, rfl, rfl⟩)
theorem SOpen_35 (ks : List Value) {ek mk : List UInt8} (hk : KeysV ek mk ks) (R : List UInt8) {p : List UInt8} (hR : R = rw_ ek (nm 3) 5 p) (hl : R.length = 72) (x : Value) (ts : List Value) (hts : Vec 32 (tg mk (nm 3) R) ts) (w : World) (hT : Hm.Tab w) (h : Arg w x R) :
    Calls Tryd.prog 14 #[.agg ks.toArray, .int .i64 3, x, .agg ts.toArray] w fun e w' => ∃ g, e = .returned (.tuple #[.slice (some ⟨g, 0, none⟩) 64 64, .int .u64 5, .int .i64 0]) ∧ Below w.heap.size w w' := by
  refine (SOpen_ok ek mk ks hk 3 R hl x _ ts hts rfl w hT h).mono ?_
  rintro e w' ⟨g, he, _, _, hb⟩
  have hv : ver R = 5 := by rw [hR, ver_rw _ _ _ (by decide)]
  rw [hv] at he
  exact ⟨g, he, hb⟩
theorem SOpen_35no (ks : List Value) {ek mk : List UInt8} (hk : KeysV ek mk ks) (R : List UInt8) (hl : R.length = 72) (hne : tg mk (nm 3) R ≠ List.replicate 32 0) (x : Value) (w : World) (hT : Hm.Tab w) (h : Arg w x R) :
    Calls Tryd.prog 14 #[.agg ks.toArray, .int .i64 3, x, .agg Hm.Z32.toArray] w fun e w' => e = .returned (.tuple #[.slice none 0 0, .int .u64 0, .int .i64 10]) ∧ Below w.heap.size w w' := by
  refine (SOpen_diff ek mk ks hk 3 R hl x (List.replicate 32 0) Hm.Z32 ⟨by rfl, by rfl⟩ hne w hT h)
theorem arg_lt {w : World} {g o n c : Nat} {bs : List UInt8} (h : Arg w (.slice (some ⟨g, o, none⟩) (n + 1) c) bs) : g < w.heap.size := by
  rcases h with ⟨A, e, _⟩ | ⟨b, o', c', e, hb, _, _⟩
  · injection e with _ e2 _; omega
  · injection e with e1 _ _
    injection e1 with e1
    injection e1 with e1 _ _
    omega
theorem cell_seven {w : World} {g c : Nat} {bs : List UInt8} (h : Arg w (.slice (some ⟨g, 0, none⟩) 72 c) bs) (hl : bs.length = 72) (h7 : bs.getD 7 0 = 5) : w.cell? ⟨g, 7, none⟩ = some (.int .u8 5) := by
  rcases h with ⟨A, e, _⟩ | ⟨b, o', c', e, hb, _, hs⟩
  · injection e with _ e2 _; omega
  · injection e with e1 _ _
    injection e1 with e1
    injection e1 with e1 e2 _
    subst e1 e2
    have := at8 hs 7 (by omega)
    rw [h7] at this
    exact this
theorem rw_seven (ek : List UInt8) (b : Nat) (p : List UInt8) : (rw_ ek b 5 p).getD 7 0 = 5 := by
  rw [rw_, List.getD_eq_getElem?_getD, List.getElem?_append_left (by rw [big_length]; omega)]
  rfl
theorem tag_known : tg (macK secretW) (nm 3) (rw_ (encK secretW) (nm 3) 5 (List.replicate 64 0)) ≠ List.replicate 32 0 := by
  intro h
  have h1 := known_head
  rw [show (3 : Nat) = nm 3 from rfl, h] at h1
  exact absurd h1 (by decide)

set_option maxRecDepth 100000 in
set_option maxHeartbeats 1000000 in
theorem Sknows_any (w : World) (hT : Hm.Tab w) : Calls Tryd.prog 6 #[] w fun e w' => e = .returned (.bool true) ∧ Below w.heap.size w w' := by
  have hz := Hm.zeroTag
  have hzk := zeroSk
  have hc1 := Joins.run_convert_bytes_const_at (P := Tryd.prog) w 22 5 #[.int .u8 115, .int .u8 101, .int .u8 99, .int .u8 114, .int .u8 101, .int .u8 116] 6 6 w.heap.size rfl Tryd.underlying22 Tryd.underlying5
  obtain ⟨w0, hw0⟩ : ∃ w0, w0 = w.alloc (.cells #[.int .u8 115, .int .u8 101, .int .u8 99, .int .u8 114, .int .u8 101, .int .u8 116] 5 (6, 7)) := ⟨_, rfl⟩
  have HB0 : Hid (Below w.heap.size w w0) := by rw [hw0]; exact (Below.refl _ _).alloc (Nat.le_refl _) _
  have HA0 : Hid (Arg w0 (.slice (some ⟨w.heap.size, 0, none⟩) 6 6) secretW) := by
    refine .inr ⟨w.heap.size, 0, 6, rfl, by rw [hw0]; simp, by decide, fun j u hu => ?_⟩
    rw [hw0, Nat.zero_add]
    refine (Joins.cell_alloc_mark_at w _ _ _ _ j rfl).trans ?_
    rw [List.getElem?_toArray]
    exact hu
  have HT0 : Hid (Hm.Tab w0) := hT.below HB0.out
  clear hT
  go_enter Tryd.func6, Tryd.ntmps6
  go_wp2_with fail
  rw [← hw0]
  refine (SDerive_any secretW (by decide) _ w0 HT0.out HA0.out).mono ?_
  rintro e w9 ⟨ks, HK, rfl, hb9⟩
  have Hzk : Hid (ks.toArray.size = 48) := HK.out.size
  have Hok : Hid (ks.toArray.all (·.oneCell') = true) := HK.out.vec.one
  have HB9 := Lib.hid (HB0.out.trans (hb9.mono HB0.out.size))
  have HT9 := Lib.hid (HT0.out.below hb9)
  clear hc1 hw0 HA0 HB0 HT0 hb9
  go_wp2_with (refine wpList_store_row rfl 29 (.tmp 1) (.tmp 16) rfl w9.heap.size ks.toArray rfl rfl 29 _ (Row.new w9 _ Z48) (by rw [Hzk.out]; kernel_rfl) (by rw [Hzk.out]; rfl) Hok.out ?_)
  have HKB1 : Hid (Row ((w9.alloc (.cells Z48.toArray 29)).setRow w9.heap.size ks.toArray) w9.heap.size 29 ks) := (Row.new w9 29 Z48).whole ks
  have hb91 : Below w9.heap.size w9 ((w9.alloc (.cells Z48.toArray 29)).setRow w9.heap.size ks.toArray) := below_setRow' ((Below.refl _ _).alloc (Nat.le_refl _) _) (Nat.le_refl _) _
  have HB1 := Lib.hid (HB9.out.trans (hb91.mono HB9.out.size))
  have HT1 := Lib.hid (HT9.out.below hb91)
  clear hb91 HT9 hzk
  obtain ⟨KB, hKB⟩ : ∃ KB, KB = w9.heap.size := ⟨_, rfl⟩
  rw [← hKB] at HKB1 HB1 HT1 ⊢
  clear hKB
  generalize (w9.alloc (.cells Z48.toArray 29)).setRow KB ks.toArray = w1 at *
  obtain ⟨zs, HZs⟩ : ∃ zs, Hid (zs = (List.replicate 64 (0 : UInt8)).map V8) := ⟨_, rfl⟩
  have hmk : ∀ W, (Instr.makeSlice 22 (.int .i64 64) (.int .i64 64)).run Tryd.prog W = .ok (.slice (some ⟨W.heap.size, 0, none⟩) 64 64) (W.alloc (.cells zs.toArray 5)) := fun W => by rw [HZs.out]; exact made_n 64 (by omega) W
  have HKeep : Hid (∀ W, Below w1.heap.size w1 W → W.rangeAt KB 0 ks) := fun W hW => range_row (HKB1.out.below hW HKB1.out.lt)
  have hi1 : (Tryd.prog.info? 29).map (·.size) = some ks.length := by rw [HK.out.vec.len]; kernel_rfl
  obtain ⟨R, HRe⟩ : ∃ R, Hid (R = rw_ (encK secretW) (nm 3) 5 (List.replicate 64 0)) := ⟨_, rfl⟩
  have HRl : Hid (R.length = 72) := by show _ = _; rw [HRe.out, rw_length, List.length_replicate]
  have HR5 : Hid (R.getD 7 0 = 5) := by show _ = _; rw [HRe.out, rw_seven]
  have HTg : Hid (tg (macK secretW) (nm 3) R ≠ List.replicate 32 0) := by show _ ≠ _; rw [HRe.out]; exact tag_known
  have Hone32 : Hid (Hm.Z32.toArray.all (·.oneCell') = true) := by show _ = _; kernel_rfl
  have hC : Below w1.heap.size w1 w1.drew := below_drewN (Below.refl _ _) 1
  refine wp_region_held_drew (S := (fun W => W.rangeAt KB 0 ks)) (by kernel_rfl) (HKeep.out _ hC) (fun hHeld => ?_)
  generalize w1.drew = w1d at *
  refine wpAnyH_take (i := 0) (oi := ⟨some 18, _, _, _, _, _⟩) (v := .agg (ks).toArray) rfl (by kernel_rfl) (by kernel_rfl) (by kernel_rfl) (fun _ _ _ h => h) (yieldsIf_load_mid (by rfl) 29 (.tmp 1) rfl (KB) 0 rfl (ks) _ (fun W h => h) Tryd.underlying29 rfl hi1) hHeld ?_
  try go_frame
  refine wpAnyH_ready (rs := [1, 7]) (by kernel_rfl) (by simp) ?_
  refine AllReadyH.cons (o := ⟨some 19, _, _, _, _, _⟩) rfl (fun K hK => ?_) ?_
  · skip
    go_simp
    have hb : Below w1d.heap.size w1d (w1d.alloc (.cells zs.toArray 5)) := Joins.below_alloc1 _ _
    have hg_zz := hC.size
    obtain ⟨g_zz, Hg_zz⟩ : ∃ g, Hid (g = w1d.heap.size) := ⟨_, rfl⟩
    have F_z : Hid (Arg (w1d.alloc (.cells zs.toArray 5)) (.slice (some ⟨w1d.heap.size, 0, none⟩) 64 64) (List.replicate 64 0)) := (HZs.out ▸ Row.new w1d 5 zs : Row (w1d.alloc (.cells zs.toArray 5)) w1d.heap.size 5 ((List.replicate 64 (0 : UInt8)).map V8)).arg 64 (by decide)
    replace hC := hC.trans (hb.mono hC.size)
    refine hK.out _ _ (HKeep.out _ hC) (fun hHeld => ?_)
    clear hK K hb
    generalize (w1d.alloc (.cells zs.toArray 5)) = w1d_zz at *
    rw [← Hg_zz.out] at hg_zz ⊢
    rw [← Hg_zz.out] at F_z
    clear Hg_zz
    try go_frame
    refine wpAnyH_ready (rs := [2, 7]) (by kernel_rfl) (by simp) ?_
    refine AllReadyH.cons (o := ⟨some 20, _, _, _, _, _⟩) rfl (fun K hK => ?_) ?_
    · skip
      go_simp
      go_at_call 10
      refine (SClose_35 ks HK.out (List.replicate 64 0) R HRe.out (by decide) _ w1d_zz (HT1.out.below hC) F_z.out).mono ?_
      rintro e w1d_zz_cl ⟨g, cap, ts, rfl, hcap, hgr, HAr, Hts, hb⟩
      have F_r : Hid (Arg w1d_zz_cl (.slice (some ⟨g, 0, none⟩) 72 cap) R) := HAr
      replace hC := hC.trans (hb.mono hC.size)
      replace F_z := Lib.hid (F_z.out.below hb)
      refine hK.out _ _ (HKeep.out _ hC) (fun hHeld => ?_)
      clear hK K hb 
      have hlt : g < w1d_zz_cl.heap.size := arg_lt F_r.out
      have Hsz : Hid (ts.toArray.size = 32) := Hts.out.size
      have Hone : Hid (ts.toArray.all (·.oneCell') = true) := Hts.out.one
      clear HAr
      try go_frame
      refine wpAnyH_take (i := 3) (oi := ⟨some 17, _, _, _, _, _⟩) (v := ?_) rfl (by kernel_rfl) (by kernel_rfl) (by kernel_rfl) (fun _ _ _ h => h) (Or.inl ⟨by rfl, ?_⟩) hHeld ?_
      rotate_left
      · intro w hSw
        go_simp
        with_reducible rfl
      try go_frame
      refine wpAnyH_take (i := 4) (oi := ⟨some 21, _, _, _, _, _⟩) (v := ?_) rfl (by kernel_rfl) (by kernel_rfl) (by kernel_rfl) (fun _ _ _ h => h) (Or.inl ⟨by rfl, ?_⟩) hHeld ?_
      rotate_left
      · intro w hSw
        go_simp
        with_reducible rfl
      try go_frame
      refine wpAnyH_take (i := 5) (oi := ⟨some 22, _, _, _, _, _⟩) (v := ?_) rfl (by kernel_rfl) (by kernel_rfl) (by kernel_rfl) (fun _ _ _ h => h) (Or.inl ⟨by rfl, ?_⟩) hHeld ?_
      rotate_left
      · intro w hSw
        go_simp
        with_reducible rfl
      try go_frame
      refine wpAnyH_take (i := 6) (oi := ⟨some 23, _, _, _, _, _⟩) (v := ?_) rfl (by kernel_rfl) (by kernel_rfl) (by kernel_rfl) (fun _ _ _ h => h) (Or.inl ⟨by rfl, ?_⟩) hHeld ?_
      rotate_left
      · intro w hSw
        go_simp
        with_reducible rfl
      try go_frame
      refine wpAnyH_ready (rs := [7]) (by kernel_rfl) (by simp) ?_
      refine AllReadyH.cons (o := ⟨some 3, _, _, _, _, _⟩) rfl (fun K hK => ?_) AllReadyH.nil
      go_simp
      have hb : Below w1d_zz_cl.heap.size w1d_zz_cl (w1d_zz_cl.alloc (.cells Hm.Z32.toArray 27)) := Joins.below_alloc1 _ _
      have hg_al := hC.size
      obtain ⟨g_al, Hg_al⟩ : ∃ g, Hid (g = w1d_zz_cl.heap.size) := ⟨_, rfl⟩
      have R_al : Hid (Row (w1d_zz_cl.alloc (.cells Hm.Z32.toArray 27)) w1d_zz_cl.heap.size 27 Hm.Z32) := Row.new w1d_zz_cl 27 Hm.Z32
      have hne : Hid (g ≠ w1d_zz_cl.heap.size) := Nat.ne_of_lt hlt
      replace hC := hC.trans (hb.mono hC.size)
      replace F_z := Lib.hid (F_z.out.below hb)
      replace F_r := Lib.hid (F_r.out.below hb)
      refine hK.out _ _ (HKeep.out _ hC) (fun hHeld => ?_)
      clear hK K hb
      generalize (w1d_zz_cl.alloc (.cells Hm.Z32.toArray 27)) = w1d_zz_cl_al at *
      rw [← Hg_al.out] at hg_al ⊢
      rw [← Hg_al.out] at R_al
      rw [← Hg_al.out] at hne
      clear Hg_al
      try go_frame
      replace hne := hne.out
      refine wpAnyH_take (i := 8) (oi := ⟨some 2, _, _, _, _, _⟩) (v := ?_) rfl (by kernel_rfl) (by kernel_rfl) (by kernel_rfl) (fun _ _ _ h => h) (Or.inl ⟨by rfl, ?_⟩) hHeld ?_
      rotate_left
      · intro w hSw
        go_simp
        with_reducible rfl
      try go_frame
      refine wpAnyH_ready (rs := [9]) (by kernel_rfl) (by simp) ?_
      refine AllReadyH.cons (o := ⟨none, _, _, _, _, _⟩) rfl (fun K hK => ?_) AllReadyH.nil
      rw [if_pos (by rfl)]
      refine Go.wp_store_row 27 (.tmp 3) (.tmp 22) rfl g_al ts.toArray rfl rfl 27 _ R_al.out (by rw [Hsz.out]; kernel_rfl) (by rw [Hsz.out]; rfl) Hone.out ?_
      replace R_al := Lib.hid (R_al.out.whole ts)
      replace hC := below_setRow' hC (k := g_al) hg_al ts.toArray
      replace F_r := Lib.hid (F_r.out.off hne ts.toArray)
      refine hK.out _ _ (HKeep.out _ hC) (fun hHeld => ?_)
      clear hK K
      generalize (w1d_zz_cl_al.setRow g_al ts.toArray) = w1d_zz_cl_al_st at *
      try go_frame
      refine wpAnyH_take (i := 10) (oi := ⟨some 4, _, _, _, _, _⟩) (v := ?_) rfl (by kernel_rfl) (by kernel_rfl) (by kernel_rfl) (fun _ _ _ h => h) (Or.inl ⟨by rfl, ?_⟩) hHeld ?_
      rotate_left
      · intro w hSw
        go_simp
        with_reducible rfl
      try go_frame
      refine wpAnyH_done (by kernel_rfl) ?_ _
      have HC := Lib.hid (HB1.out.trans (hC.mono HB1.out.size))
      have HKB := Lib.hid (HKB1.out.below hC HKB1.out.lt)
      have HTT := Lib.hid (HT1.out.below hC)
      have hgr2 := arg_lt F_r.out
      clear hC HKeep hHeld hmk F_z HKB1 HT1 HZs
      generalize w1d_zz_cl_al_st = w2 at *
      go_wp2_with (first | (refine wpList_load_row rfl 29 (.tmp 1) rfl KB rfl 29 ks.toArray (0, 0) _ HKB.out Tryd.underlying29 rfl (by rw [Hzk.out]; kernel_rfl) ?_) | (refine wpList_load_row rfl 27 (.tmp 3) rfl g_al rfl 27 ts.toArray (0, 0) _ R_al.out Tryd.underlying27 rfl (by rw [Hsz.out]; kernel_rfl) ?_))
      refine (SOpen_35 ks HK.out R HRe.out HRl.out _ ts Hts.out w2 HTT.out F_r.out).mono ?_
      rintro e w3 ⟨g3, rfl, hb⟩
      replace HC := Lib.hid (HC.out.trans (hb.mono HC.out.size))
      replace HKB := Lib.hid (HKB.out.below hb HKB.out.lt)
      replace HTT := Lib.hid (HTT.out.below hb)
      replace F_r := Lib.hid (F_r.out.below hb)
      clear hb
      go_wp2_with (refine wpList_load_row rfl 29 (.tmp 1) rfl KB rfl 29 ks.toArray (0, 0) _ HKB.out Tryd.underlying29 rfl (by rw [Hzk.out]; kernel_rfl) ?_)
      refine (SOpen_35no ks HK.out R HRl.out HTg.out _ w3 HTT.out F_r.out).mono ?_
      rintro e w4 ⟨rfl, hb⟩
      replace HC := Lib.hid (HC.out.trans (hb.mono HC.out.size))
      replace HKB := Lib.hid (HKB.out.below hb HKB.out.lt)
      replace HTT := Lib.hid (HTT.out.below hb)
      replace F_r := Lib.hid (F_r.out.below hb)
      clear hb
      go_wp2_with (refine wpList_load_row rfl 29 (.tmp 1) rfl KB rfl 29 ks.toArray (0, 0) _ HKB.out Tryd.underlying29 rfl (by rw [Hzk.out]; kernel_rfl) ?_)
      refine (SClose_35no ks HK.out w4).mono ?_
      rintro e w5 ⟨rfl, hb⟩
      replace HC := Lib.hid (HC.out.trans (hb.mono HC.out.size))
      replace F_r := Lib.hid (F_r.out.below hb)
      have hc5 := HC.out.size
      have HBF : Hid (Below w.heap.size w ((w5.alloc (.cells Hm.Z32.toArray 27)).setRow w5.heap.size Hm.Z32.toArray)) := below_setRow' (HC.out.alloc hc5 _) hc5 _
      have c7 : ((w5.alloc (.cells Hm.Z32.toArray 27)).setRow w5.heap.size Hm.Z32.toArray).cell? ⟨g, 7, none⟩ = some (.int .u8 5) := by
        have hl5 := arg_lt F_r.out
        have h1 := F_r.out.below (Joins.below_alloc1 w5 (.cells Hm.Z32.toArray 27))
        exact cell_seven (h1.off (Nat.ne_of_lt hl5) Hm.Z32.toArray) HRl.out HR5.out
      have hi32 : (Tryd.prog.info? 27).map (·.size) = some Hm.Z32.toArray.size := by kernel_rfl
      clear hb HKB HTT F_r R_al HC
      go_wp2_with (refine wpList_store_row rfl 27 (.tmp 12) (.tmp 44) rfl w5.heap.size Hm.Z32.toArray rfl rfl 27 _ (Row.new w5 _ Hm.Z32) hi32 rfl Hone32.out ?_)
      go_ret
      exact ⟨rfl, HBF.out⟩
    refine AllReadyH.cons (o := ⟨some 3, _, _, _, _, _⟩) rfl (fun K hK => ?_) ?_
    · skip
      go_simp
      have hb : Below w1d_zz.heap.size w1d_zz (w1d_zz.alloc (.cells Hm.Z32.toArray 27)) := Joins.below_alloc1 _ _
      have hg_al := hC.size
      obtain ⟨g_al, Hg_al⟩ : ∃ g, Hid (g = w1d_zz.heap.size) := ⟨_, rfl⟩
      have R_al : Hid (Row (w1d_zz.alloc (.cells Hm.Z32.toArray 27)) w1d_zz.heap.size 27 Hm.Z32) := Row.new w1d_zz 27 Hm.Z32
      replace hC := hC.trans (hb.mono hC.size)
      replace F_z := Lib.hid (F_z.out.below hb)
      refine hK.out _ _ (HKeep.out _ hC) (fun hHeld => ?_)
      clear hK K hb
      generalize (w1d_zz.alloc (.cells Hm.Z32.toArray 27)) = w1d_zz_al at *
      rw [← Hg_al.out] at hg_al ⊢
      rw [← Hg_al.out] at R_al
      clear Hg_al
      try go_frame
      refine wpAnyH_ready (rs := [2]) (by kernel_rfl) (by simp) ?_
      refine AllReadyH.cons (o := ⟨some 20, _, _, _, _, _⟩) rfl (fun K hK => ?_) AllReadyH.nil
      go_simp
      go_at_call 10
      have hal := R_al.out.lt
      refine (SClose_35 ks HK.out (List.replicate 64 0) R HRe.out (by decide) _ w1d_zz_al (HT1.out.below hC) F_z.out).mono ?_
      rintro e w1d_zz_al_cl ⟨g, cap, ts, rfl, hcap, hgr, HAr, Hts, hb⟩
      have F_r : Hid (Arg w1d_zz_al_cl (.slice (some ⟨g, 0, none⟩) 72 cap) R) := HAr
      replace hC := hC.trans (hb.mono hC.size)
      replace F_z := Lib.hid (F_z.out.below hb)
      replace R_al := Lib.hid (R_al.out.below hb R_al.out.lt)
      refine hK.out _ _ (HKeep.out _ hC) (fun hHeld => ?_)
      clear hK K hb 
      have hne : g ≠ g_al := by omega
      clear hal
      have Hsz : Hid (ts.toArray.size = 32) := Hts.out.size
      have Hone : Hid (ts.toArray.all (·.oneCell') = true) := Hts.out.one
      clear HAr
      try go_frame
      refine wpAnyH_take (i := 3) (oi := ⟨some 17, _, _, _, _, _⟩) (v := ?_) rfl (by kernel_rfl) (by kernel_rfl) (by kernel_rfl) (fun _ _ _ h => h) (Or.inl ⟨by rfl, ?_⟩) hHeld ?_
      rotate_left
      · intro w hSw
        go_simp
        with_reducible rfl
      try go_frame
      refine wpAnyH_take (i := 4) (oi := ⟨some 21, _, _, _, _, _⟩) (v := ?_) rfl (by kernel_rfl) (by kernel_rfl) (by kernel_rfl) (fun _ _ _ h => h) (Or.inl ⟨by rfl, ?_⟩) hHeld ?_
      rotate_left
      · intro w hSw
        go_simp
        with_reducible rfl
      try go_frame
      refine wpAnyH_take (i := 5) (oi := ⟨some 22, _, _, _, _, _⟩) (v := ?_) rfl (by kernel_rfl) (by kernel_rfl) (by kernel_rfl) (fun _ _ _ h => h) (Or.inl ⟨by rfl, ?_⟩) hHeld ?_
      rotate_left
      · intro w hSw
        go_simp
        with_reducible rfl
      try go_frame
      refine wpAnyH_take (i := 6) (oi := ⟨some 23, _, _, _, _, _⟩) (v := ?_) rfl (by kernel_rfl) (by kernel_rfl) (by kernel_rfl) (fun _ _ _ h => h) (Or.inl ⟨by rfl, ?_⟩) hHeld ?_
      rotate_left
      · intro w hSw
        go_simp
        with_reducible rfl
      try go_frame
      refine wpAnyH_take (i := 8) (oi := ⟨some 2, _, _, _, _, _⟩) (v := ?_) rfl (by kernel_rfl) (by kernel_rfl) (by kernel_rfl) (fun _ _ _ h => h) (Or.inl ⟨by rfl, ?_⟩) hHeld ?_
      rotate_left
      · intro w hSw
        go_simp
        with_reducible rfl
      try go_frame
      refine wpAnyH_ready (rs := [9]) (by kernel_rfl) (by simp) ?_
      refine AllReadyH.cons (o := ⟨none, _, _, _, _, _⟩) rfl (fun K hK => ?_) AllReadyH.nil
      rw [if_pos (by rfl)]
      refine Go.wp_store_row 27 (.tmp 3) (.tmp 22) rfl g_al ts.toArray rfl rfl 27 _ R_al.out (by rw [Hsz.out]; kernel_rfl) (by rw [Hsz.out]; rfl) Hone.out ?_
      replace R_al := Lib.hid (R_al.out.whole ts)
      replace hC := below_setRow' hC (k := g_al) hg_al ts.toArray
      replace F_r := Lib.hid (F_r.out.off hne ts.toArray)
      refine hK.out _ _ (HKeep.out _ hC) (fun hHeld => ?_)
      clear hK K
      generalize (w1d_zz_al_cl.setRow g_al ts.toArray) = w1d_zz_al_cl_st at *
      try go_frame
      refine wpAnyH_take (i := 10) (oi := ⟨some 4, _, _, _, _, _⟩) (v := ?_) rfl (by kernel_rfl) (by kernel_rfl) (by kernel_rfl) (fun _ _ _ h => h) (Or.inl ⟨by rfl, ?_⟩) hHeld ?_
      rotate_left
      · intro w hSw
        go_simp
        with_reducible rfl
      try go_frame
      refine wpAnyH_done (by kernel_rfl) ?_ _
      have HC := Lib.hid (HB1.out.trans (hC.mono HB1.out.size))
      have HKB := Lib.hid (HKB1.out.below hC HKB1.out.lt)
      have HTT := Lib.hid (HT1.out.below hC)
      have hgr2 := arg_lt F_r.out
      clear hC HKeep hHeld hmk F_z HKB1 HT1 HZs
      generalize w1d_zz_al_cl_st = w2 at *
      go_wp2_with (first | (refine wpList_load_row rfl 29 (.tmp 1) rfl KB rfl 29 ks.toArray (0, 0) _ HKB.out Tryd.underlying29 rfl (by rw [Hzk.out]; kernel_rfl) ?_) | (refine wpList_load_row rfl 27 (.tmp 3) rfl g_al rfl 27 ts.toArray (0, 0) _ R_al.out Tryd.underlying27 rfl (by rw [Hsz.out]; kernel_rfl) ?_))
      refine (SOpen_35 ks HK.out R HRe.out HRl.out _ ts Hts.out w2 HTT.out F_r.out).mono ?_
      rintro e w3 ⟨g3, rfl, hb⟩
      replace HC := Lib.hid (HC.out.trans (hb.mono HC.out.size))
      replace HKB := Lib.hid (HKB.out.below hb HKB.out.lt)
      replace HTT := Lib.hid (HTT.out.below hb)
      replace F_r := Lib.hid (F_r.out.below hb)
      clear hb
      go_wp2_with (refine wpList_load_row rfl 29 (.tmp 1) rfl KB rfl 29 ks.toArray (0, 0) _ HKB.out Tryd.underlying29 rfl (by rw [Hzk.out]; kernel_rfl) ?_)
      refine (SOpen_35no ks HK.out R HRl.out HTg.out _ w3 HTT.out F_r.out).mono ?_
      rintro e w4 ⟨rfl, hb⟩
      replace HC := Lib.hid (HC.out.trans (hb.mono HC.out.size))
      replace HKB := Lib.hid (HKB.out.below hb HKB.out.lt)
      replace HTT := Lib.hid (HTT.out.below hb)
      replace F_r := Lib.hid (F_r.out.below hb)
      clear hb
      go_wp2_with (refine wpList_load_row rfl 29 (.tmp 1) rfl KB rfl 29 ks.toArray (0, 0) _ HKB.out Tryd.underlying29 rfl (by rw [Hzk.out]; kernel_rfl) ?_)
      refine (SClose_35no ks HK.out w4).mono ?_
      rintro e w5 ⟨rfl, hb⟩
      replace HC := Lib.hid (HC.out.trans (hb.mono HC.out.size))
      replace F_r := Lib.hid (F_r.out.below hb)
      have hc5 := HC.out.size
      have HBF : Hid (Below w.heap.size w ((w5.alloc (.cells Hm.Z32.toArray 27)).setRow w5.heap.size Hm.Z32.toArray)) := below_setRow' (HC.out.alloc hc5 _) hc5 _
      have c7 : ((w5.alloc (.cells Hm.Z32.toArray 27)).setRow w5.heap.size Hm.Z32.toArray).cell? ⟨g, 7, none⟩ = some (.int .u8 5) := by
        have hl5 := arg_lt F_r.out
        have h1 := F_r.out.below (Joins.below_alloc1 w5 (.cells Hm.Z32.toArray 27))
        exact cell_seven (h1.off (Nat.ne_of_lt hl5) Hm.Z32.toArray) HRl.out HR5.out
      have hi32 : (Tryd.prog.info? 27).map (·.size) = some Hm.Z32.toArray.size := by kernel_rfl
      clear hb HKB HTT F_r R_al HC
      go_wp2_with (refine wpList_store_row rfl 27 (.tmp 12) (.tmp 44) rfl w5.heap.size Hm.Z32.toArray rfl rfl 27 _ (Row.new w5 _ Hm.Z32) hi32 rfl Hone32.out ?_)
      go_ret
      exact ⟨rfl, HBF.out⟩
    exact AllReadyH.nil
  refine AllReadyH.cons (o := ⟨some 3, _, _, _, _, _⟩) rfl (fun K hK => ?_) ?_
  · skip
    go_simp
    have hb : Below w1d.heap.size w1d (w1d.alloc (.cells Hm.Z32.toArray 27)) := Joins.below_alloc1 _ _
    have hg_al := hC.size
    obtain ⟨g_al, Hg_al⟩ : ∃ g, Hid (g = w1d.heap.size) := ⟨_, rfl⟩
    have R_al : Hid (Row (w1d.alloc (.cells Hm.Z32.toArray 27)) w1d.heap.size 27 Hm.Z32) := Row.new w1d 27 Hm.Z32
    replace hC := hC.trans (hb.mono hC.size)
    refine hK.out _ _ (HKeep.out _ hC) (fun hHeld => ?_)
    clear hK K hb
    generalize (w1d.alloc (.cells Hm.Z32.toArray 27)) = w1d_al at *
    rw [← Hg_al.out] at hg_al ⊢
    rw [← Hg_al.out] at R_al
    clear Hg_al
    try go_frame
    refine wpAnyH_ready (rs := [1]) (by kernel_rfl) (by simp) ?_
    refine AllReadyH.cons (o := ⟨some 19, _, _, _, _, _⟩) rfl (fun K hK => ?_) AllReadyH.nil
    go_simp
    have hb : Below w1d_al.heap.size w1d_al (w1d_al.alloc (.cells zs.toArray 5)) := Joins.below_alloc1 _ _
    have hg_zz := hC.size
    obtain ⟨g_zz, Hg_zz⟩ : ∃ g, Hid (g = w1d_al.heap.size) := ⟨_, rfl⟩
    have F_z : Hid (Arg (w1d_al.alloc (.cells zs.toArray 5)) (.slice (some ⟨w1d_al.heap.size, 0, none⟩) 64 64) (List.replicate 64 0)) := (HZs.out ▸ Row.new w1d_al 5 zs : Row (w1d_al.alloc (.cells zs.toArray 5)) w1d_al.heap.size 5 ((List.replicate 64 (0 : UInt8)).map V8)).arg 64 (by decide)
    replace hC := hC.trans (hb.mono hC.size)
    replace R_al := Lib.hid (R_al.out.below hb R_al.out.lt)
    refine hK.out _ _ (HKeep.out _ hC) (fun hHeld => ?_)
    clear hK K hb
    generalize (w1d_al.alloc (.cells zs.toArray 5)) = w1d_al_zz at *
    rw [← Hg_zz.out] at hg_zz ⊢
    rw [← Hg_zz.out] at F_z
    clear Hg_zz
    try go_frame
    refine wpAnyH_ready (rs := [2]) (by kernel_rfl) (by simp) ?_
    refine AllReadyH.cons (o := ⟨some 20, _, _, _, _, _⟩) rfl (fun K hK => ?_) AllReadyH.nil
    go_simp
    go_at_call 10
    have hal := R_al.out.lt
    refine (SClose_35 ks HK.out (List.replicate 64 0) R HRe.out (by decide) _ w1d_al_zz (HT1.out.below hC) F_z.out).mono ?_
    rintro e w1d_al_zz_cl ⟨g, cap, ts, rfl, hcap, hgr, HAr, Hts, hb⟩
    have F_r : Hid (Arg w1d_al_zz_cl (.slice (some ⟨g, 0, none⟩) 72 cap) R) := HAr
    replace hC := hC.trans (hb.mono hC.size)
    replace R_al := Lib.hid (R_al.out.below hb R_al.out.lt)
    replace F_z := Lib.hid (F_z.out.below hb)
    refine hK.out _ _ (HKeep.out _ hC) (fun hHeld => ?_)
    clear hK K hb 
    have hne : g ≠ g_al := by omega
    clear hal
    have Hsz : Hid (ts.toArray.size = 32) := Hts.out.size
    have Hone : Hid (ts.toArray.all (·.oneCell') = true) := Hts.out.one
    clear HAr
    try go_frame
    refine wpAnyH_take (i := 3) (oi := ⟨some 17, _, _, _, _, _⟩) (v := ?_) rfl (by kernel_rfl) (by kernel_rfl) (by kernel_rfl) (fun _ _ _ h => h) (Or.inl ⟨by rfl, ?_⟩) hHeld ?_
    rotate_left
    · intro w hSw
      go_simp
      with_reducible rfl
    try go_frame
    refine wpAnyH_take (i := 4) (oi := ⟨some 21, _, _, _, _, _⟩) (v := ?_) rfl (by kernel_rfl) (by kernel_rfl) (by kernel_rfl) (fun _ _ _ h => h) (Or.inl ⟨by rfl, ?_⟩) hHeld ?_
    rotate_left
    · intro w hSw
      go_simp
      with_reducible rfl
    try go_frame
    refine wpAnyH_take (i := 5) (oi := ⟨some 22, _, _, _, _, _⟩) (v := ?_) rfl (by kernel_rfl) (by kernel_rfl) (by kernel_rfl) (fun _ _ _ h => h) (Or.inl ⟨by rfl, ?_⟩) hHeld ?_
    rotate_left
    · intro w hSw
      go_simp
      with_reducible rfl
    try go_frame
    refine wpAnyH_take (i := 6) (oi := ⟨some 23, _, _, _, _, _⟩) (v := ?_) rfl (by kernel_rfl) (by kernel_rfl) (by kernel_rfl) (fun _ _ _ h => h) (Or.inl ⟨by rfl, ?_⟩) hHeld ?_
    rotate_left
    · intro w hSw
      go_simp
      with_reducible rfl
    try go_frame
    refine wpAnyH_take (i := 8) (oi := ⟨some 2, _, _, _, _, _⟩) (v := ?_) rfl (by kernel_rfl) (by kernel_rfl) (by kernel_rfl) (fun _ _ _ h => h) (Or.inl ⟨by rfl, ?_⟩) hHeld ?_
    rotate_left
    · intro w hSw
      go_simp
      with_reducible rfl
    try go_frame
    refine wpAnyH_ready (rs := [9]) (by kernel_rfl) (by simp) ?_
    refine AllReadyH.cons (o := ⟨none, _, _, _, _, _⟩) rfl (fun K hK => ?_) AllReadyH.nil
    rw [if_pos (by rfl)]
    refine Go.wp_store_row 27 (.tmp 3) (.tmp 22) rfl g_al ts.toArray rfl rfl 27 _ R_al.out (by rw [Hsz.out]; kernel_rfl) (by rw [Hsz.out]; rfl) Hone.out ?_
    replace R_al := Lib.hid (R_al.out.whole ts)
    replace hC := below_setRow' hC (k := g_al) hg_al ts.toArray
    replace F_r := Lib.hid (F_r.out.off hne ts.toArray)
    refine hK.out _ _ (HKeep.out _ hC) (fun hHeld => ?_)
    clear hK K
    generalize (w1d_al_zz_cl.setRow g_al ts.toArray) = w1d_al_zz_cl_st at *
    try go_frame
    refine wpAnyH_take (i := 10) (oi := ⟨some 4, _, _, _, _, _⟩) (v := ?_) rfl (by kernel_rfl) (by kernel_rfl) (by kernel_rfl) (fun _ _ _ h => h) (Or.inl ⟨by rfl, ?_⟩) hHeld ?_
    rotate_left
    · intro w hSw
      go_simp
      with_reducible rfl
    try go_frame
    refine wpAnyH_done (by kernel_rfl) ?_ _
    have HC := Lib.hid (HB1.out.trans (hC.mono HB1.out.size))
    have HKB := Lib.hid (HKB1.out.below hC HKB1.out.lt)
    have HTT := Lib.hid (HT1.out.below hC)
    have hgr2 := arg_lt F_r.out
    clear hC HKeep hHeld hmk F_z HKB1 HT1 HZs
    generalize w1d_al_zz_cl_st = w2 at *
    go_wp2_with (first | (refine wpList_load_row rfl 29 (.tmp 1) rfl KB rfl 29 ks.toArray (0, 0) _ HKB.out Tryd.underlying29 rfl (by rw [Hzk.out]; kernel_rfl) ?_) | (refine wpList_load_row rfl 27 (.tmp 3) rfl g_al rfl 27 ts.toArray (0, 0) _ R_al.out Tryd.underlying27 rfl (by rw [Hsz.out]; kernel_rfl) ?_))
    refine (SOpen_35 ks HK.out R HRe.out HRl.out _ ts Hts.out w2 HTT.out F_r.out).mono ?_
    rintro e w3 ⟨g3, rfl, hb⟩
    replace HC := Lib.hid (HC.out.trans (hb.mono HC.out.size))
    replace HKB := Lib.hid (HKB.out.below hb HKB.out.lt)
    replace HTT := Lib.hid (HTT.out.below hb)
    replace F_r := Lib.hid (F_r.out.below hb)
    clear hb
    go_wp2_with (refine wpList_load_row rfl 29 (.tmp 1) rfl KB rfl 29 ks.toArray (0, 0) _ HKB.out Tryd.underlying29 rfl (by rw [Hzk.out]; kernel_rfl) ?_)
    refine (SOpen_35no ks HK.out R HRl.out HTg.out _ w3 HTT.out F_r.out).mono ?_
    rintro e w4 ⟨rfl, hb⟩
    replace HC := Lib.hid (HC.out.trans (hb.mono HC.out.size))
    replace HKB := Lib.hid (HKB.out.below hb HKB.out.lt)
    replace HTT := Lib.hid (HTT.out.below hb)
    replace F_r := Lib.hid (F_r.out.below hb)
    clear hb
    go_wp2_with (refine wpList_load_row rfl 29 (.tmp 1) rfl KB rfl 29 ks.toArray (0, 0) _ HKB.out Tryd.underlying29 rfl (by rw [Hzk.out]; kernel_rfl) ?_)
    refine (SClose_35no ks HK.out w4).mono ?_
    rintro e w5 ⟨rfl, hb⟩
    replace HC := Lib.hid (HC.out.trans (hb.mono HC.out.size))
    replace F_r := Lib.hid (F_r.out.below hb)
    have hc5 := HC.out.size
    have HBF : Hid (Below w.heap.size w ((w5.alloc (.cells Hm.Z32.toArray 27)).setRow w5.heap.size Hm.Z32.toArray)) := below_setRow' (HC.out.alloc hc5 _) hc5 _
    have c7 : ((w5.alloc (.cells Hm.Z32.toArray 27)).setRow w5.heap.size Hm.Z32.toArray).cell? ⟨g, 7, none⟩ = some (.int .u8 5) := by
      have hl5 := arg_lt F_r.out
      have h1 := F_r.out.below (Joins.below_alloc1 w5 (.cells Hm.Z32.toArray 27))
      exact cell_seven (h1.off (Nat.ne_of_lt hl5) Hm.Z32.toArray) HRl.out HR5.out
    have hi32 : (Tryd.prog.info? 27).map (·.size) = some Hm.Z32.toArray.size := by kernel_rfl
    clear hb HKB HTT F_r R_al HC
    go_wp2_with (refine wpList_store_row rfl 27 (.tmp 12) (.tmp 44) rfl w5.heap.size Hm.Z32.toArray rfl rfl 27 _ (Row.new w5 _ Hm.Z32) hi32 rfl Hone32.out ?_)
    go_ret
    exact ⟨rfl, HBF.out⟩
  exact AllReadyH.nil
end Go.Proofs.YtfodblgoamkgmaaDoor
