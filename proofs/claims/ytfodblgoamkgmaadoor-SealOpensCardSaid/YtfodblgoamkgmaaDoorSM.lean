/-
  THE WALKS of the reference's Close and Show.
-/
import Derived.Test.YtfodblgoamkgmaaDoorSL
import Derived.Test.YtfodblgoamkgmaaDoorSF
namespace Go.Proofs.YtfodblgoamkgmaaDoor
open Go.RowKit Aes Ctr Sl

theorem Big_own8 (x : Nat) (hx : x < 2 ^ 64) (w : World) :
    Calls Tryd.prog 22 #[.int .u64 (x : Int), .int .i64 8] w fun e w' => ∃ v, e = .returned v ∧ Hid (Own w' w.heap.size 5 v ((big 8 x).map V8)) ∧ Below w.heap.size w w' := Big_any 8 (by omega) x hx w

set_option maxRecDepth 100000 in
set_option maxHeartbeats 1000000 in
theorem RSClose_any (p : Nat) (ek mk : List UInt8) (hek : ek.length = 16) (d : Int) (v : Nat) (hv : v < 2 ^ 64) (b : List UInt8) (hbl : b.length ≤ 1000) (x : Value) (w0 : World) (hM : MKeyAt w0 p ek mk) (h : Arg w0 x b) :
    Calls Tryd.prog 12 #[.pointer (some ⟨p, 0, none⟩), .int .i64 d, .int .u64 v, x] w0 fun e w' => ∃ r, e = .returned r ∧ Hid (Arg w' r (rw_ ek (nm d) v b)) ∧ Below w0.heap.size w0 w' := by
  obtain ⟨A, cap, rfl⟩ := h.form
  obtain ⟨n, hnl⟩ : ∃ n, n = b.length := ⟨_, rfl⟩
  rw [← hnl] at h ⊢
  have HNl := Lib.hid hnl
  have HV := Lib.hid h
  obtain ⟨va, vb, pe, pm, hp, hs, hva, hvb, hke, hkm⟩ := hM
  obtain ⟨gm, rb, rc, cb, cc, rfl, hin⟩ := hkm.named
  have HKE := Lib.hid hke
  have HKM := Lib.hid hkm
  have HBl := Lib.hid hbl
  have HLap : Hid (((big 8 v).map V8).length + ((code ek (nnc (nm d) v) b).map V8).length ≤ 100000000) := by show _ ≤ _; rw [List.length_map, List.length_map, big_length, code_length]; omega
  have HKeep : Hid (∀ W, Below w0.heap.size w0 W → W.cell? ⟨p, 2, none⟩ = some (.pointer (some ⟨pe, 0, none⟩))) := fun W hW => (hs.below hW hp) 2 _ rfl
  clear hin hnl h hs hva hvb hke hkm hp hbl HKM
  go_enter Tryd.func12, Tryd.ntmps12
  go_wp2
  have hC : Below w0.heap.size w0 w0.drew := below_drewN (Below.refl _ _) 1
  refine wp_region_held_drew (S := (fun W => W.cell? ⟨p, 2, none⟩ = some (.pointer (some ⟨pe, 0, none⟩)))) (by kernel_rfl) (HKeep.out _ hC) (fun hHeld => ?_)
  generalize w0.drew = w0d at *
  refine wpAnyH_take (i := 0) (oi := ⟨some 9, _, _, _, _, _⟩) (v := ?_) rfl (by kernel_rfl) (by kernel_rfl) (by kernel_rfl) (fun _ _ _ h => h) (Or.inl ⟨by rfl, ?_⟩) hHeld ?_
  rotate_left
  · intro w hSw
    go_simp
    with_reducible rfl
  try go_frame
  refine wpAnyH_take (i := 2) (oi := ⟨some 11, _, _, _, _, _⟩) (v := ?_) rfl (by kernel_rfl) (by kernel_rfl) (by kernel_rfl) (fun _ _ _ h => h) (Or.inl ⟨by rfl, ?_⟩) hHeld ?_
  rotate_left
  · intro w hSw
    go_simp
    with_reducible rfl
  try go_frame
  refine wpAnyH_take (i := 3) (oi := ⟨some 12, _, _, _, _, _⟩) (v := ?_) rfl (by kernel_rfl) (by kernel_rfl) (by kernel_rfl) (fun _ _ _ h => h) (Or.inl ⟨by rfl, ?_⟩) hHeld ?_
  rotate_left
  · intro w hSw
    go_simp
    with_reducible rfl
  try go_frame
  refine wpAnyH_take (i := 4) (oi := ⟨some 13, _, _, _, _, _⟩) (v := ?_) rfl (by kernel_rfl) (by kernel_rfl) (by kernel_rfl) (fun _ _ _ h => h) (Or.inl ⟨by rfl, ?_⟩) hHeld ?_
  rotate_left
  · intro w hSw
    go_simp
    with_reducible rfl
  try go_frame
  refine wpAnyH_take (i := 5) (oi := ⟨some 14, _, _, _, _, _⟩) (v := ?_) rfl (by kernel_rfl) (by kernel_rfl) (by kernel_rfl) (fun _ _ _ h => h) (Or.inl ⟨by rfl, ?_⟩) hHeld ?_
  rotate_left
  · intro w hSw
    go_simp
    with_reducible rfl
  try go_frame
  refine wpAnyH_take (i := 6) (oi := ⟨some 15, _, _, _, _, _⟩) (v := ?_) rfl (by kernel_rfl) (by kernel_rfl) (by kernel_rfl) (fun _ _ _ h => h) (Or.inl ⟨by rfl, ?_⟩) hHeld ?_
  rotate_left
  · intro w hSw
    go_simp
    with_reducible rfl
  try go_frame
  refine wpAnyH_take (i := 7) (oi := ⟨some 16, _, _, _, _, _⟩) (v := ?_) rfl (by kernel_rfl) (by kernel_rfl) (by kernel_rfl) (fun _ _ _ h => h) (Or.inl ⟨by rfl, ?_⟩) hHeld ?_
  rotate_left
  · intro w hSw
    go_simp
    with_reducible rfl
  try go_frame
  refine wpAnyH_take (i := 9) (oi := ⟨some 18, _, _, _, _, _⟩) (v := ?_) rfl (by kernel_rfl) (by kernel_rfl) (by kernel_rfl) (fun _ _ _ h => h) (Or.inl ⟨by rfl, ?_⟩) hHeld ?_
  rotate_left
  · intro w hSw
    go_simp
    with_reducible rfl
  try go_frame
  refine wpAnyH_ready (rs := [1]) (by kernel_rfl) (by simp) ?_
  refine AllReadyH.cons (o := ⟨some 10, _, _, _, _, _⟩) rfl (fun K hK => ?_) AllReadyH.nil
  go_simp
  go_at_call 22
  refine (Big_own8 v hv w0d).mono ?_
  rintro e w0d_nm ⟨nv, rfl, A_nm, hb⟩
  have O_nm : Hid (Own w0d_nm w0.heap.size 5 nv ((big 8 v).map V8)) := A_nm.out.base hC.size
  replace hC := hC.trans (hb.mono hC.size)
  refine hK.out _ _ (HKeep.out _ hC) (fun hHeld => ?_)
  clear hK K hb 
  clear A_nm
  try go_frame
  refine wpAnyH_ready (rs := [8]) (by kernel_rfl) (by simp) ?_
  refine AllReadyH.cons (o := ⟨some 17, _, _, _, _, _⟩) rfl (fun K hK => ?_) AllReadyH.nil
  go_simp
  go_at_call 24
  refine (RNonce_any d (nm d) (nm_int d) v hv w0d_nm).mono ?_
  rintro e w0d_nm_no ⟨ov, rfl, A_no, hb⟩
  have F_no : Hid (Arg w0d_nm_no ov (nnc (nm d) v)) := A_no.out
  replace hC := hC.trans (hb.mono hC.size)
  replace O_nm := Lib.hid (O_nm.out.below hb (Nat.le_refl _))
  refine hK.out _ _ (HKeep.out _ hC) (fun hHeld => ?_)
  clear hK K hb 
  clear A_no
  try go_frame
  refine wpAnyH_ready (rs := [10]) (by kernel_rfl) (by simp) ?_
  refine AllReadyH.cons (o := ⟨some 19, _, _, _, _, _⟩) rfl (fun K hK => ?_) AllReadyH.nil
  go_simp
  go_at_call 23
  refine (RCode_any pe ek (nnc (nm d) v) b hek (nnc_length _ _) HBl.out _ _ w0d_nm_no (HKE.out.below hC) F_no.out (HV.out.below hC)).mono ?_
  rintro e w0d_nm_no_cd ⟨cv, rfl, A_cd, hb⟩
  have F_cd : Hid (Arg w0d_nm_no_cd cv (code ek (nnc (nm d) v) b)) := A_cd.out
  replace hC := hC.trans (hb.mono hC.size)
  replace O_nm := Lib.hid (O_nm.out.below hb (Nat.le_refl _))
  replace F_no := Lib.hid (F_no.out.below hb)
  refine hK.out _ _ (HKeep.out _ hC) (fun hHeld => ?_)
  clear hK K hb 
  clear A_cd
  try go_frame
  refine wpAnyH_ready (rs := [11]) (by kernel_rfl) (by simp) ?_
  refine AllReadyH.cons (o := ⟨some 20, _, _, _, _, _⟩) rfl (fun K hK => ?_) AllReadyH.nil
  have hs0 := hC.size
  refine step_app rfl (.tmp 10) (.tmp 19) 22 rfl w0.heap.size 5 Tryd.underlying22 info8 rfl (by decide) _ (List.map V8 (big 8 v)) rfl O_nm.out _ (List.map V8 (code ek (nnc (nm d) v) b)) rfl (arg_from F_cd.out) (oneC8 _) HLap.out hs0 ?_
  intro v_rw w0d_nm_no_cd_rw hown hg _
  replace hC := below_app hC O_nm.out hg (Nat.le_refl _) hs0
  have O_rw : Hid (Own w0d_nm_no_cd_rw w0.heap.size 5 v_rw ((big 8 v ++ code ek (nnc (nm d) v) b).map V8)) := by show Own _ _ _ _ _; rw [List.map_append]; exact hown
  clear hown hg O_nm F_cd
  refine hK.out _ _ (HKeep.out _ hC) (fun hHeld => ?_)
  clear hK K
  try go_frame
  refine wpAnyH_take (i := 12) (oi := ⟨some 8, _, _, _, _, _⟩) (v := ?_) rfl (by kernel_rfl) (by kernel_rfl) (by kernel_rfl) (fun _ _ _ h => h) (Or.inl ⟨by rfl, ?_⟩) hHeld ?_
  rotate_left
  · intro w hSw
    go_simp
    with_reducible rfl
  try go_frame
  refine wpAnyH_done (by kernel_rfl) ?_ _
  clear HKeep hHeld
  go_wp2
  go_ret
  exact ⟨_, rfl, O_rw.out.arg, hC⟩

set_option maxRecDepth 100000 in
set_option maxHeartbeats 1000000 in
theorem RSShow_any (p : Nat) (ek mk : List UInt8) (hek : ek.length = 16) (d : Int) (raw : List UInt8) (hrl : raw.length = 72) (x : Value) (w0 : World) (hM : MKeyAt w0 p ek mk) (h : Arg w0 x raw) :
    Calls Tryd.prog 15 #[.pointer (some ⟨p, 0, none⟩), .int .i64 d, x] w0 fun e w' => ∃ r, e = .returned (.tuple #[r, .int .u64 ((ver raw : Nat) : Int)]) ∧ Hid (Arg w' r (pl ek (nm d) raw)) ∧ Below w0.heap.size w0 w' := by
  obtain ⟨b, o, cap, rfl, hcap⟩ : ∃ b o cap, x = .slice (some ⟨b, o, none⟩) 72 cap ∧ 72 ≤ cap := by
    rcases h with ⟨A, e, hn⟩ | ⟨b, o, c, e, _, hc, _⟩
    · rw [hn] at hrl; exact absurd hrl (by decide)
    · exact ⟨b, o, c, by rw [e, hrl], by omega⟩
  obtain ⟨va, vb, pe, pm, hp, hs, hva, hvb, hke, hkm⟩ := hM
  obtain ⟨gm, rb, rc, cb, cc, rfl, hin⟩ := hkm.named
  have HKE := Lib.hid hke
  have HP := Lib.hid hrl
  have HKeep : Hid (∀ W, Below w0.heap.size w0 W → W.cell? ⟨p, 2, none⟩ = some (.pointer (some ⟨pe, 0, none⟩))) := fun W hW => (hs.below hW hp) 2 _ rfl
  have HC : Hid (∀ j, j < 72 → w0.cell? ⟨b, o + j, none⟩ = some (.int .u8 (raw.getD j 0).toNat)) := fun j hj => by
    rcases h with ⟨A, e, hn⟩ | ⟨b', o', c', e, _, _, hsee⟩
    · rw [hn] at hrl; exact absurd hrl (by decide)
    · injection e with e1 _ _
      injection e1 with e1
      injection e1 with e1 e2 _
      subst e1 e2
      exact at8 hsee j (by omega)
  have HA8 : Hid (Arg w0 (.slice (some ⟨b, o + 8, none⟩) 64 (cap - 8)) (raw.drop 8)) := h.drop8 hrl
  clear hin hrl h hs hva hvb hke hkm hp
  go_enter Tryd.func15, Tryd.ntmps15
  go_wp2
  go_loop [8, 9] (fun s i => ∃ (k a : Nat), k ≤ 8 ∧ i = .int .i64 k ∧ s = .int .u64 a ∧ Hid (a = num (raw.take k))) (fun _ i => 8 - (intOf i).toNat)
  case atStart => exact ⟨0, 0, by omega, rfl, rfl, by show _ = _; simp [num]⟩
  case round =>
    obtain ⟨k, a, hk, rfl, rfl, Ha⟩ := hrel
    by_cases hlt : k < 8
    · have hx := HC.out k (by omega)
      have Htk := Lib.hid (num_take raw k (by rw [HP.out]; omega))
      have ha : a < 2 ^ 56 := by
        rw [Ha.out]
        have h1 := num_lt (raw.take k) 7 (by rw [List.length_take]; omega)
        have : (256 : Nat) ^ 7 = 2 ^ 56 := by decide
        omega
      clear HC HA8 HKE HKeep
      generalize raw.getD k 0 = y at *
      have hy8 := lt8 y
      go_wp2
      go_round
      case rel =>
        refine ⟨k + 1, a * 256 + y.toNat, by omega, by go_num, by go_num, ?_⟩
        show _ = _
        rw [Htk.out, Ha.out]
      case measure => simp [intOf]; omega
    · obtain rfl : k = 8 := by omega
      obtain ⟨V, HVe⟩ : ∃ V, Hid (V = ver raw) := ⟨_, rfl⟩
      have e : a = V := by rw [Ha.out, HVe.out]; rfl
      subst e
      obtain ⟨D8, HD8⟩ : ∃ D, Hid (D = raw.drop 8) := ⟨_, rfl⟩
      have hV64 : a < 2 ^ 64 := by rw [HVe.out]; exact ver_lt raw
      have HLd : Hid (D8.length = 64) := by show _ = _; rw [HD8.out, List.length_drop, HP.out]
      rw [← HD8.out] at HA8
      clear HC Ha
      go_wp2
      have hC : Below w0.heap.size w0 w0.drew := below_drewN (Below.refl _ _) 1
      refine wp_region_held_drew (S := (fun W => W.cell? ⟨p, 2, none⟩ = some (.pointer (some ⟨pe, 0, none⟩)))) (by kernel_rfl) (HKeep.out _ hC) (fun hHeld => ?_)
      generalize w0.drew = w0d at *
      refine wpAnyH_take (i := 0) (oi := ⟨some 22, _, _, _, _, _⟩) (v := ?_) rfl (by kernel_rfl) (by kernel_rfl) (by kernel_rfl) (fun _ _ _ h => h) (Or.inl ⟨by rfl, ?_⟩) hHeld ?_
      rotate_left
      · intro w hSw
        go_simp
        with_reducible rfl
      try go_frame
      refine wpAnyH_take (i := 1) (oi := ⟨some 23, _, _, _, _, _⟩) (v := ?_) rfl (by kernel_rfl) (by kernel_rfl) (by kernel_rfl) (fun _ _ _ h => h) (Or.inl ⟨by rfl, ?_⟩) hHeld ?_
      rotate_left
      · intro w hSw
        go_simp
        with_reducible rfl
      try go_frame
      refine wpAnyH_take (i := 2) (oi := ⟨some 24, _, _, _, _, _⟩) (v := ?_) rfl (by kernel_rfl) (by kernel_rfl) (by kernel_rfl) (fun _ _ _ h => h) (Or.inl ⟨by rfl, ?_⟩) hHeld ?_
      rotate_left
      · intro w hSw
        go_simp
        with_reducible rfl
      try go_frame
      refine wpAnyH_take (i := 3) (oi := ⟨some 25, _, _, _, _, _⟩) (v := ?_) rfl (by kernel_rfl) (by kernel_rfl) (by kernel_rfl) (fun _ _ _ h => h) (Or.inl ⟨by rfl, ?_⟩) hHeld ?_
      rotate_left
      · intro w hSw
        go_simp
        with_reducible rfl
      try go_frame
      refine wpAnyH_take (i := 4) (oi := ⟨some 26, _, _, _, _, _⟩) (v := ?_) rfl (by kernel_rfl) (by kernel_rfl) (by kernel_rfl) (fun _ _ _ h => h) (Or.inl ⟨by rfl, ?_⟩) hHeld ?_
      rotate_left
      · intro w hSw
        go_simp
        with_reducible rfl
      try go_frame
      refine wpAnyH_take (i := 5) (oi := ⟨some 27, _, _, _, _, _⟩) (v := ?_) rfl (by kernel_rfl) (by kernel_rfl) (by kernel_rfl) (fun _ _ _ h => h) (Or.inl ⟨by rfl, ?_⟩) hHeld ?_
      rotate_left
      · intro w hSw
        go_simp
        with_reducible rfl
      try go_frame
      refine wpAnyH_take (i := 7) (oi := ⟨some 29, _, _, _, _, _⟩) (v := ?_) rfl (by kernel_rfl) (by kernel_rfl) (by kernel_rfl) (fun _ _ _ h => h) (Or.inl ⟨by rfl, ?_⟩) hHeld ?_
      rotate_left
      · intro w hSw
        go_simp
        with_reducible rfl
      try go_frame
      refine wpAnyH_take (i := 8) (oi := ⟨some 30, _, _, _, _, _⟩) (v := ?_) rfl (by kernel_rfl) (by kernel_rfl) (by kernel_rfl) (fun _ _ _ h => h) (Or.inl ⟨by rfl, ?_⟩) hHeld ?_
      rotate_left
      · intro w hSw
        have hsl := cut8 b o cap hcap w
        have hsl2 := cut8At b o cap hcap w
        go_simp
        with_reducible rfl
      try go_frame
      refine wpAnyH_take (i := 10) (oi := ⟨some 32, _, _, _, _, _⟩) (v := ?_) rfl (by kernel_rfl) (by kernel_rfl) (by kernel_rfl) (fun _ _ _ h => h) (Or.inl ⟨by rfl, ?_⟩) hHeld ?_
      rotate_left
      · intro w hSw
        go_simp
        with_reducible rfl
      try go_frame
      refine wpAnyH_ready (rs := [6]) (by kernel_rfl) (by simp) ?_
      refine AllReadyH.cons (o := ⟨some 28, _, _, _, _, _⟩) rfl (fun K hK => ?_) AllReadyH.nil
      go_simp
      go_at_call 24
      refine (RNonce_any d (nm d) (nm_int d) a hV64 w0d).mono ?_
      rintro e w0d_no ⟨ov, rfl, A_no, hb⟩
      have F_no : Hid (Arg w0d_no ov (nnc (nm d) a)) := A_no.out
      replace hC := hC.trans (hb.mono hC.size)
      refine hK.out _ _ (HKeep.out _ hC) (fun hHeld => ?_)
      clear hK K hb 
      clear A_no
      try go_frame
      refine wpAnyH_ready (rs := [9]) (by kernel_rfl) (by simp) ?_
      refine AllReadyH.cons (o := ⟨some 31, _, _, _, _, _⟩) rfl (fun K hK => ?_) AllReadyH.nil
      go_simp
      go_at_call 23
      refine (RCode_any pe ek (nnc (nm d) a) D8 hek (nnc_length _ _) (by rw [HLd.out]; omega) _ _ w0d_no (HKE.out.below hC) F_no.out (HA8.out.below hC)).mono ?_
      rintro e w0d_no_cd ⟨cv, rfl, A_cd, hb⟩
      replace hC := hC.trans (hb.mono hC.size)
      replace F_no := Lib.hid (F_no.out.below hb)
      refine hK.out _ _ (HKeep.out _ hC) (fun hHeld => ?_)
      clear hK K hb 
      try go_frame
      refine wpAnyH_take (i := 11) (oi := ⟨some 6, _, _, _, _, _⟩) (v := ?_) rfl (by kernel_rfl) (by kernel_rfl) (by kernel_rfl) (fun _ _ _ h => h) (Or.inl ⟨by rfl, ?_⟩) hHeld ?_
      rotate_left
      · intro w hSw
        go_simp
        with_reducible rfl
      try go_frame
      refine wpAnyH_take (i := 12) (oi := ⟨some 7, _, _, _, _, _⟩) (v := ?_) rfl (by kernel_rfl) (by kernel_rfl) (by kernel_rfl) (fun _ _ _ h => h) (Or.inl ⟨by rfl, ?_⟩) hHeld ?_
      rotate_left
      · intro w hSw
        go_simp
        with_reducible rfl
      try go_frame
      refine wpAnyH_done (by kernel_rfl) ?_ _
      rw [HD8.out, HVe.out] at A_cd
      clear HKeep hHeld
      go_wp2
      go_ret2
      exact ⟨cv, by rw [HVe.out]; rfl, A_cd, hC⟩
end Go.Proofs.YtfodblgoamkgmaaDoor
