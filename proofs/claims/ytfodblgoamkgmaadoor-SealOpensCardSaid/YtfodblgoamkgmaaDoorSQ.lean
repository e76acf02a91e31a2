/-
  THE WALK of the law SealOpens, where 'right' is true.
-/
import Derived.Test.YtfodblgoamkgmaaDoorSO
namespace Go.Proofs.YtfodblgoamkgmaaDoor
open Go.RowKit Aes Ctr Sl

set_option maxRecDepth 100000 in
set_option maxHeartbeats 2000000 in
theorem SOpens_true (ek mk : List UInt8) (ks : List Value) (hk : KeysV ek mk ks) (d : Int) (raw : List UInt8) (x : Value) (tb : List UInt8) (ts : List Value) (hts : Vec 32 tb ts) (w : World) (hT : Hm.Tab w) (h : Arg w x raw) :
    Calls Tryd.prog 4 #[.agg ks.toArray, .int .i64 d, x, .agg ts.toArray, .bool true] w fun e w' => e = .returned (.bool true) ∧ Below w.heap.size w w' := by
  obtain ⟨A, cap, rfl⟩ := h.form
  obtain ⟨n, hnl⟩ : ∃ n, n = raw.length := ⟨_, rfl⟩
  rw [← hnl] at h ⊢
  have HNl := Lib.hid hnl
  have HK := Lib.hid hk
  have HV := Lib.hid hts
  have Hzk : Hid (ks.toArray.size = 48) := hk.size
  have Hzt : Hid (ts.toArray.size = 32) := hts.size
  have Hto : Hid (ts.toArray.all (·.oneCell') = true) := hts.one
  have hz := Hm.zeroTag
  obtain ⟨w0, hw0⟩ : ∃ w0, w0 = (w.alloc (.cells ks.toArray 29)).alloc (.cells ts.toArray 27) := ⟨_, rfl⟩
  have HC : Hid (Below w.heap.size w w0) := by rw [hw0]; exact ((Below.refl _ _).alloc (Nat.le_refl _) _).alloc (by simp) _
  have HX_KB : Hid (Row w0 w.heap.size 29 ks) := by rw [hw0]; exact (Row.new w 29 ks).alloc _
  have HX_KT : Hid (Row w0 (w.heap.size + 1) 27 ts) := by rw [hw0]; exact Row.newAt 27 ts (by simp)
  have HT : Hid (Hm.Tab w0) := hT.below HC.out
  have HA : Hid (Arg w0 (.slice A n cap) raw) := h.below HC.out
  clear h hk hnl hT hts
  rcases Nat.lt_or_ge 200 n with hl | hl
  · go_enter Tryd.func4, Tryd.ntmps4
    go_wp2_with fail
    rw [← hw0]
    refine (Sknows_any w0 HT.out).mono ?_
    rintro e w1 ⟨rfl, hb⟩
    replace HC := Lib.hid (HC.out.trans (hb.mono HC.out.size))
    go_wp2
    go_ret
    exact ⟨rfl, HC.out⟩
  have HR : Hid (raw.length ≤ 1000) := by show _ ≤ _; rw [← HNl.out]; omega
  have HKeep : Hid (∀ W, Below w0.heap.size w0 W → True) := fun _ _ => trivial
  go_enter Tryd.func4, Tryd.ntmps4
  go_wp2
  rw [← hw0]
  clear hw0
  have hC : Below w0.heap.size w0 w0.drew := below_drewN (Below.refl _ _) 1
  refine wp_region_held_drew (S := (fun _ => True)) (by kernel_rfl) (HKeep.out _ hC) (fun hHeld => ?_)
  generalize w0.drew = w0d at *
  refine wpAnyH_take (i := 0) (oi := ⟨some 23, _, _, _, _, _⟩) (v := ?_) rfl (by kernel_rfl) (by kernel_rfl) (by kernel_rfl) (fun _ _ _ h => h) (Or.inl ⟨by rfl, ?_⟩) hHeld ?_
  rotate_left
  · intro w hSw
    go_simp
    with_reducible rfl
  try go_frame
  refine wpAnyH_take (i := 1) (oi := ⟨some 24, _, _, _, _, _⟩) (v := ?_) rfl (by kernel_rfl) (by kernel_rfl) (by kernel_rfl) (fun _ _ _ h => h) (Or.inl ⟨by rfl, ?_⟩) hHeld ?_
  rotate_left
  · intro w hSw
    go_simp
    with_reducible rfl
  try go_frame
  refine wpAnyH_take (i := 2) (oi := ⟨some 25, _, _, _, _, _⟩) (v := ?_) rfl (by kernel_rfl) (by kernel_rfl) (by kernel_rfl) (fun _ _ _ h => h) (Or.inl ⟨by rfl, ?_⟩) hHeld ?_
  rotate_left
  · intro w hSw
    go_simp
    with_reducible rfl
  try go_frame
  refine wpAnyH_take (i := 3) (oi := ⟨some 26, _, _, _, _, _⟩) (v := ?_) rfl (by kernel_rfl) (by kernel_rfl) (by kernel_rfl) (fun _ _ _ h => h) (Or.inl ⟨by rfl, ?_⟩) hHeld ?_
  rotate_left
  · intro w hSw
    go_simp
    with_reducible rfl
  try go_frame
  refine wpAnyH_ready (rs := [4]) (by kernel_rfl) (by simp) ?_
  refine AllReadyH.cons (o := ⟨some 27, _, _, _, _, _⟩) rfl (fun K hK => ?_) AllReadyH.nil
  go_simp
  go_at_call 13
  refine (RSOf_any ek mk HK.out.2.1 (by rw [HK.out.2.2]; omega) w.heap.size 16 (by omega) _ w0d (HK.out.enc (HX_KB.out.below hC HX_KB.out.lt)) (HK.out.mac (HX_KB.out.below hC HX_KB.out.lt))).mono ?_
  rintro e w0d_of ⟨p, rfl, HM, hb⟩
  replace hC := hC.trans (hb.mono hC.size)
  refine hK.out _ _ (HKeep.out _ hC) (fun hHeld => ?_)
  clear hK K hb 
  try go_frame
  refine wpAnyH_take (i := 5) (oi := ⟨some 11, _, _, _, _, _⟩) (v := ?_) rfl (by kernel_rfl) (by kernel_rfl) (by kernel_rfl) (fun _ _ _ h => h) (Or.inl ⟨by rfl, ?_⟩) hHeld ?_
  rotate_left
  · intro w hSw
    go_simp
    with_reducible rfl
  try go_frame
  refine wpAnyH_done (by kernel_rfl) ?_ _
  have hb := hC
  clear hC HKeep hHeld
  replace HC := Lib.hid (HC.out.trans (hb.mono HC.out.size))
  replace HT := Lib.hid (HT.out.below hb)
  replace HA := Lib.hid (HA.out.below hb)
  replace HX_KB := Lib.hid (HX_KB.out.below hb HX_KB.out.lt)
  replace HX_KT := Lib.hid (HX_KT.out.below hb HX_KT.out.lt)
  clear hb
  generalize w0d_of = w2 at *
  obtain ⟨wD, hwD⟩ : ∃ wD, wD = w2.alloc (.cells #[] 5) := ⟨_, rfl⟩
  have HBD : Hid (Below w2.heap.size w2 wD) := by rw [hwD]; exact (Below.refl _ _).alloc (Nat.le_refl _) _
  have HLD : Hid (Own wD w2.heap.size 5 (.slice (some ⟨w2.heap.size, 0, none⟩) 0 0) ([] : List Value)) := by rw [hwD]; exact Own.lit w2 w2.heap.size 5 [] (Nat.le_refl _) (by simp)
  have HAD : Hid (Arg wD (.slice A n cap) raw) := HA.out.below HBD.out
  have hszD : w2.heap.size ≤ wD.heap.size := HBD.out.size
  have HLn : Hid (([] : List Value).length + (raw.map V8).length ≤ 100000000) := by show _ ≤ _; rw [List.length_map, ← HNl.out]; simp; omega
  go_wp2_with (first | (at_builtin; rw [← hwD]; refine wpList_app rfl (.tmp 28) (.tmp 29) 22 rfl w2.heap.size 5 Tryd.underlying22 info8 rfl (by decide) _ [] rfl HLD.out _ (raw.map V8) rfl (arg_from HAD.out) (oneC8 _) HLn.out hszD ?_; intro v' w4 hown hg _; rw [List.nil_append] at hown; have HO := Lib.hid hown.arg; have hb : Below w2.heap.size w2 w4 := below_app HBD.out HLD.out hg (Nat.le_refl _) hszD; obtain ⟨Ao, co, rfl⟩ := HO.out.form; clear hown hg; replace HC := Lib.hid (HC.out.trans (hb.mono HC.out.size)); replace HT := Lib.hid (HT.out.below hb); replace HM := Lib.hid (HM.out.below hb); replace HA := Lib.hid (HA.out.below hb); replace HX_KB := Lib.hid (HX_KB.out.below hb HX_KB.out.lt); replace HX_KT := Lib.hid (HX_KT.out.below hb HX_KT.out.lt); clear hb) | (refine wpList_load_row rfl 27 (.tmp 8) rfl (w.heap.size + 1) rfl 27 ts.toArray (0, 0) _ HX_KT.out Tryd.underlying27 rfl (by rw [Hzt.out]; kernel_rfl) ?_) | (refine wpList_store_row rfl 27 (.tmp 13) (.tmp 31) rfl w4.heap.size ts.toArray rfl rfl 27 _ (Row.new w4 _ Hm.Z32) (by rw [Hzt.out]; kernel_rfl) (by rw [Hzt.out]; rfl) Hto.out ?_) | (have HXn : Row ((w4.alloc (.cells Hm.Z32.toArray 27)).setRow w4.heap.size ts.toArray) w.heap.size 29 ks := (HX_KB.out.alloc _).wholeOff (Nat.ne_of_lt HX_KB.out.lt) _; refine wpList_load_row rfl 29 (.tmp 5) rfl w.heap.size rfl 29 ks.toArray (0, 0) _ HXn Tryd.underlying29 rfl (by rw [Hzk.out]; kernel_rfl) ?_; clear HXn))
  rw [← HNl.out] at HO ⊢
  have HX_TB : Hid (Row ((w4.alloc (.cells Hm.Z32.toArray 27)).setRow w4.heap.size ts.toArray) w4.heap.size 27 ts) := (Row.new w4 27 Hm.Z32).whole ts
  have hb : Below w4.heap.size w4 ((w4.alloc (.cells Hm.Z32.toArray 27)).setRow w4.heap.size ts.toArray) := below_setRow' ((Below.refl _ _).alloc (Nat.le_refl _) _) (Nat.le_refl _) _
  obtain ⟨TB, hTB⟩ : ∃ X, X = w4.heap.size := ⟨_, rfl⟩
  have hb2 : Below w4.heap.size w4 ((w4.alloc (.cells Hm.Z32.toArray 27)).setRow TB ts.toArray) := by rw [hTB]; exact hb
  rw [← hTB] at HX_TB ⊢
  have hle_TB : w4.heap.size ≤ TB := Nat.le_of_eq hTB.symm
  clear hb hTB
  generalize ((w4.alloc (.cells Hm.Z32.toArray 27)).setRow TB ts.toArray) = w3 at *
  have hb := hb2
  clear hb2
  refine (STag_any ek mk ks HK.out d raw HR.out _ w3 (HT.out.below hb) (HA.out.below hb)).mono ?_
  rintro e w6 ⟨us, Hub, rfl, hb36⟩
  have Hus : Hid (us.toArray.size = 32) := Hub.out.size
  have Huo : Hid (us.toArray.all (·.oneCell') = true) := Hub.out.one
  replace HX_TB := Lib.hid (HX_TB.out.below hb36 HX_TB.out.lt)
  have hb46 : Below w4.heap.size w4 w6 := hb.trans (hb36.mono hb.size)
  clear hb hb36
  have hb : Below w4.heap.size w4 (w6.setRow TB us.toArray) := below_setRow' hb46 hle_TB _
  have HXn : Hid (Row (w6.setRow TB us.toArray) w.heap.size 29 ks) := HX_KB.out.below hb HX_KB.out.lt
  have HXm : Hid (Row (w6.setRow TB us.toArray) TB 27 us) := HX_TB.out.whole us
  go_wp2_with (first | (refine wpList_store_row rfl 27 (.tmp 13) (.tmp 36) rfl TB us.toArray rfl rfl 27 _ HX_TB.out (by rw [Hus.out]; kernel_rfl) (by rw [Hus.out, Hzt.out]) Huo.out ?_) | (refine wpList_load_row rfl 29 (.tmp 5) rfl w.heap.size rfl 29 ks.toArray (0, 0) _ HXn.out Tryd.underlying29 rfl (by rw [Hzk.out]; kernel_rfl) ?_) | (refine wpList_load_row rfl 27 (.tmp 13) rfl TB rfl 27 us.toArray (0, 0) _ HXm.out Tryd.underlying27 rfl (by rw [Hus.out]; kernel_rfl) ?_))
  clear HX_TB HXn hb46
  have HX_TB := HXm
  clear HXm
  generalize (w6.setRow TB us.toArray) = w5 at *
  replace HC := Lib.hid (HC.out.trans (hb.mono HC.out.size))
  replace HT := Lib.hid (HT.out.below hb)
  replace HM := Lib.hid (HM.out.below hb)
  replace HA := Lib.hid (HA.out.below hb)
  replace HO := Lib.hid (HO.out.below hb)
  replace HX_KB := Lib.hid (HX_KB.out.below hb HX_KB.out.lt)
  clear hb
  obtain ⟨ub, hub⟩ : ∃ ub, ub = tg mk (nm d) raw := ⟨_, rfl⟩
  rw [← hub] at Hub
  clear hub hwD HBD HLD HAD hszD HLn HX_KT HV
  rcases Classical.em (raw.length = 72) with hp | hp
  · rcases Classical.em (tg mk (nm d) raw = ub) with heq | heq
    · refine (SOpen_ok ek mk ks HK.out d raw hp _ ub us Hub.out heq w5 HT.out HO.out).mono ?_
      rintro e w6 ⟨g3, rfl, hg3, R3, hb⟩
      replace HC := Lib.hid (HC.out.trans (hb.mono HC.out.size))
      replace HT := Lib.hid (HT.out.below hb)
      replace HM := Lib.hid (HM.out.below hb)
      replace HA := Lib.hid (HA.out.below hb)
      replace HO := Lib.hid (HO.out.below hb)
      replace HX_TB := Lib.hid (HX_TB.out.below hb HX_TB.out.lt)
      clear hb
      have HB : Hid (Arg w6 (.slice (some ⟨g3, 0, none⟩) 64 64) (pl ek (nm d) raw)) := R3.out.arg 64 (by rw [pl_length, hp])
      clear R3 HX_KB
      have hn : n = 72 := by rw [HNl.out]; exact hp
      subst hn
      have hc1 := conv_arg HO.out
      have hc2 := conv_arg HA.out
      go_wp2
      clear hc1 hc2 HO
      have HKeep : Hid (∀ W, Below w6.heap.size w6 W → (convert 22 9 (.slice (some ⟨TB, 0, none⟩) 32 32)).run Tryd.prog W = .ok (.string (strB ub)) W) := fun W hW => conv_arg ((Hub.out.row (HX_TB.out.below hW HX_TB.out.lt)).arg 32 Hub.out.2)
      have hC : Below w6.heap.size w6 w6.drew := below_drewN (Below.refl _ _) 1
      refine wp_region_held_drew (S := (fun W => (convert 22 9 (.slice (some ⟨TB, 0, none⟩) 32 32)).run Tryd.prog W = .ok (.string (strB ub)) W)) (by kernel_rfl) (HKeep.out _ hC) (fun hHeld => ?_)
      generalize w6.drew = w6d at *
      refine wpAnyH_take (i := 0) (oi := ⟨some 68, _, _, _, _, _⟩) (v := ?_) rfl (by kernel_rfl) (by kernel_rfl) (by kernel_rfl) (fun _ _ _ h => h) (Or.inl ⟨by rfl, ?_⟩) hHeld ?_
      rotate_left
      · intro w hSw
        go_simp
        with_reducible rfl
      try go_frame
      refine wpAnyH_take (i := 1) (oi := ⟨some 69, _, _, _, _, _⟩) (v := ?_) rfl (by kernel_rfl) (by kernel_rfl) (by kernel_rfl) (fun _ _ _ h => h) (Or.inl ⟨by rfl, ?_⟩) hHeld ?_
      rotate_left
      · intro w hSw
        go_simp
        with_reducible rfl
      try go_frame
      refine wpAnyH_take (i := 2) (oi := ⟨some 70, _, _, _, _, _⟩) (v := ?_) rfl (by kernel_rfl) (by kernel_rfl) (by kernel_rfl) (fun _ _ _ h => h) (Or.inl ⟨by rfl, ?_⟩) hHeld ?_
      rotate_left
      · intro w hSw
        go_simp
        with_reducible rfl
      try go_frame
      refine wpAnyH_take (i := 4) (oi := ⟨some 72, _, _, _, _, _⟩) (v := ?_) rfl (by kernel_rfl) (by kernel_rfl) (by kernel_rfl) (fun _ _ _ h => h) (Or.inl ⟨by rfl, ?_⟩) hHeld ?_
      rotate_left
      · intro w hSw
        go_simp
        with_reducible rfl
      try go_frame
      refine wpAnyH_take (i := 5) (oi := ⟨some 73, _, _, _, _, _⟩) (v := ?_) rfl (by kernel_rfl) (by kernel_rfl) (by kernel_rfl) (fun _ _ _ h => h) (Or.inl ⟨by rfl, ?_⟩) hHeld ?_
      rotate_left
      · intro w hSw
        have hS1 := hSw
        go_simp
        with_reducible rfl
      try go_frame
      refine wpAnyH_ready (rs := [3]) (by kernel_rfl) (by simp) ?_
      refine AllReadyH.cons (o := ⟨some 71, _, _, _, _, _⟩) rfl (fun K hK => ?_) AllReadyH.nil
      go_simp
      go_at_call 11
      refine (RSTag_any p ek mk d raw HR.out _ w6d (HM.out.below hC) (HA.out.below hC)).mono ?_
      rintro e w6d_rt ⟨rfl, hb⟩
      replace hC := hC.trans (hb.mono hC.size)
      refine hK.out _ _ (HKeep.out _ hC) (fun hHeld => ?_)
      clear hK K hb 
      try go_frame
      refine wpAnyH_take (i := 6) (oi := ⟨some 74, _, _, _, _, _⟩) (v := ?_) rfl (by kernel_rfl) (by kernel_rfl) (by kernel_rfl) (fun _ _ _ h => h) (Or.inl ⟨by rfl, ?_⟩) hHeld ?_
      rotate_left
      · intro w hSw
        go_simp
        with_reducible rfl
      try go_frame
      refine wpAnyH_done (by kernel_rfl) ?_ _
      have hb := hC
      clear hC HKeep hHeld
      replace HC := Lib.hid (HC.out.trans (hb.mono HC.out.size))
      replace HT := Lib.hid (HT.out.below hb)
      replace HM := Lib.hid (HM.out.below hb)
      replace HA := Lib.hid (HA.out.below hb)
      replace HB := Lib.hid (HB.out.below hb)
      clear hb
      generalize w6d_rt = w8 at *
      clear HX_TB
      try rw [show (strB (tg mk (nm d) raw) != strB ub) = false by rw [heq]; simp]
      go_wp2_with fail
      refine (RSShow_any p ek mk HK.out.2.1 d raw hp _ w8 HM.out HA.out).mono ?_
      rintro e w9 ⟨rv, rfl, HW, hb⟩
      replace HC := Lib.hid (HC.out.trans (hb.mono HC.out.size))
      replace HT := Lib.hid (HT.out.below hb)
      replace HB := Lib.hid (HB.out.below hb)
      clear hb
      have hc3 := conv_arg HB.out
      have hc4 := conv_arg HW.out
      clear HM HA HB HW
      obtain ⟨V, hV⟩ : ∃ V, V = ver raw := ⟨_, rfl⟩
      rw [← hV]
      clear hV
      go_wp2_with fail
      clear hc3 hc4
      refine (Sknows_any w9 HT.out).mono ?_
      rintro e w10 ⟨rfl, hb⟩
      replace HC := Lib.hid (HC.out.trans (hb.mono HC.out.size))
      clear hb
      go_wp2
      go_ret
      exact ⟨rfl, HC.out⟩
    · refine (SOpen_diff ek mk ks HK.out d raw hp _ ub us Hub.out heq w5 HT.out HO.out).mono ?_
      rintro e w6 ⟨rfl, hb⟩
      replace HC := Lib.hid (HC.out.trans (hb.mono HC.out.size))
      replace HT := Lib.hid (HT.out.below hb)
      replace HM := Lib.hid (HM.out.below hb)
      replace HA := Lib.hid (HA.out.below hb)
      replace HO := Lib.hid (HO.out.below hb)
      replace HX_TB := Lib.hid (HX_TB.out.below hb HX_TB.out.lt)
      clear hb
      clear HX_KB
      have hx := str_ne heq
      have hn : n = 72 := by rw [HNl.out]; exact hp
      subst hn
      have hc1 := conv_arg HO.out
      have hc2 := conv_arg HA.out
      go_wp2
      clear hc1 hc2 HO
      have HKeep : Hid (∀ W, Below w6.heap.size w6 W → (convert 22 9 (.slice (some ⟨TB, 0, none⟩) 32 32)).run Tryd.prog W = .ok (.string (strB ub)) W) := fun W hW => conv_arg ((Hub.out.row (HX_TB.out.below hW HX_TB.out.lt)).arg 32 Hub.out.2)
      have hC : Below w6.heap.size w6 w6.drew := below_drewN (Below.refl _ _) 1
      refine wp_region_held_drew (S := (fun W => (convert 22 9 (.slice (some ⟨TB, 0, none⟩) 32 32)).run Tryd.prog W = .ok (.string (strB ub)) W)) (by kernel_rfl) (HKeep.out _ hC) (fun hHeld => ?_)
      generalize w6.drew = w6d at *
      refine wpAnyH_take (i := 0) (oi := ⟨some 68, _, _, _, _, _⟩) (v := ?_) rfl (by kernel_rfl) (by kernel_rfl) (by kernel_rfl) (fun _ _ _ h => h) (Or.inl ⟨by rfl, ?_⟩) hHeld ?_
      rotate_left
      · intro w hSw
        go_simp
        with_reducible rfl
      try go_frame
      refine wpAnyH_take (i := 1) (oi := ⟨some 69, _, _, _, _, _⟩) (v := ?_) rfl (by kernel_rfl) (by kernel_rfl) (by kernel_rfl) (fun _ _ _ h => h) (Or.inl ⟨by rfl, ?_⟩) hHeld ?_
      rotate_left
      · intro w hSw
        go_simp
        with_reducible rfl
      try go_frame
      refine wpAnyH_take (i := 2) (oi := ⟨some 70, _, _, _, _, _⟩) (v := ?_) rfl (by kernel_rfl) (by kernel_rfl) (by kernel_rfl) (fun _ _ _ h => h) (Or.inl ⟨by rfl, ?_⟩) hHeld ?_
      rotate_left
      · intro w hSw
        go_simp
        with_reducible rfl
      try go_frame
      refine wpAnyH_take (i := 4) (oi := ⟨some 72, _, _, _, _, _⟩) (v := ?_) rfl (by kernel_rfl) (by kernel_rfl) (by kernel_rfl) (fun _ _ _ h => h) (Or.inl ⟨by rfl, ?_⟩) hHeld ?_
      rotate_left
      · intro w hSw
        go_simp
        with_reducible rfl
      try go_frame
      refine wpAnyH_take (i := 5) (oi := ⟨some 73, _, _, _, _, _⟩) (v := ?_) rfl (by kernel_rfl) (by kernel_rfl) (by kernel_rfl) (fun _ _ _ h => h) (Or.inl ⟨by rfl, ?_⟩) hHeld ?_
      rotate_left
      · intro w hSw
        have hS1 := hSw
        go_simp
        with_reducible rfl
      try go_frame
      refine wpAnyH_ready (rs := [3]) (by kernel_rfl) (by simp) ?_
      refine AllReadyH.cons (o := ⟨some 71, _, _, _, _, _⟩) rfl (fun K hK => ?_) AllReadyH.nil
      go_simp
      go_at_call 11
      refine (RSTag_any p ek mk d raw HR.out _ w6d (HM.out.below hC) (HA.out.below hC)).mono ?_
      rintro e w6d_rt ⟨rfl, hb⟩
      replace hC := hC.trans (hb.mono hC.size)
      refine hK.out _ _ (HKeep.out _ hC) (fun hHeld => ?_)
      clear hK K hb 
      try go_frame
      refine wpAnyH_take (i := 6) (oi := ⟨some 74, _, _, _, _, _⟩) (v := ?_) rfl (by kernel_rfl) (by kernel_rfl) (by kernel_rfl) (fun _ _ _ h => h) (Or.inl ⟨by rfl, ?_⟩) hHeld ?_
      rotate_left
      · intro w hSw
        go_simp
        with_reducible rfl
      try go_frame
      refine wpAnyH_done (by kernel_rfl) ?_ _
      have hb := hC
      clear hC HKeep hHeld
      replace HC := Lib.hid (HC.out.trans (hb.mono HC.out.size))
      replace HT := Lib.hid (HT.out.below hb)
      clear hb
      generalize w6d_rt = w8 at *
      clear HX_TB HM HA
      try rw [show (strB (tg mk (nm d) raw) != strB ub) = true by rw [bne_iff_ne]; exact fun h => heq (strB_inj.1 h)]
      go_wp2_with fail
      refine (Sknows_any w8 HT.out).mono ?_
      rintro e w9 ⟨rfl, hb⟩
      replace HC := Lib.hid (HC.out.trans (hb.mono HC.out.size))
      clear hb
      go_wp2
      go_ret
      exact ⟨rfl, HC.out⟩
  · refine (SOpen_arg ek mk ks HK.out d raw hp _ ub us Hub.out w5 HO.out).mono ?_
    rintro e w6 ⟨rfl, hb⟩
    replace HC := Lib.hid (HC.out.trans (hb.mono HC.out.size))
    replace HT := Lib.hid (HT.out.below hb)
    replace HA := Lib.hid (HA.out.below hb)
    replace HO := Lib.hid (HO.out.below hb)
    clear hb
    have hn : n ≠ 72 := by rw [HNl.out]; exact hp
    have hc1 := conv_arg HO.out
    have hc2 := conv_arg HA.out
    clear HX_KB HX_TB HM
    go_wp2_with fail
    clear hc1 hc2
    refine (Sknows_any w6 HT.out).mono ?_
    rintro e w7 ⟨rfl, hb⟩
    replace HC := Lib.hid (HC.out.trans (hb.mono HC.out.size))
    clear hb
    go_wp2
    go_ret
    exact ⟨rfl, HC.out⟩
end Go.Proofs.YtfodblgoamkgmaaDoor
