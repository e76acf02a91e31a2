/-
  THE WALK of the law MerkleChecks.
-/
import Derived.Test.YtnlbhbacedbdoaaDoorML
import Derived.Deep.MidRow
namespace Go.Proofs.YtnlbhbacedbdoaaDoor
open Go.RowKit Mk

theorem flat_length (f : List Tg) (h4 : f.length = 4) (h32 : ∀ t ∈ f, t.length = 32) : f.flatten.length = 128 := by
  match f, h4 with
  | [a, b, c, d], _ =>
    have ha := h32 a (by simp)
    have hb := h32 b (by simp)
    have hc := h32 c (by simp)
    have hd := h32 d (by simp)
    simp only [List.flatten_cons, List.flatten_nil, List.length_append, List.length_nil]
    omega
theorem flat_sees {w : World} {b o : Nat} {f : List Tg} (h4 : f.length = 4) (h32 : ∀ t ∈ f, t.length = 32) (hs : ∀ i t, f[i]? = some t → Sees w b (o + 32 * i) (t.map V8)) : Sees w b o (f.flatten.map V8) := by
  match f, h4 with
  | [a, b', c, d], _ =>
    have ha := h32 a (by simp)
    have hb := h32 b' (by simp)
    have hc := h32 c (by simp)
    have s0 := hs 0 a rfl
    have s1 := hs 1 b' rfl
    have s2 := hs 2 c rfl
    have s3 := hs 3 d rfl
    intro j u hu
    simp only [List.flatten_cons, List.flatten_nil, List.append_nil, List.map_append] at hu
    rcases Nat.lt_or_ge j 32 with h | h
    · rw [List.getElem?_append_left (by rw [List.length_map]; omega)] at hu
      have := s0 j u hu
      rwa [Nat.mul_zero, Nat.add_zero] at this
    rw [List.getElem?_append_right (by rw [List.length_map]; omega), List.length_map, ha] at hu
    rcases Nat.lt_or_ge j 64 with h | h
    · rw [List.getElem?_append_left (by rw [List.length_map]; omega)] at hu
      have := s1 _ u hu
      rwa [show o + 32 * 1 + (j - 32) = o + j by omega] at this
    rw [List.getElem?_append_right (by rw [List.length_map]; omega), List.length_map, hb] at hu
    rcases Nat.lt_or_ge j 96 with h | h
    · rw [List.getElem?_append_left (by rw [List.length_map]; omega)] at hu
      have := s2 _ u hu
      rwa [show o + 32 * 2 + (j - 32 - 32) = o + j by omega] at this
    rw [List.getElem?_append_right (by rw [List.length_map]; omega), List.length_map, hc] at hu
    have := s3 _ u hu
    rwa [show o + 32 * 3 + (j - 32 - 32 - 32) = o + j by omega] at this
/-- The last four. -/
theorem Fours.last {w : World} {A : Option Addr} {n cap : Nat} {ws : List (List Tg)} (h : Fours w (.slice A n cap) ws) (hn : n = ws.length) (h0 : 0 < n) :
    ∃ (f : List Tg) (b o : Nat), A = some ⟨b, o, none⟩ ∧ b < w.heap.size ∧ Hid (f.length = 4) ∧ Hid (∀ t ∈ f, List.length t = 32) ∧ Sees w b (o + 128 * (n - 1)) (f.flatten.map V8) := by
  obtain ⟨h4, A', cap', e, hs⟩ := h
  injection e with e1 e2 e3
  subst e1
  obtain ⟨b, o, eA, hb, hs⟩ := hs (by omega)
  have hj : n - 1 < ws.length := by omega
  have hf := List.getElem?_eq_getElem hj
  obtain ⟨f4, f32⟩ := h4 _ (List.mem_of_getElem? hf)
  exact ⟨_, b, o, eA, hb, f4, f32, flat_sees f4 f32 (hs _ _ hf)⟩

set_option maxRecDepth 100000 in
set_option maxHeartbeats 2000000 in
theorem MChecks_any (C : Merkle) (key : Tg) (ws : List (List Tg)) (v0 x : Value) (d : Int) (hd1 : -9223372036854775808 ≤ d) (hd2 : d ≤ 9223372036854775807) (leaf rt : Tg) (ls rs : List Value) (hl : Vec 32 leaf ls) (hr : Vec 32 rt rs) (w : World) (hT : Hm.Tab w) (h0 : Arg w v0 key) (h1 : Fours w x ws) :
    Calls Tryd.prog 4 #[v0, x, .int .i64 d, .agg ls.toArray, .agg rs.toArray] w fun e w' => e = .returned (.bool true) ∧ Below w.heap.size w w' := by
  obtain ⟨A0, c0, rfl⟩ := h0.form
  obtain ⟨A1, c1, rfl⟩ : ∃ A c, x = .slice A ws.length c := by obtain ⟨_, A, c, e, _⟩ := h1; exact ⟨A, c, e⟩
  obtain ⟨n0, hn0⟩ : ∃ n, n = key.length := ⟨_, rfl⟩
  obtain ⟨n, hnl⟩ : ∃ n, n = ws.length := ⟨_, rfl⟩
  rw [← hn0] at h0 ⊢
  rw [← hnl] at h1 ⊢
  have HN0 := Lib.hid hn0
  have HNl := Lib.hid hnl
  have HL := Lib.hid hl
  have HRt := Lib.hid hr
  have Hlz : Hid (ls.toArray.size = 32) := hl.size
  have Hrz : Hid (rs.toArray.size = 32) := hr.size
  have HW4 : Hid (∀ f ∈ ws, f.length = 4) := fun f hf => (h1.1 f hf).1
  have HWs : Hid (∀ f ∈ ws, ∀ t ∈ f, t.length ≤ 1000) := fun f hf t ht => by rw [(h1.1 f hf).2 t ht]; omega
  have hz := Hm.zeroTag
  obtain ⟨w0, hw0⟩ : ∃ w0, w0 = (w.alloc (.cells ls.toArray 30)).alloc (.cells rs.toArray 30) := ⟨_, rfl⟩
  have HC : Hid (Below w.heap.size w w0) := by rw [hw0]; exact ((Below.refl _ _).alloc (Nat.le_refl _) _).alloc (by simp) _
  have HX_L : Hid (Row w0 w.heap.size 30 ls) := by rw [hw0]; exact (Row.new w 30 ls).alloc _
  have HX_R : Hid (Row w0 (w.heap.size + 1) 30 rs) := by rw [hw0]; exact Row.newAt 30 rs (by simp)
  have HT : Hid (Hm.Tab w0) := hT.below HC.out
  have HA : Hid (Arg w0 (.slice A0 n0 c0) key) := h0.below HC.out
  have HW : Hid (Fours w0 (.slice A1 n c1) ws) := h1.below HC.out
  have hi1 : (Tryd.prog.info? 30).map (·.size) = some ls.length := by rw [hl.len]; kernel_rfl
  have hi2 : (Tryd.prog.info? 30).map (·.size) = some rs.length := by rw [hr.len]; kernel_rfl
  clear hn0 hnl hl hr hT h0 h1
  rcases Nat.lt_or_ge 100 n0 with hl0 | hl0
  · go_enter Tryd.func4, Tryd.ntmps4
    go_wp2_with fail
    rw [← hw0]
    refine (Mknows_any C w0 HT.out).mono ?_
    rintro e w1 ⟨rfl, hb⟩
    replace HC := Lib.hid (HC.out.trans (hb.mono HC.out.size))
    go_wp2
    go_ret
    exact ⟨rfl, HC.out⟩
  rcases Nat.lt_or_ge 6 n with hl1 | hl1
  · go_enter Tryd.func4, Tryd.ntmps4
    go_wp2_with fail
    rw [← hw0]
    refine (Mknows_any C w0 HT.out).mono ?_
    rintro e w1 ⟨rfl, hb⟩
    replace HC := Lib.hid (HC.out.trans (hb.mono HC.out.size))
    go_wp2
    go_ret
    exact ⟨rfl, HC.out⟩
  have HKl : Hid (key.length ≤ 1000) := by show _ ≤ _; rw [← HN0.out]; omega
  have HWl : Hid (ws.length ≤ 100) := by show _ ≤ _; rw [← HNl.out]; omega
  go_enter Tryd.func4, Tryd.ntmps4
  go_wp2_with fail
  rw [← hw0]
  clear hw0
  refine (Hm.New_any _ key (by have := HKl.out; omega) w0 HA.out).mono ?_
  rintro e w1 ⟨pm, rfl, hk1, hb⟩
  obtain ⟨gm, rb, rc, cb, cc, rfl, hin⟩ := hk1.named
  have HKM := Lib.hid hk1
  clear hin hk1
  replace HC := Lib.hid (HC.out.trans (hb.mono HC.out.size))
  replace HT := Lib.hid (HT.out.below hb)
  replace HA := Lib.hid (HA.out.below hb)
  replace HW := Lib.hid (HW.out.below hb)
  replace HX_L := Lib.hid (HX_L.out.below hb HX_L.out.lt)
  replace HX_R := Lib.hid (HX_R.out.below hb HX_R.out.lt)
  clear hb
  go_wp2_with fail
  refine (Mways_any ws (by have := HWl.out; omega) _ w1 HW.out).mono ?_
  rintro e w3 ⟨⟨r, rfl, HR⟩, hb⟩
  obtain ⟨Ar, cr, rfl⟩ := HR.out.form
  replace HC := Lib.hid (HC.out.trans (hb.mono HC.out.size))
  replace HT := Lib.hid (HT.out.below hb)
  replace HA := Lib.hid (HA.out.below hb)
  replace HW := Lib.hid (HW.out.below hb)
  replace HKM := Lib.hid (HKM.out.below hb)
  replace HX_L := Lib.hid (HX_L.out.below hb HX_L.out.lt)
  replace HX_R := Lib.hid (HX_R.out.below hb HX_R.out.lt)
  clear hb
  have HKeep : Hid (∀ W, Below w3.heap.size w3 W → W.rangeAt w.heap.size 0 ls ∧ W.rangeAt (w.heap.size + 1) 0 rs ∧ (convert 22 9 (.slice (some ⟨w.heap.size, 0, none⟩) 32 32)).run Tryd.prog W = .ok (.string (strB leaf)) W ∧ (convert 22 9 (.slice (some ⟨(w.heap.size + 1), 0, none⟩) 32 32)).run Tryd.prog W = .ok (.string (strB rt)) W) := fun W hW => ⟨(HX_L.out.below hW HX_L.out.lt).sees, (HX_R.out.below hW HX_R.out.lt).sees, conv_arg ((HL.out.row (HX_L.out.below hW HX_L.out.lt)).arg 32 HL.out.2), conv_arg ((HRt.out.row (HX_R.out.below hW HX_R.out.lt)).arg 32 HRt.out.2)⟩
  go_wp2
  have hC : Below w3.heap.size w3 w3.drew := below_drewN (Below.refl _ _) 1
  refine wp_region_held_drew (S := (fun W => W.rangeAt w.heap.size 0 ls ∧ W.rangeAt (w.heap.size + 1) 0 rs ∧ (convert 22 9 (.slice (some ⟨w.heap.size, 0, none⟩) 32 32)).run Tryd.prog W = .ok (.string (strB leaf)) W ∧ (convert 22 9 (.slice (some ⟨(w.heap.size + 1), 0, none⟩) 32 32)).run Tryd.prog W = .ok (.string (strB rt)) W)) (by kernel_rfl) (HKeep.out _ hC) (fun hHeld => ?_)
  generalize w3.drew = w3d at *
  refine wpAnyH_take (i := 0) (oi := ⟨some 27, _, _, _, _, _⟩) (v := ?_) rfl (by kernel_rfl) (by kernel_rfl) (by kernel_rfl) (fun _ _ _ h => h) (Or.inl ⟨by rfl, ?_⟩) hHeld ?_
  rotate_left
  · intro w hSw
    go_simp
    with_reducible rfl
  try go_frame
  refine wpAnyH_take (i := 1) (oi := ⟨some 28, _, _, _, _, _⟩) (v := ?_) rfl (by kernel_rfl) (by kernel_rfl) (by kernel_rfl) (fun _ _ _ h => h) (Or.inl ⟨by rfl, ?_⟩) hHeld ?_
  rotate_left
  · intro w hSw
    go_simp
    with_reducible rfl
  try go_frame
  refine wpAnyH_take (i := 2) (oi := ⟨some 29, _, _, _, _, _⟩) (v := ?_) rfl (by kernel_rfl) (by kernel_rfl) (by kernel_rfl) (fun _ _ _ h => h) (Or.inl ⟨by rfl, ?_⟩) hHeld ?_
  rotate_left
  · intro w hSw
    go_simp
    with_reducible rfl
  try go_frame
  refine wpAnyH_take (i := 3) (oi := ⟨some 30, _, _, _, _, _⟩) (v := .agg (ls).toArray) rfl (by kernel_rfl) (by kernel_rfl) (by kernel_rfl) (fun _ _ _ h => h) (yieldsIf_load_mid (by rfl) 30 (.tmp 8) rfl (w.heap.size) 0 rfl (ls) _ (fun W h => h.1) Tryd.underlying30 rfl hi1) hHeld ?_
  try go_frame
  refine wpAnyH_take (i := 4) (oi := ⟨some 31, _, _, _, _, _⟩) (v := .agg (rs).toArray) rfl (by kernel_rfl) (by kernel_rfl) (by kernel_rfl) (fun _ _ _ h => h) (yieldsIf_load_mid (by rfl) 30 (.tmp 9) rfl (w.heap.size + 1) 0 rfl (rs) _ (fun W h => h.2.1) Tryd.underlying30 rfl hi2) hHeld ?_
  try go_frame
  refine wpAnyH_take (i := 6) (oi := ⟨some 33, _, _, _, _, _⟩) (v := ?_) rfl (by kernel_rfl) (by kernel_rfl) (by kernel_rfl) (fun _ _ _ h => h) (Or.inl ⟨by rfl, ?_⟩) hHeld ?_
  rotate_left
  · intro w hSw
    go_simp
    with_reducible rfl
  try go_frame
  refine wpAnyH_take (i := 7) (oi := ⟨some 34, _, _, _, _, _⟩) (v := ?_) rfl (by kernel_rfl) (by kernel_rfl) (by kernel_rfl) (fun _ _ _ h => h) (Or.inl ⟨by rfl, ?_⟩) hHeld ?_
  rotate_left
  · intro w hSw
    go_simp
    with_reducible rfl
  try go_frame
  refine wpAnyH_take (i := 8) (oi := ⟨some 35, _, _, _, _, _⟩) (v := ?_) rfl (by kernel_rfl) (by kernel_rfl) (by kernel_rfl) (fun _ _ _ h => h) (Or.inl ⟨by rfl, ?_⟩) hHeld ?_
  rotate_left
  · intro w hSw
    go_simp
    with_reducible rfl
  try go_frame
  refine wpAnyH_take (i := 9) (oi := ⟨some 36, _, _, _, _, _⟩) (v := ?_) rfl (by kernel_rfl) (by kernel_rfl) (by kernel_rfl) (fun _ _ _ h => h) (Or.inl ⟨by rfl, ?_⟩) hHeld ?_
  rotate_left
  · intro w hSw
    go_simp
    with_reducible rfl
  try go_frame
  refine wpAnyH_take (i := 10) (oi := ⟨some 37, _, _, _, _, _⟩) (v := ?_) rfl (by kernel_rfl) (by kernel_rfl) (by kernel_rfl) (fun _ _ _ h => h) (Or.inl ⟨by rfl, ?_⟩) hHeld ?_
  rotate_left
  · intro w hSw
    obtain ⟨hS1, hS2, hS3, hS4⟩ := hSw
    go_simp
    with_reducible rfl
  try go_frame
  refine wpAnyH_take (i := 11) (oi := ⟨some 38, _, _, _, _, _⟩) (v := ?_) rfl (by kernel_rfl) (by kernel_rfl) (by kernel_rfl) (fun _ _ _ h => h) (Or.inl ⟨by rfl, ?_⟩) hHeld ?_
  rotate_left
  · intro w hSw
    go_simp
    with_reducible rfl
  try go_frame
  refine wpAnyH_take (i := 12) (oi := ⟨some 39, _, _, _, _, _⟩) (v := ?_) rfl (by kernel_rfl) (by kernel_rfl) (by kernel_rfl) (fun _ _ _ h => h) (Or.inl ⟨by rfl, ?_⟩) hHeld ?_
  rotate_left
  · intro w hSw
    obtain ⟨hS1, hS2, hS3, hS4⟩ := hSw
    go_simp
    with_reducible rfl
  try go_frame
  refine wpAnyH_ready (rs := [5]) (by kernel_rfl) (by simp) ?_
  refine AllReadyH.cons (o := ⟨some 32, _, _, _, _, _⟩) rfl (fun K hK => ?_) AllReadyH.nil
  go_simp
  go_at_call 17
  refine (C.check key ws _ _ d leaf rt ls rs w3d HKl.out HWl.out hd1 hd2 HL.out HRt.out (HT.out.below hC) (HA.out.below hC) (HW.out.below hC)).mono ?_
  rintro e w3d_pc ⟨rfl, hb⟩
  replace hC := hC.trans (hb.mono hC.size)
  refine hK.out _ _ (HKeep.out _ hC) (fun hHeld => ?_)
  clear hK K hb 
  try go_frame
  refine wpAnyH_ready (rs := [13]) (by kernel_rfl) (by simp) ?_
  refine AllReadyH.cons (o := ⟨some 40, _, _, _, _, _⟩) rfl (fun K hK => ?_) AllReadyH.nil
  go_simp
  go_at_call 18
  refine (RMCheck_any _ key ws HW4.out HWs.out (by have := HWl.out; omega) d leaf rt _ w3d_pc (HKM.out.below hC) (HR.out.below hC) (by omega)).mono ?_
  rintro e w3d_pc_rc ⟨rfl, hb⟩
  replace hC := hC.trans (hb.mono hC.size)
  refine hK.out _ _ (HKeep.out _ hC) (fun hHeld => ?_)
  clear hK K hb 
  try go_frame
  refine wpAnyH_take (i := 14) (oi := ⟨some 41, _, _, _, _, _⟩) (v := ?_) rfl (by kernel_rfl) (by kernel_rfl) (by kernel_rfl) (fun _ _ _ h => h) (Or.inl ⟨by rfl, ?_⟩) hHeld ?_
  rotate_left
  · intro w hSw
    go_simp
    with_reducible rfl
  try go_frame
  refine wpAnyH_done (by kernel_rfl) ?_ _
  have hb := hC
  clear hC HKeep hHeld
  replace HC := Lib.hid (HC.out.trans (hb.mono HC.out.size))
  replace HT := Lib.hid (HT.out.below hb)
  replace HA := Lib.hid (HA.out.below hb)
  replace HW := Lib.hid (HW.out.below hb)
  replace HKM := Lib.hid (HKM.out.below hb)
  replace HR := Lib.hid (HR.out.below hb)
  replace HX_L := Lib.hid (HX_L.out.below hb HX_L.out.lt)
  clear hb
  generalize w3d_pc_rc = w5 at *
  clear HX_R
  rcases Nat.eq_zero_or_pos n with h0 | h0
  · subst h0
    go_wp2_with fail
    refine (Mknows_any C w5 HT.out).mono ?_
    rintro e w6 ⟨rfl, hb⟩
    replace HC := Lib.hid (HC.out.trans (hb.mono HC.out.size))
    clear hb
    go_wp2
    go_ret
    exact ⟨rfl, HC.out⟩
  · obtain ⟨fl, b, o, rfl, hb0, Hfl, Hfm, hsee⟩ := HW.out.last HNl.out h0
    have HSf := Lib.hid hsee
    clear hsee
    have Hne : Hid (n ≠ 0) := by show _ ≠ _; omega
    have hn0 : ((n : Int) == 0) = false := by simp; omega
    have e1 : (n : Int) - 1 = ((n - 1 : Nat) : Int) := by omega
    obtain ⟨cs4, Hcs⟩ : ∃ cs, Hid (cs = fl.flatten.map V8) := ⟨_, rfl⟩
    have hi4 : (Tryd.prog.info? 48).map (·.size) = some cs4.length := by rw [Hcs.out, List.length_map, flat_length fl Hfl.out (fun t ht => Hfm.out t ht)]; kernel_rfl
    rw [← Hcs.out] at HSf
    obtain ⟨q, Hq⟩ : ∃ q, Hid (q = n - 1) := ⟨_, rfl⟩
    rw [← Hq.out] at e1 HSf
    have hqn : q < n := by have := Hq.out; omega
    have HB1 := Lib.hid h0
    clear h0
    have HSf2 : Hid (w5.rangeAt b (o + q * 128) cs4) := by rw [Nat.mul_comm]; exact HSf.out
    go_wp2_with (refine wpList_load_mid rfl 48 (.tmp 51) rfl b (o + q * 128) rfl cs4 _ HSf2.out Tryd.underlying48 rfl hi4 ?_)
    refine (C.node key fl _ cs4 w5 HKl.out Hfl.out Hfm.out Hcs.out HT.out HA.out).mono ?_
    rintro e w6 ⟨⟨ts, Htv, rfl⟩, hb⟩
    replace HC := Lib.hid (HC.out.trans (hb.mono HC.out.size))
    replace HT := Lib.hid (HT.out.below hb)
    replace HA := Lib.hid (HA.out.below hb)
    replace HW := Lib.hid (HW.out.below hb)
    replace HKM := Lib.hid (HKM.out.below hb)
    replace HR := Lib.hid (HR.out.below hb)
    replace HX_L := Lib.hid (HX_L.out.below hb HX_L.out.lt)
    clear hb
    have Hts : Hid (ts.toArray.size = 32) := Htv.out.size
    have Hto : Hid (ts.toArray.all (·.oneCell') = true) := Htv.out.one
    go_wp2_with (refine wpList_store_row rfl 30 (.tmp 13) (.tmp 53) rfl w6.heap.size ts.toArray rfl rfl 30 _ (Row.new w6 _ Hm.Z32) (by rw [Hts.out]; kernel_rfl) (by rw [Hts.out]; rfl) Hto.out ?_)
    have HX_T : Hid (Row ((w6.alloc (.cells Hm.Z32.toArray 30)).setRow w6.heap.size ts.toArray) w6.heap.size 30 ts) := (Row.new w6 30 Hm.Z32).whole ts
    have hb : Below w6.heap.size w6 ((w6.alloc (.cells Hm.Z32.toArray 30)).setRow w6.heap.size ts.toArray) := below_setRow' ((Below.refl _ _).alloc (Nat.le_refl _) _) (Nat.le_refl _) _
    obtain ⟨T, hT⟩ : ∃ X, X = w6.heap.size := ⟨_, rfl⟩
    have hb2 : Below w6.heap.size w6 ((w6.alloc (.cells Hm.Z32.toArray 30)).setRow T ts.toArray) := by rw [hT]; exact hb
    rw [← hT] at HX_T ⊢
    clear hb hT
    generalize ((w6.alloc (.cells Hm.Z32.toArray 30)).setRow T ts.toArray) = w7 at *
    have hb := hb2
    clear hb2
    replace HC := Lib.hid (HC.out.trans (hb.mono HC.out.size))
    replace HT := Lib.hid (HT.out.below hb)
    replace HA := Lib.hid (HA.out.below hb)
    replace HW := Lib.hid (HW.out.below hb)
    replace HKM := Lib.hid (HKM.out.below hb)
    replace HR := Lib.hid (HR.out.below hb)
    replace HX_L := Lib.hid (HX_L.out.below hb HX_L.out.lt)
    clear hb
    have HKeep : Hid (∀ W, Below w7.heap.size w7 W → W.rangeAt w.heap.size 0 ls ∧ W.rangeAt T 0 ts ∧ (convert 22 9 (.slice (some ⟨w.heap.size, 0, none⟩) 32 32)).run Tryd.prog W = .ok (.string (strB leaf)) W ∧ (convert 22 9 (.slice (some ⟨T, 0, none⟩) 32 32)).run Tryd.prog W = .ok (.string (strB (node key fl))) W) := fun W hW => ⟨(HX_L.out.below hW HX_L.out.lt).sees, (HX_T.out.below hW HX_T.out.lt).sees, conv_arg ((HL.out.row (HX_L.out.below hW HX_L.out.lt)).arg 32 HL.out.2), conv_arg ((Htv.out.row (HX_T.out.below hW HX_T.out.lt)).arg 32 Htv.out.2)⟩
    have hi3 : (Tryd.prog.info? 30).map (·.size) = some ts.length := by rw [Htv.out.len]; kernel_rfl
    go_wp2
    have hC : Below w7.heap.size w7 w7.drew := below_drewN (Below.refl _ _) 1
    refine wp_region_held_drew (S := (fun W => W.rangeAt w.heap.size 0 ls ∧ W.rangeAt T 0 ts ∧ (convert 22 9 (.slice (some ⟨w.heap.size, 0, none⟩) 32 32)).run Tryd.prog W = .ok (.string (strB leaf)) W ∧ (convert 22 9 (.slice (some ⟨T, 0, none⟩) 32 32)).run Tryd.prog W = .ok (.string (strB (node key fl))) W)) (by kernel_rfl) (HKeep.out _ hC) (fun hHeld => ?_)
    generalize w7.drew = w7d at *
    refine wpAnyH_take (i := 0) (oi := ⟨some 54, _, _, _, _, _⟩) (v := ?_) rfl (by kernel_rfl) (by kernel_rfl) (by kernel_rfl) (fun _ _ _ h => h) (Or.inl ⟨by rfl, ?_⟩) hHeld ?_
    rotate_left
    · intro w hSw
      go_simp
      with_reducible rfl
    try go_frame
    refine wpAnyH_take (i := 1) (oi := ⟨some 55, _, _, _, _, _⟩) (v := ?_) rfl (by kernel_rfl) (by kernel_rfl) (by kernel_rfl) (fun _ _ _ h => h) (Or.inl ⟨by rfl, ?_⟩) hHeld ?_
    rotate_left
    · intro w hSw
      go_simp
      with_reducible rfl
    try go_frame
    refine wpAnyH_take (i := 2) (oi := ⟨some 56, _, _, _, _, _⟩) (v := ?_) rfl (by kernel_rfl) (by kernel_rfl) (by kernel_rfl) (fun _ _ _ h => h) (Or.inl ⟨by rfl, ?_⟩) hHeld ?_
    rotate_left
    · intro w hSw
      go_simp
      with_reducible rfl
    try go_frame
    refine wpAnyH_take (i := 3) (oi := ⟨some 57, _, _, _, _, _⟩) (v := .agg (ls).toArray) rfl (by kernel_rfl) (by kernel_rfl) (by kernel_rfl) (fun _ _ _ h => h) (yieldsIf_load_mid (by rfl) 30 (.tmp 8) rfl (w.heap.size) 0 rfl (ls) _ (fun W h => h.1) Tryd.underlying30 rfl hi1) hHeld ?_
    try go_frame
    refine wpAnyH_take (i := 4) (oi := ⟨some 58, _, _, _, _, _⟩) (v := .agg (ts).toArray) rfl (by kernel_rfl) (by kernel_rfl) (by kernel_rfl) (fun _ _ _ h => h) (yieldsIf_load_mid (by rfl) 30 (.tmp 13) rfl (T) 0 rfl (ts) _ (fun W h => h.2.1) Tryd.underlying30 rfl hi3) hHeld ?_
    try go_frame
    refine wpAnyH_take (i := 6) (oi := ⟨some 60, _, _, _, _, _⟩) (v := ?_) rfl (by kernel_rfl) (by kernel_rfl) (by kernel_rfl) (fun _ _ _ h => h) (Or.inl ⟨by rfl, ?_⟩) hHeld ?_
    rotate_left
    · intro w hSw
      go_simp
      with_reducible rfl
    try go_frame
    refine wpAnyH_take (i := 7) (oi := ⟨some 61, _, _, _, _, _⟩) (v := ?_) rfl (by kernel_rfl) (by kernel_rfl) (by kernel_rfl) (fun _ _ _ h => h) (Or.inl ⟨by rfl, ?_⟩) hHeld ?_
    rotate_left
    · intro w hSw
      go_simp
      with_reducible rfl
    try go_frame
    refine wpAnyH_take (i := 8) (oi := ⟨some 62, _, _, _, _, _⟩) (v := ?_) rfl (by kernel_rfl) (by kernel_rfl) (by kernel_rfl) (fun _ _ _ h => h) (Or.inl ⟨by rfl, ?_⟩) hHeld ?_
    rotate_left
    · intro w hSw
      go_simp
      with_reducible rfl
    try go_frame
    refine wpAnyH_take (i := 9) (oi := ⟨some 63, _, _, _, _, _⟩) (v := ?_) rfl (by kernel_rfl) (by kernel_rfl) (by kernel_rfl) (fun _ _ _ h => h) (Or.inl ⟨by rfl, ?_⟩) hHeld ?_
    rotate_left
    · intro w hSw
      go_simp
      with_reducible rfl
    try go_frame
    refine wpAnyH_take (i := 10) (oi := ⟨some 64, _, _, _, _, _⟩) (v := ?_) rfl (by kernel_rfl) (by kernel_rfl) (by kernel_rfl) (fun _ _ _ h => h) (Or.inl ⟨by rfl, ?_⟩) hHeld ?_
    rotate_left
    · intro w hSw
      obtain ⟨hS1, hS2, hS3, hS4⟩ := hSw
      go_simp
      with_reducible rfl
    try go_frame
    refine wpAnyH_take (i := 11) (oi := ⟨some 65, _, _, _, _, _⟩) (v := ?_) rfl (by kernel_rfl) (by kernel_rfl) (by kernel_rfl) (fun _ _ _ h => h) (Or.inl ⟨by rfl, ?_⟩) hHeld ?_
    rotate_left
    · intro w hSw
      go_simp
      with_reducible rfl
    try go_frame
    refine wpAnyH_take (i := 12) (oi := ⟨some 66, _, _, _, _, _⟩) (v := ?_) rfl (by kernel_rfl) (by kernel_rfl) (by kernel_rfl) (fun _ _ _ h => h) (Or.inl ⟨by rfl, ?_⟩) hHeld ?_
    rotate_left
    · intro w hSw
      obtain ⟨hS1, hS2, hS3, hS4⟩ := hSw
      go_simp
      with_reducible rfl
    try go_frame
    refine wpAnyH_ready (rs := [5]) (by kernel_rfl) (by simp) ?_
    refine AllReadyH.cons (o := ⟨some 59, _, _, _, _, _⟩) rfl (fun K hK => ?_) AllReadyH.nil
    go_simp
    go_at_call 17
    refine (C.check key ws _ _ d leaf (node key fl) ls ts w7d HKl.out HWl.out hd1 hd2 HL.out Htv.out (HT.out.below hC) (HA.out.below hC) (HW.out.below hC)).mono ?_
    rintro e w7d_pc ⟨rfl, hb⟩
    replace hC := hC.trans (hb.mono hC.size)
    refine hK.out _ _ (HKeep.out _ hC) (fun hHeld => ?_)
    clear hK K hb 
    try go_frame
    refine wpAnyH_ready (rs := [13]) (by kernel_rfl) (by simp) ?_
    refine AllReadyH.cons (o := ⟨some 67, _, _, _, _, _⟩) rfl (fun K hK => ?_) AllReadyH.nil
    go_simp
    go_at_call 18
    refine (RMCheck_any _ key ws HW4.out HWs.out (by have := HWl.out; omega) d leaf (node key fl) _ w7d_pc (HKM.out.below hC) (HR.out.below hC) (by omega)).mono ?_
    rintro e w7d_pc_rc ⟨rfl, hb⟩
    replace hC := hC.trans (hb.mono hC.size)
    refine hK.out _ _ (HKeep.out _ hC) (fun hHeld => ?_)
    clear hK K hb 
    try go_frame
    refine wpAnyH_take (i := 14) (oi := ⟨some 68, _, _, _, _, _⟩) (v := ?_) rfl (by kernel_rfl) (by kernel_rfl) (by kernel_rfl) (fun _ _ _ h => h) (Or.inl ⟨by rfl, ?_⟩) hHeld ?_
    rotate_left
    · intro w hSw
      go_simp
      with_reducible rfl
    try go_frame
    refine wpAnyH_take (i := 15) (oi := ⟨some 69, _, _, _, _, _⟩) (v := ?_) rfl (by kernel_rfl) (by kernel_rfl) (by kernel_rfl) (fun _ _ _ h => h) (Or.inl ⟨by rfl, ?_⟩) hHeld ?_
    rotate_left
    · intro w hSw
      go_simp
      with_reducible rfl
    try go_frame
    refine wpAnyH_ready (rs := [16]) (by kernel_rfl) (by simp) ?_
    refine AllReadyH.cons (o := ⟨some 70, _, _, _, _, _⟩) rfl (fun K hK => ?_) AllReadyH.nil
    go_simp
    go_at_call 6
    refine (Mknows_any C w7d_pc_rc (HT.out.below hC)).mono ?_
    rintro e w7d_pc_rc_kn ⟨rfl, hb⟩
    replace hC := hC.trans (hb.mono hC.size)
    refine hK.out _ _ (HKeep.out _ hC) (fun hHeld => ?_)
    clear hK K hb 
    try go_frame
    refine wpAnyH_take (i := 17) (oi := ⟨some 71, _, _, _, _, _⟩) (v := ?_) rfl (by kernel_rfl) (by kernel_rfl) (by kernel_rfl) (fun _ _ _ h => h) (Or.inl ⟨by rfl, ?_⟩) hHeld ?_
    rotate_left
    · intro w hSw
      go_simp
      with_reducible rfl
    try go_frame
    refine wpAnyH_take (i := 18) (oi := ⟨some 10, _, _, _, _, _⟩) (v := ?_) rfl (by kernel_rfl) (by kernel_rfl) (by kernel_rfl) (fun _ _ _ h => h) (Or.inl ⟨by rfl, ?_⟩) hHeld ?_
    rotate_left
    · intro w hSw
      go_simp
      with_reducible rfl
    try go_frame
    refine wpAnyH_done (by kernel_rfl) ?_ _
    have HF := Lib.hid (HC.out.trans (hC.mono HC.out.size))
    clear hC HKeep hHeld
    go_wp2
    go_ret
    exact ⟨rfl, HF.out⟩
end Go.Proofs.YtnlbhbacedbdoaaDoor
