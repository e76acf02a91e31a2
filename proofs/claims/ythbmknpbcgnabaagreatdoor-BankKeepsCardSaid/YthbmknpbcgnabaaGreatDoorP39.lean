/-
  OF THE WALK: VR.
-/
import Derived.Test.YthbmknpbcgnabaaGreatDoorP38
namespace Go.Proofs.YthbmknpbcgnabaaGreatDoor
open Go.RowKit Aes Ctr Sl Dsk
set_option maxRecDepth 100000 in
set_option maxHeartbeats 1000000 in
theorem Jread_ok {w : World} {P d T : Nat} {ek mk : List UInt8} {s : Bk.Bn} {ks : List Value} {FT G : Nat → Prop} {nx : Value} {S : List Bool} {V : Nat} {D : List Blk} (h : HeadL w P d ek mk s ks T FT nx S V) (hD : DiskAt w G d D) (i : Nat) (hi : i < s.n) (hl : D.length = 2 * s.n) (cur : List UInt8) (hcur : cur = Bk.curAt D (s.bank * s.n + i)) (hc72 : cur.length = 72) {plain : List UInt8} {u : Int}
    (hOp : ∀ (W : World) (x : Value) (ts : List Value), Below w.heap.size w W → Arg W x cur → Vec 32 (s.tags.getD i []) ts → Calls Tryz.prog 53 #[.agg ks.toArray, IV i, x, .agg ts.toArray] W fun e w' => ∃ g, e = .returned (.tuple #[.slice (some ⟨g, 0, none⟩) 64 64, .int .u64 u, .int .i64 0]) ∧ W.heap.size ≤ g ∧ Hid (Row w' g 5 (plain.map V8)) ∧ Below W.heap.size W w') :
    Calls Tryz.prog 21 #[PT P, IV i] w fun e w' => ∃ g, e = .returned (.tuple #[.slice (some ⟨g, 0, none⟩) 64 64, .int .i64 0]) ∧ w.heap.size ≤ g ∧ Hid (Row w' g 5 (plain.map V8)) ∧ Below w.heap.size w w' := by
  have hkl := h.kl
  have hn100 := h.n100
  have HSz := Lib.hid (Jsize_any h)
  have HH := Lib.hid h
  have HGt := Lib.hid (fun W (hW : Below w.heap.size w W) => Mr.treeAll.getOk (h.below hW).tree i (by rw [h.tl]; exact hi))
  have HRw := Lib.hid (fun W (hW : Below w.heap.size w W) => Jraw_any (h.below hW) (hD.below hW) i hi hl)
  rw [← hcur] at HRw
  obtain ⟨tag, htag⟩ : ∃ t, t = s.tags.getD i [] := ⟨_, rfl⟩
  rw [← htag] at HGt hOp
  obtain ⟨n, hn⟩ : ∃ x, x = s.n := ⟨_, rfl⟩
  rw [← hn] at HSz hi
  have HOp := Lib.hid hOp
  have HC72 := Lib.hid hc72
  have Hin : Hid ((i : Int) < (n : Int)) := by show _ < _; omega
  have H0i : Hid (¬ (i : Int) < 0) := by show ¬ _; omega
  have hi1 : (Tryz.prog.info? 29).map (·.size) = some ks.length := by rw [hkl]; kernel_rfl
  have hz := Hm.zeroTag
  clear h hD hl hcur hOp hc72 hkl hn100 htag hn hi
  go_enter Tryz.func21, Tryz.ntmps21
  have hin := Hin.out
  have h0 := H0i.out
  go_wp2_with fail
  refine HSz.out.mono ?_
  rintro e w1 ⟨rfl, hb1⟩
  have HB1 := Lib.hid hb1
  have HG1 := Lib.hid (HGt.out w1 hb1)
  have hc83 := (HH.out.below hb1).at_.cells.2.2.2.1
  clear HSz HGt hb1
  go_wp2_with fail
  refine HG1.out.mono ?_
  rintro e w2 ⟨⟨ts, Hts, rfl⟩, hb2⟩
  have HB2 := Lib.hid (HB1.out.trans (hb2.mono HB1.out.size))
  have Hsz : Hid (ts.toArray.size = 32) := Hts.out.size
  have Hone : Hid (ts.toArray.all (·.oneCell') = true) := Hts.out.one
  clear HG1 HB1 hb2 hc83 w1
  obtain ⟨w3, hw3⟩ : ∃ W, W = w2.alloc (.cells Hm.Z32.toArray 27) := ⟨_, rfl⟩
  have HZ3 : Hid (Row w3 w2.heap.size 27 Hm.Z32) := by rw [hw3]; exact Row.new w2 27 Hm.Z32
  have HB3 : Hid (Below w.heap.size w w3) := by rw [hw3]; exact HB2.out.alloc HB2.out.size _
  have HZ4 := Lib.hid (HZ3.out.whole ts)
  have HB4 : Hid (Below w.heap.size w (w3.setRow w2.heap.size ts.toArray)) := below_setRow' HB3.out HB2.out.size _
  go_wp2_with (rw [← hw3]; clear hw3; refine wpList_store_row rfl 27 (.tmp 6) (.tmp 26) rfl w2.heap.size ts.toArray rfl rfl 27 _ HZ3.out (by rw [Hsz.out]; kernel_rfl) (by rw [Hsz.out]; rfl) Hone.out ?_)
  generalize w3.setRow w2.heap.size ts.toArray = w4 at *
  generalize w2.heap.size = g_tg at *
  have hi2 : (Tryz.prog.info? 27).map (·.size) = some ts.length := by rw [← List.size_toArray, Hsz.out]; kernel_rfl
  have up : Hid (∀ W, Below w4.heap.size w4 W → Below w.heap.size w W) := fun W hW => HB4.out.trans (hW.mono HB4.out.size)
  have HKeep : Hid (∀ W, Below w4.heap.size w4 W → W.rangeAt P 1 ks ∧ W.rangeAt g_tg 0 ts) := fun W hW => ⟨(HH.out.below (up.out W hW)).at_.ks.1, range_row (HZ4.out.below hW HZ4.out.lt)⟩
  clear HZ3 HB3 HB2 hin h0
  clear HZ4 HH
  have hC : Below w4.heap.size w4 w4.drew := below_drewN (Below.refl _ _) 1
  refine wp_region_held_drew (S := (fun W => W.rangeAt P 1 ks ∧ W.rangeAt g_tg 0 ts)) (by kernel_rfl) (HKeep.out _ hC) (fun hHeld => ?_)
  generalize w4.drew = w4d at *
  refine wpAnyH_take (i := 0) (oi := ⟨some 29, _, _, _, _, _⟩) (v := ?_) rfl (by kernel_rfl) (by kernel_rfl) (by kernel_rfl) (fun _ _ _ h => h) (Or.inl ⟨by rfl, ?_⟩) hHeld ?_
  rotate_left
  · intro w hSw
    go_simp
    with_reducible rfl
  try go_frame
  refine wpAnyH_take (i := 1) (oi := ⟨some 30, _, _, _, _, _⟩) (v := ?_) rfl (by kernel_rfl) (by kernel_rfl) (by kernel_rfl) (fun _ _ _ h => h) (Or.inl ⟨by rfl, ?_⟩) hHeld ?_
  rotate_left
  · intro w hSw
    go_simp
    with_reducible rfl
  try go_frame
  refine wpAnyH_take (i := 2) (oi := ⟨some 31, _, _, _, _, _⟩) (v := ?_) rfl (by kernel_rfl) (by kernel_rfl) (by kernel_rfl) (fun _ _ _ h => h) (Or.inl ⟨by rfl, ?_⟩) hHeld ?_
  rotate_left
  · intro w hSw
    go_simp
    with_reducible rfl
  try go_frame
  refine wpAnyH_take (i := 3) (oi := ⟨some 32, _, _, _, _, _⟩) (v := .agg (ks).toArray) rfl (by kernel_rfl) (by kernel_rfl) (by kernel_rfl) (fun _ _ _ h => h) (yieldsIf_load_mid (by rfl) 29 (.tmp 31) rfl (P) 1 rfl (ks) _ (fun W h => h.1) Tryz.underlying29 rfl hi1) hHeld ?_
  try go_frame
  refine wpAnyH_take (i := 4) (oi := ⟨some 33, _, _, _, _, _⟩) (v := ?_) rfl (by kernel_rfl) (by kernel_rfl) (by kernel_rfl) (fun _ _ _ h => h) (Or.inl ⟨by rfl, ?_⟩) hHeld ?_
  rotate_left
  · intro w hSw
    go_simp
    with_reducible rfl
  try go_frame
  refine wpAnyH_take (i := 5) (oi := ⟨some 34, _, _, _, _, _⟩) (v := ?_) rfl (by kernel_rfl) (by kernel_rfl) (by kernel_rfl) (fun _ _ _ h => h) (Or.inl ⟨by rfl, ?_⟩) hHeld ?_
  rotate_left
  · intro w hSw
    go_simp
    with_reducible rfl
  try go_frame
  refine wpAnyH_take (i := 6) (oi := ⟨some 35, _, _, _, _, _⟩) (v := ?_) rfl (by kernel_rfl) (by kernel_rfl) (by kernel_rfl) (fun _ _ _ h => h) (Or.inl ⟨by rfl, ?_⟩) hHeld ?_
  rotate_left
  · intro w hSw
    go_simp
    with_reducible rfl
  try go_frame
  refine wpAnyH_take (i := 8) (oi := ⟨some 37, _, _, _, _, _⟩) (v := .agg (ts).toArray) rfl (by kernel_rfl) (by kernel_rfl) (by kernel_rfl) (fun _ _ _ h => h) (yieldsIf_load_mid (by rfl) 27 (.tmp 6) rfl (g_tg) 0 rfl (ts) _ (fun W h => h.2) Tryz.underlying27 rfl hi2) hHeld ?_
  try go_frame
  refine wpAnyH_ready (rs := [7]) (by kernel_rfl) (by simp) ?_
  refine AllReadyH.cons (o := ⟨some 36, _, _, _, _, _⟩) rfl (fun K hK => ?_) AllReadyH.nil
  go_simp
  go_at_call 37
  refine (HRw.out w4d (up.out _ hC)).mono ?_
  rintro e w4d_rd ⟨g_rd, rfl, _, hR, hb⟩
  have F_rd : Hid (Arg w4d_rd (.slice (some ⟨g_rd, 0, none⟩) 72 72) cur) := .inr ⟨g_rd, 0, 72, by rw [HC72.out], hR.out.lt (by rw [List.length_map, HC72.out]; omega), by rw [HC72.out]; omega, hR.out.1⟩
  replace hC := hC.trans (hb.mono hC.size)
  refine hK.out _ _ (HKeep.out _ hC) (fun hHeld => ?_)
  clear hK K hb 
  clear hR
  try go_frame
  refine wpAnyH_ready (rs := [9]) (by kernel_rfl) (by simp) ?_
  refine AllReadyH.cons (o := ⟨some 38, _, _, _, _, _⟩) rfl (fun K hK => ?_) AllReadyH.nil
  go_simp
  go_at_call 53
  have hC0 := hC
  refine (HOp.out w4d_rd _ ts (up.out _ hC) F_rd.out Hts.out).mono ?_
  rintro e w4d_rd_op ⟨g, rfl, hg, HR, hb⟩
  have R_op : Hid (Row w4d_rd_op g 5 (plain.map V8)) := HR.out
  have HG : Hid (w.heap.size ≤ g) := Nat.le_trans (up.out _ hC0).size hg
  replace hC := hC.trans (hb.mono hC.size)
  replace F_rd := Lib.hid (F_rd.out.below hb)
  refine hK.out _ _ (HKeep.out _ hC) (fun hHeld => ?_)
  clear hK K hb 
  clear HR hg hC0
  try go_frame
  refine wpAnyH_take (i := 10) (oi := ⟨some 28, _, _, _, _, _⟩) (v := ?_) rfl (by kernel_rfl) (by kernel_rfl) (by kernel_rfl) (fun _ _ _ h => h) (Or.inl ⟨by rfl, ?_⟩) hHeld ?_
  rotate_left
  · intro w hSw
    go_simp
    with_reducible rfl
  try go_frame
  refine wpAnyH_take (i := 11) (oi := ⟨some 39, _, _, _, _, _⟩) (v := ?_) rfl (by kernel_rfl) (by kernel_rfl) (by kernel_rfl) (fun _ _ _ h => h) (Or.inl ⟨by rfl, ?_⟩) hHeld ?_
  rotate_left
  · intro w hSw
    go_simp
    with_reducible rfl
  try go_frame
  refine wpAnyH_take (i := 12) (oi := ⟨some 40, _, _, _, _, _⟩) (v := ?_) rfl (by kernel_rfl) (by kernel_rfl) (by kernel_rfl) (fun _ _ _ h => h) (Or.inl ⟨by rfl, ?_⟩) hHeld ?_
  rotate_left
  · intro w hSw
    go_simp
    with_reducible rfl
  try go_frame
  refine wpAnyH_take (i := 13) (oi := ⟨some 41, _, _, _, _, _⟩) (v := ?_) rfl (by kernel_rfl) (by kernel_rfl) (by kernel_rfl) (fun _ _ _ h => h) (Or.inl ⟨by rfl, ?_⟩) hHeld ?_
  rotate_left
  · intro w hSw
    go_simp
    with_reducible rfl
  try go_frame
  refine wpAnyH_take (i := 14) (oi := ⟨some 8, _, _, _, _, _⟩) (v := ?_) rfl (by kernel_rfl) (by kernel_rfl) (by kernel_rfl) (fun _ _ _ h => h) (Or.inl ⟨by rfl, ?_⟩) hHeld ?_
  rotate_left
  · intro w hSw
    go_simp
    with_reducible rfl
  try go_frame
  refine wpAnyH_take (i := 15) (oi := ⟨some 9, _, _, _, _, _⟩) (v := ?_) rfl (by kernel_rfl) (by kernel_rfl) (by kernel_rfl) (fun _ _ _ h => h) (Or.inl ⟨by rfl, ?_⟩) hHeld ?_
  rotate_left
  · intro w hSw
    go_simp
    with_reducible rfl
  try go_frame
  refine wpAnyH_take (i := 16) (oi := ⟨some 10, _, _, _, _, _⟩) (v := ?_) rfl (by kernel_rfl) (by kernel_rfl) (by kernel_rfl) (fun _ _ _ h => h) (Or.inl ⟨by rfl, ?_⟩) hHeld ?_
  rotate_left
  · intro w hSw
    go_simp
    with_reducible rfl
  try go_frame
  refine wpAnyH_done (by kernel_rfl) ?_ _
  clear HKeep hHeld HOp HRw
  have HC := Lib.hid (up.out _ hC)
  clear hC
  go_wp2
  go_ret2
  exact ⟨g, rfl, HG.out, R_op, HC.out⟩
set_option maxRecDepth 100000 in
set_option maxHeartbeats 1000000 in
theorem Jread_bad {w : World} {P d T : Nat} {ek mk : List UInt8} {s : Bk.Bn} {ks : List Value} {FT G : Nat → Prop} {nx : Value} {S : List Bool} {V : Nat} {D : List Blk} (h : HeadL w P d ek mk s ks T FT nx S V) (hD : DiskAt w G d D) (i : Nat) (hi : i < s.n) (hl : D.length = 2 * s.n) (cur : List UInt8) (hcur : cur = Bk.curAt D (s.bank * s.n + i)) (hc72 : cur.length = 72)
    (hOp : ∀ (W : World) (x : Value) (ts : List Value), Below w.heap.size w W → Arg W x cur → Vec 32 (s.tags.getD i []) ts → Calls Tryz.prog 53 #[.agg ks.toArray, IV i, x, .agg ts.toArray] W fun e w' => e = .returned (.tuple #[.slice none 0 0, .int .u64 0, .int .i64 10]) ∧ Below W.heap.size W w') :
    Calls Tryz.prog 21 #[PT P, IV i] w fun e w' => e = .returned (.tuple #[.slice none 0 0, .int .i64 10]) ∧ Below w.heap.size w w' := by
  have hkl := h.kl
  have hn100 := h.n100
  have HSz := Lib.hid (Jsize_any h)
  have HH := Lib.hid h
  have HGt := Lib.hid (fun W (hW : Below w.heap.size w W) => Mr.treeAll.getOk (h.below hW).tree i (by rw [h.tl]; exact hi))
  have HRw := Lib.hid (fun W (hW : Below w.heap.size w W) => Jraw_any (h.below hW) (hD.below hW) i hi hl)
  rw [← hcur] at HRw
  obtain ⟨tag, htag⟩ : ∃ t, t = s.tags.getD i [] := ⟨_, rfl⟩
  rw [← htag] at HGt hOp
  obtain ⟨n, hn⟩ : ∃ x, x = s.n := ⟨_, rfl⟩
  rw [← hn] at HSz hi
  have HOp := Lib.hid hOp
  have HC72 := Lib.hid hc72
  have Hin : Hid ((i : Int) < (n : Int)) := by show _ < _; omega
  have H0i : Hid (¬ (i : Int) < 0) := by show ¬ _; omega
  have hi1 : (Tryz.prog.info? 29).map (·.size) = some ks.length := by rw [hkl]; kernel_rfl
  have hz := Hm.zeroTag
  clear h hD hl hcur hOp hc72 hkl hn100 htag hn hi
  go_enter Tryz.func21, Tryz.ntmps21
  have hin := Hin.out
  have h0 := H0i.out
  go_wp2_with fail
  refine HSz.out.mono ?_
  rintro e w1 ⟨rfl, hb1⟩
  have HB1 := Lib.hid hb1
  have HG1 := Lib.hid (HGt.out w1 hb1)
  have hc83 := (HH.out.below hb1).at_.cells.2.2.2.1
  clear HSz HGt hb1
  go_wp2_with fail
  refine HG1.out.mono ?_
  rintro e w2 ⟨⟨ts, Hts, rfl⟩, hb2⟩
  have HB2 := Lib.hid (HB1.out.trans (hb2.mono HB1.out.size))
  have Hsz : Hid (ts.toArray.size = 32) := Hts.out.size
  have Hone : Hid (ts.toArray.all (·.oneCell') = true) := Hts.out.one
  clear HG1 HB1 hb2 hc83 w1
  obtain ⟨w3, hw3⟩ : ∃ W, W = w2.alloc (.cells Hm.Z32.toArray 27) := ⟨_, rfl⟩
  have HZ3 : Hid (Row w3 w2.heap.size 27 Hm.Z32) := by rw [hw3]; exact Row.new w2 27 Hm.Z32
  have HB3 : Hid (Below w.heap.size w w3) := by rw [hw3]; exact HB2.out.alloc HB2.out.size _
  have HZ4 := Lib.hid (HZ3.out.whole ts)
  have HB4 : Hid (Below w.heap.size w (w3.setRow w2.heap.size ts.toArray)) := below_setRow' HB3.out HB2.out.size _
  go_wp2_with (rw [← hw3]; clear hw3; refine wpList_store_row rfl 27 (.tmp 6) (.tmp 26) rfl w2.heap.size ts.toArray rfl rfl 27 _ HZ3.out (by rw [Hsz.out]; kernel_rfl) (by rw [Hsz.out]; rfl) Hone.out ?_)
  generalize w3.setRow w2.heap.size ts.toArray = w4 at *
  generalize w2.heap.size = g_tg at *
  have hi2 : (Tryz.prog.info? 27).map (·.size) = some ts.length := by rw [← List.size_toArray, Hsz.out]; kernel_rfl
  have up : Hid (∀ W, Below w4.heap.size w4 W → Below w.heap.size w W) := fun W hW => HB4.out.trans (hW.mono HB4.out.size)
  have HKeep : Hid (∀ W, Below w4.heap.size w4 W → W.rangeAt P 1 ks ∧ W.rangeAt g_tg 0 ts) := fun W hW => ⟨(HH.out.below (up.out W hW)).at_.ks.1, range_row (HZ4.out.below hW HZ4.out.lt)⟩
  clear HZ3 HB3 HB2 hin h0
  clear HZ4 HH
  have hC : Below w4.heap.size w4 w4.drew := below_drewN (Below.refl _ _) 1
  refine wp_region_held_drew (S := (fun W => W.rangeAt P 1 ks ∧ W.rangeAt g_tg 0 ts)) (by kernel_rfl) (HKeep.out _ hC) (fun hHeld => ?_)
  generalize w4.drew = w4d at *
  refine wpAnyH_take (i := 0) (oi := ⟨some 29, _, _, _, _, _⟩) (v := ?_) rfl (by kernel_rfl) (by kernel_rfl) (by kernel_rfl) (fun _ _ _ h => h) (Or.inl ⟨by rfl, ?_⟩) hHeld ?_
  rotate_left
  · intro w hSw
    go_simp
    with_reducible rfl
  try go_frame
  refine wpAnyH_take (i := 1) (oi := ⟨some 30, _, _, _, _, _⟩) (v := ?_) rfl (by kernel_rfl) (by kernel_rfl) (by kernel_rfl) (fun _ _ _ h => h) (Or.inl ⟨by rfl, ?_⟩) hHeld ?_
  rotate_left
  · intro w hSw
    go_simp
    with_reducible rfl
  try go_frame
  refine wpAnyH_take (i := 2) (oi := ⟨some 31, _, _, _, _, _⟩) (v := ?_) rfl (by kernel_rfl) (by kernel_rfl) (by kernel_rfl) (fun _ _ _ h => h) (Or.inl ⟨by rfl, ?_⟩) hHeld ?_
  rotate_left
  · intro w hSw
    go_simp
    with_reducible rfl
  try go_frame
  refine wpAnyH_take (i := 3) (oi := ⟨some 32, _, _, _, _, _⟩) (v := .agg (ks).toArray) rfl (by kernel_rfl) (by kernel_rfl) (by kernel_rfl) (fun _ _ _ h => h) (yieldsIf_load_mid (by rfl) 29 (.tmp 31) rfl (P) 1 rfl (ks) _ (fun W h => h.1) Tryz.underlying29 rfl hi1) hHeld ?_
  try go_frame
  refine wpAnyH_take (i := 4) (oi := ⟨some 33, _, _, _, _, _⟩) (v := ?_) rfl (by kernel_rfl) (by kernel_rfl) (by kernel_rfl) (fun _ _ _ h => h) (Or.inl ⟨by rfl, ?_⟩) hHeld ?_
  rotate_left
  · intro w hSw
    go_simp
    with_reducible rfl
  try go_frame
  refine wpAnyH_take (i := 5) (oi := ⟨some 34, _, _, _, _, _⟩) (v := ?_) rfl (by kernel_rfl) (by kernel_rfl) (by kernel_rfl) (fun _ _ _ h => h) (Or.inl ⟨by rfl, ?_⟩) hHeld ?_
  rotate_left
  · intro w hSw
    go_simp
    with_reducible rfl
  try go_frame
  refine wpAnyH_take (i := 6) (oi := ⟨some 35, _, _, _, _, _⟩) (v := ?_) rfl (by kernel_rfl) (by kernel_rfl) (by kernel_rfl) (fun _ _ _ h => h) (Or.inl ⟨by rfl, ?_⟩) hHeld ?_
  rotate_left
  · intro w hSw
    go_simp
    with_reducible rfl
  try go_frame
  refine wpAnyH_take (i := 8) (oi := ⟨some 37, _, _, _, _, _⟩) (v := .agg (ts).toArray) rfl (by kernel_rfl) (by kernel_rfl) (by kernel_rfl) (fun _ _ _ h => h) (yieldsIf_load_mid (by rfl) 27 (.tmp 6) rfl (g_tg) 0 rfl (ts) _ (fun W h => h.2) Tryz.underlying27 rfl hi2) hHeld ?_
  try go_frame
  refine wpAnyH_ready (rs := [7]) (by kernel_rfl) (by simp) ?_
  refine AllReadyH.cons (o := ⟨some 36, _, _, _, _, _⟩) rfl (fun K hK => ?_) AllReadyH.nil
  go_simp
  go_at_call 37
  refine (HRw.out w4d (up.out _ hC)).mono ?_
  rintro e w4d_rd ⟨g_rd, rfl, _, hR, hb⟩
  have F_rd : Hid (Arg w4d_rd (.slice (some ⟨g_rd, 0, none⟩) 72 72) cur) := .inr ⟨g_rd, 0, 72, by rw [HC72.out], hR.out.lt (by rw [List.length_map, HC72.out]; omega), by rw [HC72.out]; omega, hR.out.1⟩
  replace hC := hC.trans (hb.mono hC.size)
  refine hK.out _ _ (HKeep.out _ hC) (fun hHeld => ?_)
  clear hK K hb 
  clear hR
  try go_frame
  refine wpAnyH_ready (rs := [9]) (by kernel_rfl) (by simp) ?_
  refine AllReadyH.cons (o := ⟨some 38, _, _, _, _, _⟩) rfl (fun K hK => ?_) AllReadyH.nil
  go_simp
  go_at_call 53
  refine (HOp.out w4d_rd _ ts (up.out _ hC) F_rd.out Hts.out).mono ?_
  rintro e w4d_rd_op ⟨rfl, hb⟩
  replace hC := hC.trans (hb.mono hC.size)
  replace F_rd := Lib.hid (F_rd.out.below hb)
  refine hK.out _ _ (HKeep.out _ hC) (fun hHeld => ?_)
  clear hK K hb 
  try go_frame
  refine wpAnyH_take (i := 10) (oi := ⟨some 28, _, _, _, _, _⟩) (v := ?_) rfl (by kernel_rfl) (by kernel_rfl) (by kernel_rfl) (fun _ _ _ h => h) (Or.inl ⟨by rfl, ?_⟩) hHeld ?_
  rotate_left
  · intro w hSw
    go_simp
    with_reducible rfl
  try go_frame
  refine wpAnyH_take (i := 11) (oi := ⟨some 39, _, _, _, _, _⟩) (v := ?_) rfl (by kernel_rfl) (by kernel_rfl) (by kernel_rfl) (fun _ _ _ h => h) (Or.inl ⟨by rfl, ?_⟩) hHeld ?_
  rotate_left
  · intro w hSw
    go_simp
    with_reducible rfl
  try go_frame
  refine wpAnyH_take (i := 12) (oi := ⟨some 40, _, _, _, _, _⟩) (v := ?_) rfl (by kernel_rfl) (by kernel_rfl) (by kernel_rfl) (fun _ _ _ h => h) (Or.inl ⟨by rfl, ?_⟩) hHeld ?_
  rotate_left
  · intro w hSw
    go_simp
    with_reducible rfl
  try go_frame
  refine wpAnyH_take (i := 13) (oi := ⟨some 41, _, _, _, _, _⟩) (v := ?_) rfl (by kernel_rfl) (by kernel_rfl) (by kernel_rfl) (fun _ _ _ h => h) (Or.inl ⟨by rfl, ?_⟩) hHeld ?_
  rotate_left
  · intro w hSw
    go_simp
    with_reducible rfl
  try go_frame
  refine wpAnyH_take (i := 14) (oi := ⟨some 8, _, _, _, _, _⟩) (v := ?_) rfl (by kernel_rfl) (by kernel_rfl) (by kernel_rfl) (fun _ _ _ h => h) (Or.inl ⟨by rfl, ?_⟩) hHeld ?_
  rotate_left
  · intro w hSw
    go_simp
    with_reducible rfl
  try go_frame
  refine wpAnyH_take (i := 15) (oi := ⟨some 9, _, _, _, _, _⟩) (v := ?_) rfl (by kernel_rfl) (by kernel_rfl) (by kernel_rfl) (fun _ _ _ h => h) (Or.inl ⟨by rfl, ?_⟩) hHeld ?_
  rotate_left
  · intro w hSw
    go_simp
    with_reducible rfl
  try go_frame
  refine wpAnyH_take (i := 16) (oi := ⟨some 10, _, _, _, _, _⟩) (v := ?_) rfl (by kernel_rfl) (by kernel_rfl) (by kernel_rfl) (fun _ _ _ h => h) (Or.inl ⟨by rfl, ?_⟩) hHeld ?_
  rotate_left
  · intro w hSw
    go_simp
    with_reducible rfl
  try go_frame
  refine wpAnyH_done (by kernel_rfl) ?_ _
  clear HKeep hHeld HOp HRw
  have HC := Lib.hid (up.out _ hC)
  clear hC
  go_wp2
  go_ret2
  exact ⟨rfl, HC.out⟩
set_option maxRecDepth 100000 in
theorem Jread_out {w : World} {P d T : Nat} {ek mk : List UInt8} {s : Bk.Bn} {ks : List Value} {FT : Nat → Prop} {nx : Value} {S : List Bool} {V : Nat} (h : HeadL w P d ek mk s ks T FT nx S V) (i : Int) (hi : i < 0 ∨ (s.n : Int) ≤ i) :
    Calls Tryz.prog 21 #[PT P, .int .i64 i] w fun e w' => e = .returned (.tuple #[.slice none 0 0, .int .i64 1]) ∧ Below w.heap.size w w' := by
  have HSz := Lib.hid (Jsize_any h)
  obtain ⟨n, hn⟩ : ∃ x, x = s.n := ⟨_, rfl⟩
  rw [← hn] at HSz hi
  clear h hn
  by_cases h0 : i < 0
  · clear HSz hi
    go_enter Tryz.func21, Tryz.ntmps21
    go_wp2
    go_ret2
    exact ⟨rfl, Below.refl _ _⟩
  · have hni : (n : Int) ≤ i := by omega
    clear hi
    go_enter Tryz.func21, Tryz.ntmps21
    go_wp2_with fail
    refine HSz.out.mono ?_
    rintro e w1 ⟨rfl, hb1⟩
    go_wp2
    go_ret2
    exact ⟨rfl, hb1⟩
theorem diskAt_cur {w : World} {G : Nat → Prop} {d k : Nat} {D : List Blk} (h : DiskAt w G d D) (hk : k < D.length) : (Bk.curAt D k).length = 72 := by
  obtain ⟨g, ps, hW⟩ := h
  have := (hW.ok k (D[k]'hk) (List.getElem?_eq_getElem hk)).cur
  unfold Bk.curAt
  rw [List.getD_eq_getElem?_getD, List.getElem?_eq_getElem hk]
  exact this
theorem Jread_any {w : World} {F G : Nat → Prop} {P d : Nat} {ek mk : List UInt8} {s : Bk.Bn} {D : List Blk} (h : BL w F P d ek mk s) (hD : DiskAt w G d D) (hl : D.length = 2 * s.n) (hT : Hm.Tab w) (i : Nat) (hi : i < s.n) :
    Calls Tryz.prog 21 #[PT P, IV i] w fun e w' => ∃ v, e = .returned (.tuple #[v, .int .i64 (if (Bk.read ek mk s D i).isSome then 0 else 10)]) ∧ Hid (Own w' w.heap.size 5 v (((Bk.read ek mk s D i).getD []).map V8)) ∧ Below w.heap.size w w' := by
  obtain ⟨ks, T, FT, nx, S, V, hH, _⟩ := h
  have hn100 := hH.n100
  have hk : s.bank * s.n + i < D.length := by
    rw [hl]
    rcases (show s.bank = 0 ∨ s.bank = 1 by have := hH.b1; omega) with e | e <;> rw [e] <;> simp <;> omega
  have hc := diskAt_cur hD hk
  by_cases he : tg mk i (Bk.curAt D (s.bank * s.n + i)) = s.tags.getD i []
  · have hr : Bk.read ek mk s D i = some (pl ek i (Bk.curAt D (s.bank * s.n + i))) := by rw [Bk.read, if_pos he]
    rw [hr]
    refine (Jread_ok hH hD i hi hl _ rfl hc (plain := pl ek i (Bk.curAt D (s.bank * s.n + i))) (u := ((ver (Bk.curAt D (s.bank * s.n + i)) : Nat) : Int)) fun W x ts hW hx hv => ?_).mono ?_
    · have := SOpen_ok ek mk ks hH.keys (i : Int) _ hc x _ ts hv (by rw [nmN i (by omega)]; exact he) W (hT.below hW) hx
      rw [nmN i (by omega)] at this
      exact this
    · rintro e w' ⟨g, rfl, hg, HR, hb⟩
      have h64 : (pl ek i (Bk.curAt D (s.bank * s.n + i))).length = 64 := by rw [pl_length, hc]
      exact ⟨_, rfl, HR.out.own hg (by rw [List.length_map, h64]) (by omega), hb⟩
  · have hr : Bk.read ek mk s D i = none := by rw [Bk.read, if_neg he]
    rw [hr]
    refine (Jread_bad hH hD i hi hl _ rfl hc fun W x ts hW hx hv => ?_).mono ?_
    · exact SOpen_diff ek mk ks hH.keys (i : Int) _ hc x _ ts hv (by rw [nmN i (by omega)]; exact he) W (hT.below hW) hx
    · rintro e w' ⟨rfl, hb⟩
      exact ⟨_, rfl, Own.nil _ _ _, hb⟩
end Go.Proofs.YthbmknpbcgnabaaGreatDoor
