/-
  THE WALKS of layer 14's reference: Resize, Write.
-/
import Derived.Test.YtiafmghdiidniaaLD
namespace Go.Proofs.Ytiafmghdiidniaa
open Go.RowKit Cdc Inn Fil

theorem FlAt.put {w : World} {o lb : Nat} {g : Geo} {fs : List (List UInt8)} (h : FlAt w o lb g fs) (i : Nat) (s : List UInt8) (hs : s.length ≤ 2304) : FlAt (w.setCell ⟨lb, i, none⟩ (SV s)) o lb g (fs.set i s) :=
  ⟨h.head.apart h.off _, by rw [List.map_set]; exact h.row.set i (SV s), by rw [List.length_set]; exact h.four, fun t ht => (List.mem_or_eq_of_mem_set ht).elim (h.len t) (fun e => by rw [e]; exact hs), h.off⟩

set_option maxRecDepth 100000 in
set_option maxHeartbeats 2000000 in
theorem RFiResize_any (g : Geo) (hg : gmay g = true) (fs : List (List UInt8)) (o lb : Nat) (i : Nat) (hi : i < 4) (z : Int) (hz : In64 z) (w : World) (h : FlAt w o lb g fs) :
    Calls Try.prog 14 #[.pointer (some ⟨o, 0, none⟩), .int .i64 i, .int .i64 z] w fun e w' => e = .returned (.int .i64 (resizeE g fs i z)) ∧ FlAt w' o lb g (if resizeE g fs i z = 0 then resizeF fs i z else fs) ∧ w.grownBy w' (some lb) := by
  obtain ⟨r, hr⟩ : ∃ r, r = resizeE g fs i z := ⟨_, rfl⟩
  rw [← hr]
  have Hr : Hid (r = if z < 0 then 1 else if 2304 < z then 9 else if gleft g fs < (need z : Int) - need (fs.getD i []).length then 7 else 0) := hr
  clear hr
  have HL := Lib.hid h
  clear h
  go_enter Try.func14, Try.ntmps14
  rcases Int.lt_or_le z 0 with h0 | h0
  · have e : r = 1 := by rw [Hr.out, if_pos h0]
    subst e
    go_wp2
    go_ret
    exact ⟨rfl, HL.out, World.grownBy.refl _ _⟩
  rcases Int.lt_or_le 2304 z with h1 | h1
  · have e : r = 9 := by rw [Hr.out, if_neg (by omega), if_pos h1]
    subst e
    go_wp2
    go_ret
    exact ⟨rfl, HL.out, World.grownBy.refl _ _⟩
  replace Hr : Hid (r = if gleft g fs < (need z : Int) - need (fs.getD i []).length then 7 else 0) := by show _ = _; rw [Hr.out, if_neg (by omega), if_neg (by omega)]
  obtain ⟨g1, g2, g3, g4, g5⟩ := gmay_iff.1 hg
  have hlb := gfirst_le g4
  have hsl := HL.out.at_ i hi
  have hni : need (fs.getD i []).length ≤ 37 := need_le (by omega)
  have hnz : need z ≤ 37 := need_le h1
  have hgl : -200 ≤ gleft g fs ∧ gleft g fs ≤ 200 := by
    have := needsN_le fs HL.out.len 4
    unfold needsN at this
    rw [List.take_of_length_le (by rw [HL.out.four]; omega)] at this
    unfold gleft; omega
  have HN1 : Hid (∀ W, Calls Try.prog 31 #[.int .i64 z] W fun e w' => e = .returned (.int .i64 (need z)) ∧ Below W.heap.size W w') := fun W => RInNeed_any _ (by omega) hz W
  have HN2 : Hid (∀ W, Calls Try.prog 31 #[.int .i64 ((fs.getD i []).length : Int)] W fun e w' => e = .returned (.int .i64 (need (fs.getD i []).length)) ∧ Below W.heap.size W w') := fun W => RInNeed_any _ (by omega) ⟨by omega, by omega⟩ W
  have HLf : Hid (∀ W, FlAt W o lb g fs → Calls Try.prog 20 #[.pointer (some ⟨o, 0, none⟩)] W fun e w' => e = .returned (.int .i64 (gleft g fs)) ∧ Below W.heap.size W w') := fun W hW => RFiLeft_any g hg fs o lb W hW
  obtain ⟨t, ht⟩ : ∃ t, t = z.toNat := ⟨_, rfl⟩
  have hzt : z = (t : Int) := by omega
  have HSz : Hid (∀ W, Calls Try.prog 32 #[.string (strB (fs.getD i [])), .int .i64 z] W fun e w' => e = .returned (.string (strB (sized (fs.getD i []) z.toNat))) ∧ Below W.heap.size W w') := fun W => by
    rw [← ht, hzt]; exact RFiSized_any _ (by omega) t (by omega) W
  have hsz : (strB (fs.getD i [])).size = (fs.getD i []).length := strB_size _
  obtain ⟨s, hs⟩ : ∃ s, s = strB (fs.getD i []) := ⟨_, rfl⟩
  have HS := Lib.hid hs
  obtain ⟨s2, hs2⟩ : ∃ s2, s2 = strB (sized (fs.getD i []) z.toNat) := ⟨_, rfl⟩
  have HS2 := Lib.hid hs2
  rw [← hs, ← hs2] at HSz
  rw [← hs] at hsz
  obtain ⟨n, hn⟩ : ∃ n, n = (fs.getD i []).length := ⟨_, rfl⟩
  rw [← hn] at hsz hsl hni HN2 Hr
  obtain ⟨N1, hN1⟩ : ∃ N1, N1 = need z := ⟨_, rfl⟩
  rw [← hN1] at HN1 Hr hnz
  obtain ⟨N2, hN2⟩ : ∃ N2, N2 = need (n : Int) := ⟨_, rfl⟩
  rw [← hN2] at HN2 Hr hni
  obtain ⟨G, hG⟩ : ∃ G, G = gleft g fs := ⟨_, rfl⟩
  rw [← hG] at HLf Hr hgl
  have HZ : Hid (z ≤ 2304) := h1
  have hKeep : ∀ W, Below w.heap.size w W → W.cell? ⟨o, 2, none⟩ = some (.slice (some ⟨lb, 0, none⟩) 4 4) ∧ W.cell? ⟨lb, i, none⟩ = some (.string s) := fun W hW => by
    have h := HL.out.below hW
    exact ⟨h.head.cell 2, by rw [hs]; exact h.cell i hi⟩
  have HKeep := Lib.hid hKeep
  have hi4 : (i : Int) < 4 := by omega
  clear hKeep hs hs2 hn hN1 hN2 hG ht hzt hg g1 g2 g3 g4 g5 hlb hz
  go_wp2
  have hC : Below w.heap.size w w.drew := below_drewN (Below.refl _ _) 1
  refine wp_region_held_drew (S := (fun W => W.cell? ⟨o, 2, none⟩ = some (.slice (some ⟨lb, 0, none⟩) 4 4) ∧ W.cell? ⟨lb, i, none⟩ = some (.string s))) (by kernel_rfl) (HKeep.out _ hC) (fun hHeld => ?_)
  generalize w.drew = wd at *
  refine wpAnyH_take (i := 0) (oi := ⟨some 11, _, _, _, _, _⟩) (v := ?_) rfl (by kernel_rfl) (by kernel_rfl) (by kernel_rfl) (fun _ _ _ h => h) (Or.inl ⟨by rfl, ?_⟩) hHeld ?_
  rotate_left
  · intro w hSw
    go_simp
    with_reducible rfl
  try go_frame
  refine wpAnyH_take (i := 2) (oi := ⟨some 13, _, _, _, _, _⟩) (v := ?_) rfl (by kernel_rfl) (by kernel_rfl) (by kernel_rfl) (fun _ _ _ h => h) (Or.inl ⟨by rfl, ?_⟩) hHeld ?_
  rotate_left
  · intro w hSw
    go_simp
    with_reducible rfl
  try go_frame
  refine wpAnyH_take (i := 3) (oi := ⟨some 14, _, _, _, _, _⟩) (v := ?_) rfl (by kernel_rfl) (by kernel_rfl) (by kernel_rfl) (fun _ _ _ h => h) (Or.inl ⟨by rfl, ?_⟩) hHeld ?_
  rotate_left
  · intro w hSw
    obtain ⟨s2, s3⟩ := hSw
    go_simp
    with_reducible rfl
  try go_frame
  refine wpAnyH_take (i := 4) (oi := ⟨some 15, _, _, _, _, _⟩) (v := ?_) rfl (by kernel_rfl) (by kernel_rfl) (by kernel_rfl) (fun _ _ _ h => h) (Or.inl ⟨by rfl, ?_⟩) hHeld ?_
  rotate_left
  · intro w hSw
    go_simp
    with_reducible rfl
  try go_frame
  refine wpAnyH_take (i := 5) (oi := ⟨some 16, _, _, _, _, _⟩) (v := ?_) rfl (by kernel_rfl) (by kernel_rfl) (by kernel_rfl) (fun _ _ _ h => h) (Or.inl ⟨by rfl, ?_⟩) hHeld ?_
  rotate_left
  · intro w hSw
    obtain ⟨s2, s3⟩ := hSw
    go_simp
    with_reducible rfl
  try go_frame
  refine wpAnyH_take (i := 6) (oi := ⟨some 17, _, _, _, _, _⟩) (v := ?_) rfl (by kernel_rfl) (by kernel_rfl) (by kernel_rfl) (fun _ _ _ h => h) (Or.inl ⟨by rfl, ?_⟩) hHeld ?_
  rotate_left
  · intro w hSw
    go_simp
    with_reducible rfl
  try go_frame
  refine wpAnyH_take (i := 7) (oi := ⟨some 18, _, _, _, _, _⟩) (v := ?_) rfl (by kernel_rfl) (by kernel_rfl) (by kernel_rfl) (fun _ _ _ h => h) (Or.inl ⟨by rfl, ?_⟩) hHeld ?_
  rotate_left
  · intro w hSw
    have hi5 := hi4
    go_simp
    with_reducible rfl
  try go_frame
  refine wpAnyH_take (i := 8) (oi := ⟨some 19, _, _, _, _, _⟩) (v := ?_) rfl (by kernel_rfl) (by kernel_rfl) (by kernel_rfl) (fun _ _ _ h => h) (Or.inl ⟨by rfl, ?_⟩) hHeld ?_
  rotate_left
  · intro w hSw
    obtain ⟨s2, s3⟩ := hSw
    go_simp
    with_reducible rfl
  try go_frame
  refine wpAnyH_take (i := 9) (oi := ⟨some 20, _, _, _, _, _⟩) (v := ?_) rfl (by kernel_rfl) (by kernel_rfl) (by kernel_rfl) (fun _ _ _ h => h) (Or.inl ⟨by rfl, ?_⟩) hHeld ?_
  rotate_left
  · intro w hSw
    go_simp
    with_reducible rfl
  try go_frame
  refine wpAnyH_take (i := 12) (oi := ⟨some 23, _, _, _, _, _⟩) (v := ?_) rfl (by kernel_rfl) (by kernel_rfl) (by kernel_rfl) (fun _ _ _ h => h) (Or.inl ⟨by rfl, ?_⟩) hHeld ?_
  rotate_left
  · intro w hSw
    go_simp
    with_reducible rfl
  try go_frame
  refine wpAnyH_ready (rs := [1]) (by kernel_rfl) (by simp) ?_
  refine AllReadyH.cons (o := ⟨some 12, _, _, _, _, _⟩) rfl (fun K hK => ?_) AllReadyH.nil
  go_simp
  go_at_call 31
  refine (HN1.out wd).mono ?_
  rintro e wd_n1 ⟨rfl, hb⟩
  replace hC := hC.trans (hb.mono hC.size)
  refine hK.out _ _ (HKeep.out _ hC) (fun hHeld => ?_)
  clear hK K hb 
  try go_frame
  refine wpAnyH_ready (rs := [10]) (by kernel_rfl) (by simp) ?_
  refine AllReadyH.cons (o := ⟨some 21, _, _, _, _, _⟩) rfl (fun K hK => ?_) AllReadyH.nil
  go_simp
  go_at_call 31
  refine (HN2.out wd_n1).mono ?_
  rintro e wd_n1_n2 ⟨rfl, hb⟩
  replace hC := hC.trans (hb.mono hC.size)
  refine hK.out _ _ (HKeep.out _ hC) (fun hHeld => ?_)
  clear hK K hb 
  try go_frame
  refine wpAnyH_take (i := 11) (oi := ⟨some 22, _, _, _, _, _⟩) (v := ?_) rfl (by kernel_rfl) (by kernel_rfl) (by kernel_rfl) (fun _ _ _ h => h) (Or.inl ⟨by rfl, ?_⟩) hHeld ?_
  rotate_left
  · intro w hSw
    go_simp
    with_reducible rfl
  try go_frame
  refine wpAnyH_ready (rs := [13]) (by kernel_rfl) (by simp) ?_
  refine AllReadyH.cons (o := ⟨some 24, _, _, _, _, _⟩) rfl (fun K hK => ?_) AllReadyH.nil
  go_simp
  go_at_call 20
  refine (HLf.out wd_n1_n2 (HL.out.below hC)).mono ?_
  rintro e wd_n1_n2_lf ⟨rfl, hb⟩
  replace hC := hC.trans (hb.mono hC.size)
  refine hK.out _ _ (HKeep.out _ hC) (fun hHeld => ?_)
  clear hK K hb 
  try go_frame
  refine wpAnyH_take (i := 14) (oi := ⟨some 25, _, _, _, _, _⟩) (v := ?_) rfl (by kernel_rfl) (by kernel_rfl) (by kernel_rfl) (fun _ _ _ h => h) (Or.inl ⟨by rfl, ?_⟩) hHeld ?_
  rotate_left
  · intro w hSw
    go_simp
    with_reducible rfl
  try go_frame
  refine wpAnyH_done (by kernel_rfl) ?_ _
  clear hHeld HKeep
  replace HL := Lib.hid (HL.out.below hC)
  have HC : Hid (Below w.heap.size w wd_n1_n2_lf) := hC
  clear hC HN1 HN2 HLf
  generalize wd_n1_n2_lf = w1 at *
  rw [wrapI ((N1 : Int) - N2) ⟨by omega, by omega⟩]
  by_cases hc : G < (N1 : Int) - N2
  · have e : r = 7 := by rw [Hr.out, if_pos hc]
    subst e
    have HG2 : Hid (w.grownBy w1 (some lb)) := below_to_by HC.out _
    clear HC Hr
    go_wp2
    go_ret
    exact ⟨rfl, HL.out, HG2.out⟩
  · have e : r = 0 := by rw [Hr.out, if_neg hc]
    subst e
    have hKeep : ∀ W, Below w1.heap.size w1 W → W.cell? ⟨o, 2, none⟩ = some (.slice (some ⟨lb, 0, none⟩) 4 4) := fun W hW => (HL.out.below hW).head.cell 2
    have HKeep := Lib.hid hKeep
    clear hKeep
    go_wp2
    have hC : Below w1.heap.size w1 w1.drew := below_drewN (Below.refl _ _) 1
    refine wp_region_held_drew (S := (fun W => W.cell? ⟨o, 2, none⟩ = some (.slice (some ⟨lb, 0, none⟩) 4 4))) (by kernel_rfl) (HKeep.out _ hC) (fun hHeld => ?_)
    generalize w1.drew = w1d at *
    refine wpAnyH_take (i := 0) (oi := ⟨some 26, _, _, _, _, _⟩) (v := ?_) rfl (by kernel_rfl) (by kernel_rfl) (by kernel_rfl) (fun _ _ _ h => h) (Or.inl ⟨by rfl, ?_⟩) hHeld ?_
    rotate_left
    · intro w hSw
      go_simp
      with_reducible rfl
    try go_frame
    refine wpAnyH_take (i := 1) (oi := ⟨some 27, _, _, _, _, _⟩) (v := ?_) rfl (by kernel_rfl) (by kernel_rfl) (by kernel_rfl) (fun _ _ _ h => h) (Or.inl ⟨by rfl, ?_⟩) hHeld ?_
    rotate_left
    · intro w hSw
      have s2 := hSw
      go_simp
      with_reducible rfl
    try go_frame
    refine wpAnyH_take (i := 2) (oi := ⟨some 28, _, _, _, _, _⟩) (v := ?_) rfl (by kernel_rfl) (by kernel_rfl) (by kernel_rfl) (fun _ _ _ h => h) (Or.inl ⟨by rfl, ?_⟩) hHeld ?_
    rotate_left
    · intro w hSw
      go_simp
      with_reducible rfl
    try go_frame
    refine wpAnyH_take (i := 3) (oi := ⟨some 29, _, _, _, _, _⟩) (v := ?_) rfl (by kernel_rfl) (by kernel_rfl) (by kernel_rfl) (fun _ _ _ h => h) (Or.inl ⟨by rfl, ?_⟩) hHeld ?_
    rotate_left
    · intro w hSw
      have s2 := hSw
      go_simp
      with_reducible rfl
    try go_frame
    refine wpAnyH_take (i := 4) (oi := ⟨some 30, _, _, _, _, _⟩) (v := ?_) rfl (by kernel_rfl) (by kernel_rfl) (by kernel_rfl) (fun _ _ _ h => h) (Or.inl ⟨by rfl, ?_⟩) hHeld ?_
    rotate_left
    · intro w hSw
      go_simp
      with_reducible rfl
    try go_frame
    refine wpAnyH_take (i := 5) (oi := ⟨some 31, _, _, _, _, _⟩) (v := ?_) rfl (by kernel_rfl) (by kernel_rfl) (by kernel_rfl) (fun _ _ _ h => h) (Or.inl ⟨by rfl, ?_⟩) hHeld ?_
    rotate_left
    · intro w hSw
      go_simp
      with_reducible rfl
    try go_frame
    refine wpAnyH_take (i := 6) (oi := ⟨some 32, _, _, _, _, _⟩) (v := ?_) rfl (by kernel_rfl) (by kernel_rfl) (by kernel_rfl) (fun _ _ _ h => h) (Or.inl ⟨by rfl, ?_⟩) hHeld ?_
    rotate_left
    · intro w hSw
      have s2 := hSw
      go_simp
      with_reducible rfl
    try go_frame
    refine wpAnyH_take (i := 7) (oi := ⟨some 33, _, _, _, _, _⟩) (v := ?_) rfl (by kernel_rfl) (by kernel_rfl) (by kernel_rfl) (fun _ _ _ h => h) (Or.inl ⟨by rfl, ?_⟩) hHeld ?_
    rotate_left
    · intro w hSw
      go_simp
      with_reducible rfl
    try go_frame
    refine wpAnyH_take (i := 8) (oi := ⟨some 34, _, _, _, _, _⟩) (v := ?_) rfl (by kernel_rfl) (by kernel_rfl) (by kernel_rfl) (fun _ _ _ h => h) (Or.inl ⟨by rfl, ?_⟩) hHeld ?_
    rotate_left
    · intro w hSw
      have s2 := hSw
      go_simp
      with_reducible rfl
    try go_frame
    refine wpAnyH_take (i := 9) (oi := ⟨some 35, _, _, _, _, _⟩) (v := ?_) rfl (by kernel_rfl) (by kernel_rfl) (by kernel_rfl) (fun _ _ _ h => h) (Or.inl ⟨by rfl, ?_⟩) hHeld ?_
    rotate_left
    · intro w hSw
      go_simp
      with_reducible rfl
    try go_frame
    refine wpAnyH_take (i := 10) (oi := ⟨some 36, _, _, _, _, _⟩) (v := ?_) rfl (by kernel_rfl) (by kernel_rfl) (by kernel_rfl) (fun _ _ _ h => h) (Or.inl ⟨by rfl, ?_⟩) hHeld ?_
    rotate_left
    · intro w hSw
      go_simp
      with_reducible rfl
    try go_frame
    refine wpAnyH_take (i := 12) (oi := ⟨some 38, _, _, _, _, _⟩) (v := ?_) rfl (by kernel_rfl) (by kernel_rfl) (by kernel_rfl) (fun _ _ _ h => h) (Or.inl ⟨by rfl, ?_⟩) hHeld ?_
    rotate_left
    · intro w hSw
      go_simp
      with_reducible rfl
    try go_frame
    refine wpAnyH_ready (rs := [11]) (by kernel_rfl) (by simp) ?_
    refine AllReadyH.cons (o := ⟨some 37, _, _, _, _, _⟩) rfl (fun K hK => ?_) AllReadyH.nil
    have cS := (HL.out.below hC).cell i hi
    rw [← HS.out] at cS
    go_simp
    refine hK.out _ _ (HKeep.out _ hC) (fun hHeld => ?_)
    clear hK K cS
    try go_frame
    refine wpAnyH_ready (rs := [13]) (by kernel_rfl) (by simp) ?_
    refine AllReadyH.cons (o := ⟨some 39, _, _, _, _, _⟩) rfl (fun K hK => ?_) AllReadyH.nil
    go_simp
    go_at_call 32
    refine (HSz.out w1d).mono ?_
    rintro e w1d_sz ⟨rfl, hb⟩
    replace hC := hC.trans (hb.mono hC.size)
    refine hK.out _ _ (HKeep.out _ hC) (fun hHeld => ?_)
    clear hK K hb 
    try go_frame
    refine wpAnyH_take (i := 14) (oi := ⟨some 40, _, _, _, _, _⟩) (v := ?_) rfl (by kernel_rfl) (by kernel_rfl) (by kernel_rfl) (fun _ _ _ h => h) (Or.inl ⟨by rfl, ?_⟩) hHeld ?_
    rotate_left
    · intro w hSw
      go_simp
      with_reducible rfl
    try go_frame
    refine wpAnyH_ready (rs := [15]) (by kernel_rfl) (by simp) ?_
    refine AllReadyH.cons (o := ⟨none, _, _, _, _, _⟩) rfl (fun K hK => ?_) AllReadyH.nil
    have hL9 := HL.out.below hC
    have cS := hL9.cell i hi
    have fS := hL9.row.free i
    go_simp
    have hS9 : (w1d_sz.setCell ⟨lb, i, none⟩ (.string (s2))).cell? ⟨o, 2, none⟩ = some (.slice (some ⟨lb, 0, none⟩) 4 4) := by rw [World.cell?_setCell_other _ _ _ _ (fun e => hL9.off (by injection e with e1; exact e1.symm))]; exact hL9.head.cell 2
    refine hK.out _ _ hS9 (fun hHeld => ?_)
    have HL9 := Lib.hid hL9
    have HC9 : Hid (Below w1.heap.size w1 w1d_sz) := hC
    clear hK K cS fS hS9 hL9 hC
    try go_frame
    refine wpAnyH_done (by kernel_rfl) ?_ _
    have HL2 : Hid (FlAt (w1d_sz.setCell ⟨lb, i, none⟩ (.string s2)) o lb g (resizeF fs i z)) := by rw [HS2.out]; exact HL9.out.put i _ (by rw [sized_length]; omega)
    have HG2 : Hid (w.grownBy (w1d_sz.setCell ⟨lb, i, none⟩ (.string s2)) (some lb)) := by_setCell (by_trans (below_to_by HC.out (some lb)) (below_to_by HC9.out (some lb))) (.inl rfl) _
    clear HL9 HC9 hHeld HKeep
    go_wp2
    go_ret
    exact ⟨rfl, HL2.out, HG2.out⟩

theorem wrote_len (s : List UInt8) (o : Nat) (b : List UInt8) : (wrote s o b).length = max (o + b.length) s.length := by
  unfold wrote
  simp only [List.length_append, List.length_take, List.length_drop, sized_length]
  omega
theorem writeF_some {fs : List (List UInt8)} {i : Nat} {off : Int} {b : List UInt8} (h : b ≠ []) : writeF fs i off b = fs.set i (wrote (fs.getD i []) off.toNat b) := if_neg h

set_option maxRecDepth 100000 in
set_option maxHeartbeats 2000000 in
theorem RFiWrite_any (g : Geo) (hg : gmay g = true) (fs : List (List UInt8)) (o lb : Nat) (i : Nat) (hi : i < 4) (off : Int) (hz : In64 off) (b : List UInt8) (hb : b.length ≤ 1000) (w : World) (h : FlAt w o lb g fs) :
    Calls Try.prog 16 #[.pointer (some ⟨o, 0, none⟩), .int .i64 i, .int .i64 off, .string (strB b)] w fun e w' => e = .returned (.int .i64 (writeE g fs i off b)) ∧ FlAt w' o lb g (if writeE g fs i off b = 0 then writeF fs i off b else fs) ∧ w.grownBy w' (some lb) := by
  obtain ⟨r, hr⟩ : ∃ r, r = writeE g fs i off b := ⟨_, rfl⟩
  rw [← hr]
  have Hr : Hid (r = if off < 0 then 1 else if b = [] then 0 else if 2304 < off ∨ 2304 < off + b.length then 9 else resizeE g fs i (endOf fs i off b)) := hr
  clear hr
  have HL := Lib.hid h
  have hi4 : (i : Int) < 4 := by omega
  have hnb : (strB b).size = b.length := strB_size b
  obtain ⟨sb, hsb⟩ : ∃ sb, sb = strB b := ⟨_, rfl⟩
  have HSb := Lib.hid hsb
  rw [← hsb] at hnb ⊢
  obtain ⟨nb, hn⟩ : ∃ nb, nb = b.length := ⟨_, rfl⟩
  have HNb := Lib.hid hn
  rw [← hn] at hnb hb Hr
  clear h hsb hn
  have c2 := HL.out.head.cell 2
  simp only [List.getElem?_cons_zero, List.getElem?_cons_succ] at c2
  go_enter Try.func16, Try.ntmps16
  rcases Int.lt_or_le off 0 with h0 | h0
  · have e : r = 1 := by rw [Hr.out, if_pos h0]
    subst e
    go_wp2
    go_ret
    exact ⟨rfl, HL.out, World.grownBy.refl _ _⟩
  rcases Nat.eq_zero_or_pos nb with h1 | h1
  · have hbn : b = [] := List.eq_nil_of_length_eq_zero (by rw [← HNb.out]; exact h1)
    have e : r = 0 := by rw [Hr.out, if_neg (by omega), if_pos hbn]
    subst e
    have HW : Hid (writeF fs i off b = fs) := if_pos hbn
    clear Hr hbn
    go_wp2
    go_ret
    rw [HW.out]
    exact ⟨rfl, HL.out, World.grownBy.refl _ _⟩
  have hbn : b ≠ [] := fun e => by rw [e] at HNb; have := HNb.out; simp at this; omega
  rcases Int.lt_or_le 2304 off with h2 | h2
  · have e : r = 9 := by rw [Hr.out, if_neg (by omega), if_neg hbn, if_pos (.inl h2)]
    subst e
    go_wp2
    go_ret
    exact ⟨rfl, HL.out, World.grownBy.refl _ _⟩
  rcases Int.lt_or_le 2304 (off + nb) with h3 | h3
  · have e : r = 9 := by rw [Hr.out, if_neg (by omega), if_neg hbn, if_pos (.inr h3)]
    subst e
    go_wp2
    go_ret
    exact ⟨rfl, HL.out, World.grownBy.refl _ _⟩
  obtain ⟨p, rfl⟩ : ∃ p : Nat, off = p := ⟨off.toNat, by omega⟩
  have hsl := HL.out.at_ i hi
  obtain ⟨s, hs⟩ : ∃ s, s = fs.getD i [] := ⟨_, rfl⟩
  have HSs := Lib.hid hs
  obtain ⟨n, hn⟩ : ∃ n, n = s.length := ⟨_, rfl⟩
  have HNs := Lib.hid hn
  obtain ⟨E, hE⟩ : ∃ E, E = max (p + nb) n := ⟨_, rfl⟩
  have HE := Lib.hid hE
  have hEnd : endOf fs i p b = (E : Int) := by unfold endOf; rw [← hs, ← hn, ← HNb.out, hE]; omega
  have HEnd := Lib.hid hEnd
  have hE23 : E ≤ 2304 := by rw [← hs, ← hn] at hsl; omega
  have HW : Hid (writeF fs i p b = fs.set i (wrote s p b)) := by show _ = _; rw [hs]; exact writeF_some hbn
  have cs := HL.out.cell i hi
  rw [← hs] at cs hsl
  rw [← hn] at hsl
  have hss : (strB s).size = n := by rw [strB_size, hn]
  have HRz : Hid (Calls Try.prog 14 #[.pointer (some ⟨o, 0, none⟩), .int .i64 i, .int .i64 E] w fun e w' => e = .returned (.int .i64 (resizeE g fs i E)) ∧ FlAt w' o lb g (if resizeE g fs i E = 0 then resizeF fs i E else fs) ∧ w.grownBy w' (some lb)) :=
    RFiResize_any g hg fs o lb i hi E ⟨by omega, by omega⟩ w HL.out
  replace Hr : Hid (r = resizeE g fs i E) := by show _ = _; rw [Hr.out, if_neg (by omega), if_neg hbn, if_neg (by omega), hEnd]
  rw [← Hr.out] at HRz
  have hEle : p + nb ≤ E ∧ n ≤ E ∧ (E = p + nb ∨ E = n) := by omega
  obtain ⟨F1, hF1⟩ : ∃ F1, F1 = resizeF fs i E := ⟨_, rfl⟩
  rw [← hF1] at HRz
  have HF1 : Hid (F1.getD i [] = sized s E) := by
    show _ = _
    rw [hF1, resizeF, List.getD_eq_getElem?_getD, List.getElem?_set_self (by rw [HL.out.four]; exact hi), Option.getD_some, ← hs, Int.toNat_natCast]
  have HW2 : Hid (F1.set i (wrote s p b) = writeF fs i p b) := by
    show _ = _
    rw [hF1, resizeF, List.set_set, HW.out]
  have HZ : Hid (wrote s p b = (sized s E).take p ++ b ++ (sized s E).drop (p + nb)) := by
    show _ = _
    rw [wrote, ← HNb.out, ← HNs.out, ← HE.out]
  have HZL : Hid ((wrote s p b).length ≤ 2304) := by show _ ≤ _; rw [wrote_len, ← HNb.out, ← HNs.out, ← HE.out]; exact hE23
  have hEle : p + nb ≤ E ∧ n ≤ E := by omega
  have hEor : (E = p + nb ∧ n ≤ p + nb) ∨ (E = n ∧ p + nb < n) := by omega
  clear hs hn hE hEnd Hr hF1 HW HEnd hbn h2 hz
  -- the strings of the store
  obtain ⟨zs, hzs⟩ : ∃ zs, zs = strB (F1.getD i []) := ⟨_, rfl⟩
  have HS := Lib.hid hzs
  have hzl : zs.size = E := by rw [hzs, strB_size, HF1.out, sized_length]
  obtain ⟨p1, hp1⟩ : ∃ x, x = zs.extract 0 p := ⟨_, rfl⟩
  have hp1' : p1 = strB ((sized s E).take p) := by rw [hp1, hzs, HF1.out, strB_extract, List.drop_zero]
  have hl1 : p1.size = p := by rw [hp1', strB_size, List.length_take, sized_length]; omega
  obtain ⟨p3, hp3⟩ : ∃ x, x = zs.extract (p + nb) E := ⟨_, rfl⟩
  have hp3' : p3 = strB ((sized s E).drop (p + nb)) := by rw [hp3, hzs, HF1.out, strB_extract, List.take_of_length_le (by rw [sized_length]; exact Nat.le_refl _)]
  have hl3 : p3.size = E - (p + nb) := by rw [hp3', strB_size, List.length_drop, sized_length]
  obtain ⟨p2, hp2⟩ : ∃ x, x = p1 ++ sb := ⟨_, rfl⟩
  have hl2 : p2.size = p + nb := by rw [hp2, ByteArray.size_append, hl1, hnb]
  obtain ⟨p4, hp4⟩ : ∃ x, x = p2 ++ p3 := ⟨_, rfl⟩
  have HP4 : Hid (p4 = strB (wrote s p b)) := by show _ = _; rw [hp4, hp2, hp1', hp3', HSb.out, strB_append, strB_append, HZ.out]
  have q1 : zs.extract 0 p = p1 := hp1.symm
  have q2 : p1 ++ sb = p2 := hp2.symm
  have q3 : zs.extract (p + nb) E = p3 := hp3.symm
  have q4 : p2 ++ p3 = p4 := hp4.symm
  have hw : IntKind.i64.wrap ((p : Int) + (nb : Int)) = ((p + nb : Nat) : Int) := by rw [wrapI _ ⟨by omega, by omega⟩]; omega
  have hA : (p : Int) ≤ (E : Int) := by omega
  have hB : ((p + nb : Nat) : Int) ≤ (E : Int) := by omega
  clear hzs hp1' hp3' HZ HF1 HSs hp1 hp2 hp3 hp4 HNb
  rcases hEor with ⟨hE1, hcmp⟩ | ⟨hE1, hcmp⟩
  · have HRa : Hid (Calls Try.prog 14 #[.pointer (some ⟨o, 0, none⟩), .int .i64 i, .int .i64 ((p : Int) + nb)] w fun e w' => e = .returned (.int .i64 r) ∧ FlAt w' o lb g (if r = 0 then F1 else fs) ∧ w.grownBy w' (some lb)) := by
      have := HRz.out
      rwa [show (E : Int) = (p : Int) + nb by omega] at this
    clear HRz hE1
    generalize strB s = st at *
    go_wp2_with fail
    refine HRa.out.mono ?_
    rintro e w1 ⟨rfl, hL1, hG1⟩
    by_cases hr0 : r = 0
    · subst hr0
      rw [if_pos rfl] at hL1
      have HL1 := Lib.hid hL1
      have HG1 := Lib.hid hG1
      have hKeep : ∀ W, Below w1.heap.size w1 W → W.cell? ⟨o, 2, none⟩ = some (.slice (some ⟨lb, 0, none⟩) 4 4) := fun W hW => (HL1.out.below hW).head.cell 2
      have HKeep := Lib.hid hKeep
      clear hKeep hL1 hG1 c2 cs HRa HL HE HNs HSb
      go_wp2
      have hC : Below w1.heap.size w1 w1.drew := below_drewN (Below.refl _ _) 1
      refine wp_region_held_drew (S := (fun W => W.cell? ⟨o, 2, none⟩ = some (.slice (some ⟨lb, 0, none⟩) 4 4))) (by kernel_rfl) (HKeep.out _ hC) (fun hHeld => ?_)
      generalize w1.drew = w1d at *
      refine wpAnyH_take (i := 0) (oi := ⟨some 54, _, _, _, _, _⟩) (v := ?_) rfl (by kernel_rfl) (by kernel_rfl) (by kernel_rfl) (fun _ _ _ h => h) (Or.inl ⟨by rfl, ?_⟩) hHeld ?_
      rotate_left
      · intro w hSw
        go_simp
        with_reducible rfl
      try go_frame
      refine wpAnyH_take (i := 1) (oi := ⟨some 55, _, _, _, _, _⟩) (v := ?_) rfl (by kernel_rfl) (by kernel_rfl) (by kernel_rfl) (fun _ _ _ h => h) (Or.inl ⟨by rfl, ?_⟩) hHeld ?_
      rotate_left
      · intro w hSw
        have s2 := hSw
        go_simp
        with_reducible rfl
      try go_frame
      refine wpAnyH_take (i := 2) (oi := ⟨some 56, _, _, _, _, _⟩) (v := ?_) rfl (by kernel_rfl) (by kernel_rfl) (by kernel_rfl) (fun _ _ _ h => h) (Or.inl ⟨by rfl, ?_⟩) hHeld ?_
      rotate_left
      · intro w hSw
        go_simp
        with_reducible rfl
      try go_frame
      refine wpAnyH_take (i := 3) (oi := ⟨some 57, _, _, _, _, _⟩) (v := ?_) rfl (by kernel_rfl) (by kernel_rfl) (by kernel_rfl) (fun _ _ _ h => h) (Or.inl ⟨by rfl, ?_⟩) hHeld ?_
      rotate_left
      · intro w hSw
        have s2 := hSw
        go_simp
        with_reducible rfl
      try go_frame
      refine wpAnyH_take (i := 4) (oi := ⟨some 58, _, _, _, _, _⟩) (v := ?_) rfl (by kernel_rfl) (by kernel_rfl) (by kernel_rfl) (fun _ _ _ h => h) (Or.inl ⟨by rfl, ?_⟩) hHeld ?_
      rotate_left
      · intro w hSw
        go_simp
        with_reducible rfl
      try go_frame
      refine wpAnyH_take (i := 5) (oi := ⟨some 59, _, _, _, _, _⟩) (v := ?_) rfl (by kernel_rfl) (by kernel_rfl) (by kernel_rfl) (fun _ _ _ h => h) (Or.inl ⟨by rfl, ?_⟩) hHeld ?_
      rotate_left
      · intro w hSw
        go_simp
        with_reducible rfl
      try go_frame
      refine wpAnyH_take (i := 6) (oi := ⟨some 60, _, _, _, _, _⟩) (v := ?_) rfl (by kernel_rfl) (by kernel_rfl) (by kernel_rfl) (fun _ _ _ h => h) (Or.inl ⟨by rfl, ?_⟩) hHeld ?_
      rotate_left
      · intro w hSw
        have s2 := hSw
        go_simp
        with_reducible rfl
      try go_frame
      refine wpAnyH_take (i := 7) (oi := ⟨some 61, _, _, _, _, _⟩) (v := ?_) rfl (by kernel_rfl) (by kernel_rfl) (by kernel_rfl) (fun _ _ _ h => h) (Or.inl ⟨by rfl, ?_⟩) hHeld ?_
      rotate_left
      · intro w hSw
        go_simp
        with_reducible rfl
      try go_frame
      refine wpAnyH_take (i := 8) (oi := ⟨some 62, _, _, _, _, _⟩) (v := ?_) rfl (by kernel_rfl) (by kernel_rfl) (by kernel_rfl) (fun _ _ _ h => h) (Or.inl ⟨by rfl, ?_⟩) hHeld ?_
      rotate_left
      · intro w hSw
        have s2 := hSw
        go_simp
        with_reducible rfl
      try go_frame
      refine wpAnyH_take (i := 9) (oi := ⟨some 63, _, _, _, _, _⟩) (v := ?_) rfl (by kernel_rfl) (by kernel_rfl) (by kernel_rfl) (fun _ _ _ h => h) (Or.inl ⟨by rfl, ?_⟩) hHeld ?_
      rotate_left
      · intro w hSw
        go_simp
        with_reducible rfl
      try go_frame
      refine wpAnyH_take (i := 10) (oi := ⟨some 64, _, _, _, _, _⟩) (v := ?_) rfl (by kernel_rfl) (by kernel_rfl) (by kernel_rfl) (fun _ _ _ h => h) (Or.inl ⟨by rfl, ?_⟩) hHeld ?_
      rotate_left
      · intro w hSw
        go_simp
        with_reducible rfl
      try go_frame
      refine wpAnyH_take (i := 12) (oi := ⟨some 66, _, _, _, _, _⟩) (v := ?_) rfl (by kernel_rfl) (by kernel_rfl) (by kernel_rfl) (fun _ _ _ h => h) (Or.inl ⟨by rfl, ?_⟩) hHeld ?_
      rotate_left
      · intro w hSw
        go_simp
        with_reducible rfl
      try go_frame
      refine wpAnyH_take (i := 14) (oi := ⟨some 68, _, _, _, _, _⟩) (v := ?_) rfl (by kernel_rfl) (by kernel_rfl) (by kernel_rfl) (fun _ _ _ h => h) (Or.inl ⟨by rfl, ?_⟩) hHeld ?_
      rotate_left
      · intro w hSw
        go_simp
        with_reducible rfl
      try go_frame
      refine wpAnyH_take (i := 16) (oi := ⟨some 70, _, _, _, _, _⟩) (v := ?_) rfl (by kernel_rfl) (by kernel_rfl) (by kernel_rfl) (fun _ _ _ h => h) (Or.inl ⟨by rfl, ?_⟩) hHeld ?_
      rotate_left
      · intro w hSw
        go_simp
        with_reducible rfl
      try go_frame
      refine wpAnyH_take (i := 17) (oi := ⟨some 71, _, _, _, _, _⟩) (v := ?_) rfl (by kernel_rfl) (by kernel_rfl) (by kernel_rfl) (fun _ _ _ h => h) (Or.inl ⟨by rfl, ?_⟩) hHeld ?_
      rotate_left
      · intro w hSw
        have s2 := hSw
        go_simp
        with_reducible rfl
      try go_frame
      refine wpAnyH_take (i := 18) (oi := ⟨some 72, _, _, _, _, _⟩) (v := ?_) rfl (by kernel_rfl) (by kernel_rfl) (by kernel_rfl) (fun _ _ _ h => h) (Or.inl ⟨by rfl, ?_⟩) hHeld ?_
      rotate_left
      · intro w hSw
        go_simp
        with_reducible rfl
      try go_frame
      refine wpAnyH_take (i := 19) (oi := ⟨some 73, _, _, _, _, _⟩) (v := ?_) rfl (by kernel_rfl) (by kernel_rfl) (by kernel_rfl) (fun _ _ _ h => h) (Or.inl ⟨by rfl, ?_⟩) hHeld ?_
      rotate_left
      · intro w hSw
        have s2 := hSw
        go_simp
        with_reducible rfl
      try go_frame
      refine wpAnyH_take (i := 20) (oi := ⟨some 74, _, _, _, _, _⟩) (v := ?_) rfl (by kernel_rfl) (by kernel_rfl) (by kernel_rfl) (fun _ _ _ h => h) (Or.inl ⟨by rfl, ?_⟩) hHeld ?_
      rotate_left
      · intro w hSw
        go_simp
        with_reducible rfl
      try go_frame
      refine wpAnyH_take (i := 21) (oi := ⟨some 75, _, _, _, _, _⟩) (v := ?_) rfl (by kernel_rfl) (by kernel_rfl) (by kernel_rfl) (fun _ _ _ h => h) (Or.inl ⟨by rfl, ?_⟩) hHeld ?_
      rotate_left
      · intro w hSw
        go_simp
        with_reducible rfl
      try go_frame
      refine wpAnyH_take (i := 23) (oi := ⟨some 77, _, _, _, _, _⟩) (v := ?_) rfl (by kernel_rfl) (by kernel_rfl) (by kernel_rfl) (fun _ _ _ h => h) (Or.inl ⟨by rfl, ?_⟩) hHeld ?_
      rotate_left
      · intro w hSw
        go_simp
        with_reducible rfl
      try go_frame
      refine wpAnyH_take (i := 24) (oi := ⟨some 78, _, _, _, _, _⟩) (v := ?_) rfl (by kernel_rfl) (by kernel_rfl) (by kernel_rfl) (fun _ _ _ h => h) (Or.inl ⟨by rfl, ?_⟩) hHeld ?_
      rotate_left
      · intro w hSw
        go_simp
        with_reducible rfl
      try go_frame
      refine wpAnyH_take (i := 25) (oi := ⟨some 79, _, _, _, _, _⟩) (v := ?_) rfl (by kernel_rfl) (by kernel_rfl) (by kernel_rfl) (fun _ _ _ h => h) (Or.inl ⟨by rfl, ?_⟩) hHeld ?_
      rotate_left
      · intro w hSw
        go_simp
        with_reducible rfl
      try go_frame
      refine wpAnyH_take (i := 26) (oi := ⟨some 80, _, _, _, _, _⟩) (v := ?_) rfl (by kernel_rfl) (by kernel_rfl) (by kernel_rfl) (fun _ _ _ h => h) (Or.inl ⟨by rfl, ?_⟩) hHeld ?_
      rotate_left
      · intro w hSw
        go_simp
        with_reducible rfl
      try go_frame
      refine wpAnyH_ready (rs := [11, 22]) (by kernel_rfl) (by simp) ?_
      refine AllReadyH.cons (o := ⟨some 65, _, _, _, _, _⟩) rfl (fun K hK => ?_) ?_
      · skip
        have cS := (HL1.out.below hC).cell i hi
        rw [← HS.out] at cS
        go_simp
        refine hK.out _ _ (HKeep.out _ hC) (fun hHeld => ?_)
        clear hK K cS
        try go_frame
        refine wpAnyH_take (i := 13) (oi := ⟨some 67, _, _, _, _, _⟩) (v := ?_) rfl (by kernel_rfl) (by kernel_rfl) (by kernel_rfl) (fun _ _ _ h => h) (Or.inl ⟨by rfl, ?_⟩) hHeld ?_
        rotate_left
        · intro w hSw
          go_simp
          with_reducible rfl
        try go_frame
        refine wpAnyH_take (i := 15) (oi := ⟨some 69, _, _, _, _, _⟩) (v := ?_) rfl (by kernel_rfl) (by kernel_rfl) (by kernel_rfl) (fun _ _ _ h => h) (Or.inl ⟨by rfl, ?_⟩) hHeld ?_
        rotate_left
        · intro w hSw
          have hC1 : (9223372036854775807 < p + nb) = False := eq_false (by omega)
          go_simp
          with_reducible rfl
        try go_frame
        refine wpAnyH_ready (rs := [22]) (by kernel_rfl) (by simp) ?_
        refine AllReadyH.cons (o := ⟨some 76, _, _, _, _, _⟩) rfl (fun K hK => ?_) AllReadyH.nil
        have cS := (HL1.out.below hC).cell i hi
        rw [← HS.out] at cS
        go_simp
        refine hK.out _ _ (HKeep.out _ hC) (fun hHeld => ?_)
        clear hK K cS
        try go_frame
        refine wpAnyH_take (i := 27) (oi := ⟨some 81, _, _, _, _, _⟩) (v := ?_) rfl (by kernel_rfl) (by kernel_rfl) (by kernel_rfl) (fun _ _ _ h => h) (Or.inl ⟨by rfl, ?_⟩) hHeld ?_
        rotate_left
        · intro w hSw
          have hC2 : (0 ≤ (p : Int) + (nb : Int) ∧ (p : Int) + (nb : Int) ≤ (E : Int)) = True := eq_true ⟨by omega, by omega⟩
          have hC3 : ((p : Int) + (nb : Int)).toNat = p + nb := by omega
          go_simp
          with_reducible rfl
        try go_frame
        refine wpAnyH_take (i := 28) (oi := ⟨some 82, _, _, _, _, _⟩) (v := ?_) rfl (by kernel_rfl) (by kernel_rfl) (by kernel_rfl) (fun _ _ _ h => h) (Or.inl ⟨by rfl, ?_⟩) hHeld ?_
        rotate_left
        · intro w hSw
          have hC4 : (9223372036854775807 < E) = False := eq_false (by omega)
          go_simp
          with_reducible rfl
        try go_frame
        refine wpAnyH_take (i := 29) (oi := ⟨some 83, _, _, _, _, _⟩) (v := ?_) rfl (by kernel_rfl) (by kernel_rfl) (by kernel_rfl) (fun _ _ _ h => h) (Or.inl ⟨by rfl, ?_⟩) hHeld ?_
        rotate_left
        · intro w hSw
          go_simp
          with_reducible rfl
        try go_frame
        refine wpAnyH_ready (rs := [30]) (by kernel_rfl) (by simp) ?_
        refine AllReadyH.cons (o := ⟨none, _, _, _, _, _⟩) rfl (fun K hK => ?_) AllReadyH.nil
        have hL9 := HL1.out.below hC
        have cS := hL9.cell i hi
        have fS := hL9.row.free i
        go_simp
        have hS9 : (w1d.setCell ⟨lb, i, none⟩ (.string (p4))).cell? ⟨o, 2, none⟩ = some (.slice (some ⟨lb, 0, none⟩) 4 4) := by rw [World.cell?_setCell_other _ _ _ _ (fun e => hL9.off (by injection e with e1; exact e1.symm))]; exact hL9.head.cell 2
        refine hK.out _ _ hS9 (fun hHeld => ?_)
        have HL9 := Lib.hid hL9
        have HC9 : Hid (Below w1.heap.size w1 w1d) := hC
        clear hK K cS fS hS9 hL9 hC
        try go_frame
        refine wpAnyH_done (by kernel_rfl) ?_ _
        have HL2 : Hid (FlAt (w1d.setCell ⟨lb, i, none⟩ (.string p4)) o lb g (writeF fs i (p : Int) b)) := by rw [← HW2.out, HP4.out]; exact HL9.out.put i _ HZL.out
        have HG2 : Hid (w.grownBy (w1d.setCell ⟨lb, i, none⟩ (.string p4)) (some lb)) := by_setCell (by_trans HG1.out (below_to_by HC9.out (some lb))) (.inl rfl) _
        clear HL9 HC9 hHeld HKeep
        go_wp2
        go_ret
        exact ⟨rfl, HL2.out, HG2.out⟩
      refine AllReadyH.cons (o := ⟨some 76, _, _, _, _, _⟩) rfl (fun K hK => ?_) ?_
      · skip
        have cS := (HL1.out.below hC).cell i hi
        rw [← HS.out] at cS
        go_simp
        refine hK.out _ _ (HKeep.out _ hC) (fun hHeld => ?_)
        clear hK K cS
        try go_frame
        refine wpAnyH_take (i := 27) (oi := ⟨some 81, _, _, _, _, _⟩) (v := ?_) rfl (by kernel_rfl) (by kernel_rfl) (by kernel_rfl) (fun _ _ _ h => h) (Or.inl ⟨by rfl, ?_⟩) hHeld ?_
        rotate_left
        · intro w hSw
          have hC2 : (0 ≤ (p : Int) + (nb : Int) ∧ (p : Int) + (nb : Int) ≤ (E : Int)) = True := eq_true ⟨by omega, by omega⟩
          have hC3 : ((p : Int) + (nb : Int)).toNat = p + nb := by omega
          go_simp
          with_reducible rfl
        try go_frame
        refine wpAnyH_ready (rs := [11]) (by kernel_rfl) (by simp) ?_
        refine AllReadyH.cons (o := ⟨some 65, _, _, _, _, _⟩) rfl (fun K hK => ?_) AllReadyH.nil
        have cS := (HL1.out.below hC).cell i hi
        rw [← HS.out] at cS
        go_simp
        refine hK.out _ _ (HKeep.out _ hC) (fun hHeld => ?_)
        clear hK K cS
        try go_frame
        refine wpAnyH_take (i := 13) (oi := ⟨some 67, _, _, _, _, _⟩) (v := ?_) rfl (by kernel_rfl) (by kernel_rfl) (by kernel_rfl) (fun _ _ _ h => h) (Or.inl ⟨by rfl, ?_⟩) hHeld ?_
        rotate_left
        · intro w hSw
          go_simp
          with_reducible rfl
        try go_frame
        refine wpAnyH_take (i := 15) (oi := ⟨some 69, _, _, _, _, _⟩) (v := ?_) rfl (by kernel_rfl) (by kernel_rfl) (by kernel_rfl) (fun _ _ _ h => h) (Or.inl ⟨by rfl, ?_⟩) hHeld ?_
        rotate_left
        · intro w hSw
          have hC1 : (9223372036854775807 < p + nb) = False := eq_false (by omega)
          go_simp
          with_reducible rfl
        try go_frame
        refine wpAnyH_take (i := 28) (oi := ⟨some 82, _, _, _, _, _⟩) (v := ?_) rfl (by kernel_rfl) (by kernel_rfl) (by kernel_rfl) (fun _ _ _ h => h) (Or.inl ⟨by rfl, ?_⟩) hHeld ?_
        rotate_left
        · intro w hSw
          have hC4 : (9223372036854775807 < E) = False := eq_false (by omega)
          go_simp
          with_reducible rfl
        try go_frame
        refine wpAnyH_take (i := 29) (oi := ⟨some 83, _, _, _, _, _⟩) (v := ?_) rfl (by kernel_rfl) (by kernel_rfl) (by kernel_rfl) (fun _ _ _ h => h) (Or.inl ⟨by rfl, ?_⟩) hHeld ?_
        rotate_left
        · intro w hSw
          go_simp
          with_reducible rfl
        try go_frame
        refine wpAnyH_ready (rs := [30]) (by kernel_rfl) (by simp) ?_
        refine AllReadyH.cons (o := ⟨none, _, _, _, _, _⟩) rfl (fun K hK => ?_) AllReadyH.nil
        have hL9 := HL1.out.below hC
        have cS := hL9.cell i hi
        have fS := hL9.row.free i
        go_simp
        have hS9 : (w1d.setCell ⟨lb, i, none⟩ (.string (p4))).cell? ⟨o, 2, none⟩ = some (.slice (some ⟨lb, 0, none⟩) 4 4) := by rw [World.cell?_setCell_other _ _ _ _ (fun e => hL9.off (by injection e with e1; exact e1.symm))]; exact hL9.head.cell 2
        refine hK.out _ _ hS9 (fun hHeld => ?_)
        have HL9 := Lib.hid hL9
        have HC9 : Hid (Below w1.heap.size w1 w1d) := hC
        clear hK K cS fS hS9 hL9 hC
        try go_frame
        refine wpAnyH_done (by kernel_rfl) ?_ _
        have HL2 : Hid (FlAt (w1d.setCell ⟨lb, i, none⟩ (.string p4)) o lb g (writeF fs i (p : Int) b)) := by rw [← HW2.out, HP4.out]; exact HL9.out.put i _ HZL.out
        have HG2 : Hid (w.grownBy (w1d.setCell ⟨lb, i, none⟩ (.string p4)) (some lb)) := by_setCell (by_trans HG1.out (below_to_by HC9.out (some lb))) (.inl rfl) _
        clear HL9 HC9 hHeld HKeep
        go_wp2
        go_ret
        exact ⟨rfl, HL2.out, HG2.out⟩
      exact AllReadyH.nil
    · rw [if_neg hr0] at hL1
      have HL1 := Lib.hid hL1
      have HG1 := Lib.hid hG1
      have hrb : (r != 0) = true := bne_iff_ne.2 hr0
      clear hL1 hG1 HL HRa
      go_wp2
      go_ret
      exact ⟨rfl, HL1.out, HG1.out⟩
  · have HRa : Hid (Calls Try.prog 14 #[.pointer (some ⟨o, 0, none⟩), .int .i64 i, .int .i64 (n : Int)] w fun e w' => e = .returned (.int .i64 r) ∧ FlAt w' o lb g (if r = 0 then F1 else fs) ∧ w.grownBy w' (some lb)) := by
      have := HRz.out
      rwa [show (E : Int) = (n : Int) by omega] at this
    clear HRz hE1
    generalize strB s = st at *
    go_wp2_with fail
    refine HRa.out.mono ?_
    rintro e w1 ⟨rfl, hL1, hG1⟩
    by_cases hr0 : r = 0
    · subst hr0
      rw [if_pos rfl] at hL1
      have HL1 := Lib.hid hL1
      have HG1 := Lib.hid hG1
      have hKeep : ∀ W, Below w1.heap.size w1 W → W.cell? ⟨o, 2, none⟩ = some (.slice (some ⟨lb, 0, none⟩) 4 4) := fun W hW => (HL1.out.below hW).head.cell 2
      have HKeep := Lib.hid hKeep
      clear hKeep hL1 hG1 c2 cs HRa HL HE HNs HSb
      go_wp2
      have hC : Below w1.heap.size w1 w1.drew := below_drewN (Below.refl _ _) 1
      refine wp_region_held_drew (S := (fun W => W.cell? ⟨o, 2, none⟩ = some (.slice (some ⟨lb, 0, none⟩) 4 4))) (by kernel_rfl) (HKeep.out _ hC) (fun hHeld => ?_)
      generalize w1.drew = w1d at *
      refine wpAnyH_take (i := 0) (oi := ⟨some 54, _, _, _, _, _⟩) (v := ?_) rfl (by kernel_rfl) (by kernel_rfl) (by kernel_rfl) (fun _ _ _ h => h) (Or.inl ⟨by rfl, ?_⟩) hHeld ?_
      rotate_left
      · intro w hSw
        go_simp
        with_reducible rfl
      try go_frame
      refine wpAnyH_take (i := 1) (oi := ⟨some 55, _, _, _, _, _⟩) (v := ?_) rfl (by kernel_rfl) (by kernel_rfl) (by kernel_rfl) (fun _ _ _ h => h) (Or.inl ⟨by rfl, ?_⟩) hHeld ?_
      rotate_left
      · intro w hSw
        have s2 := hSw
        go_simp
        with_reducible rfl
      try go_frame
      refine wpAnyH_take (i := 2) (oi := ⟨some 56, _, _, _, _, _⟩) (v := ?_) rfl (by kernel_rfl) (by kernel_rfl) (by kernel_rfl) (fun _ _ _ h => h) (Or.inl ⟨by rfl, ?_⟩) hHeld ?_
      rotate_left
      · intro w hSw
        go_simp
        with_reducible rfl
      try go_frame
      refine wpAnyH_take (i := 3) (oi := ⟨some 57, _, _, _, _, _⟩) (v := ?_) rfl (by kernel_rfl) (by kernel_rfl) (by kernel_rfl) (fun _ _ _ h => h) (Or.inl ⟨by rfl, ?_⟩) hHeld ?_
      rotate_left
      · intro w hSw
        have s2 := hSw
        go_simp
        with_reducible rfl
      try go_frame
      refine wpAnyH_take (i := 4) (oi := ⟨some 58, _, _, _, _, _⟩) (v := ?_) rfl (by kernel_rfl) (by kernel_rfl) (by kernel_rfl) (fun _ _ _ h => h) (Or.inl ⟨by rfl, ?_⟩) hHeld ?_
      rotate_left
      · intro w hSw
        go_simp
        with_reducible rfl
      try go_frame
      refine wpAnyH_take (i := 5) (oi := ⟨some 59, _, _, _, _, _⟩) (v := ?_) rfl (by kernel_rfl) (by kernel_rfl) (by kernel_rfl) (fun _ _ _ h => h) (Or.inl ⟨by rfl, ?_⟩) hHeld ?_
      rotate_left
      · intro w hSw
        go_simp
        with_reducible rfl
      try go_frame
      refine wpAnyH_take (i := 6) (oi := ⟨some 60, _, _, _, _, _⟩) (v := ?_) rfl (by kernel_rfl) (by kernel_rfl) (by kernel_rfl) (fun _ _ _ h => h) (Or.inl ⟨by rfl, ?_⟩) hHeld ?_
      rotate_left
      · intro w hSw
        have s2 := hSw
        go_simp
        with_reducible rfl
      try go_frame
      refine wpAnyH_take (i := 7) (oi := ⟨some 61, _, _, _, _, _⟩) (v := ?_) rfl (by kernel_rfl) (by kernel_rfl) (by kernel_rfl) (fun _ _ _ h => h) (Or.inl ⟨by rfl, ?_⟩) hHeld ?_
      rotate_left
      · intro w hSw
        go_simp
        with_reducible rfl
      try go_frame
      refine wpAnyH_take (i := 8) (oi := ⟨some 62, _, _, _, _, _⟩) (v := ?_) rfl (by kernel_rfl) (by kernel_rfl) (by kernel_rfl) (fun _ _ _ h => h) (Or.inl ⟨by rfl, ?_⟩) hHeld ?_
      rotate_left
      · intro w hSw
        have s2 := hSw
        go_simp
        with_reducible rfl
      try go_frame
      refine wpAnyH_take (i := 9) (oi := ⟨some 63, _, _, _, _, _⟩) (v := ?_) rfl (by kernel_rfl) (by kernel_rfl) (by kernel_rfl) (fun _ _ _ h => h) (Or.inl ⟨by rfl, ?_⟩) hHeld ?_
      rotate_left
      · intro w hSw
        go_simp
        with_reducible rfl
      try go_frame
      refine wpAnyH_take (i := 10) (oi := ⟨some 64, _, _, _, _, _⟩) (v := ?_) rfl (by kernel_rfl) (by kernel_rfl) (by kernel_rfl) (fun _ _ _ h => h) (Or.inl ⟨by rfl, ?_⟩) hHeld ?_
      rotate_left
      · intro w hSw
        go_simp
        with_reducible rfl
      try go_frame
      refine wpAnyH_take (i := 12) (oi := ⟨some 66, _, _, _, _, _⟩) (v := ?_) rfl (by kernel_rfl) (by kernel_rfl) (by kernel_rfl) (fun _ _ _ h => h) (Or.inl ⟨by rfl, ?_⟩) hHeld ?_
      rotate_left
      · intro w hSw
        go_simp
        with_reducible rfl
      try go_frame
      refine wpAnyH_take (i := 14) (oi := ⟨some 68, _, _, _, _, _⟩) (v := ?_) rfl (by kernel_rfl) (by kernel_rfl) (by kernel_rfl) (fun _ _ _ h => h) (Or.inl ⟨by rfl, ?_⟩) hHeld ?_
      rotate_left
      · intro w hSw
        go_simp
        with_reducible rfl
      try go_frame
      refine wpAnyH_take (i := 16) (oi := ⟨some 70, _, _, _, _, _⟩) (v := ?_) rfl (by kernel_rfl) (by kernel_rfl) (by kernel_rfl) (fun _ _ _ h => h) (Or.inl ⟨by rfl, ?_⟩) hHeld ?_
      rotate_left
      · intro w hSw
        go_simp
        with_reducible rfl
      try go_frame
      refine wpAnyH_take (i := 17) (oi := ⟨some 71, _, _, _, _, _⟩) (v := ?_) rfl (by kernel_rfl) (by kernel_rfl) (by kernel_rfl) (fun _ _ _ h => h) (Or.inl ⟨by rfl, ?_⟩) hHeld ?_
      rotate_left
      · intro w hSw
        have s2 := hSw
        go_simp
        with_reducible rfl
      try go_frame
      refine wpAnyH_take (i := 18) (oi := ⟨some 72, _, _, _, _, _⟩) (v := ?_) rfl (by kernel_rfl) (by kernel_rfl) (by kernel_rfl) (fun _ _ _ h => h) (Or.inl ⟨by rfl, ?_⟩) hHeld ?_
      rotate_left
      · intro w hSw
        go_simp
        with_reducible rfl
      try go_frame
      refine wpAnyH_take (i := 19) (oi := ⟨some 73, _, _, _, _, _⟩) (v := ?_) rfl (by kernel_rfl) (by kernel_rfl) (by kernel_rfl) (fun _ _ _ h => h) (Or.inl ⟨by rfl, ?_⟩) hHeld ?_
      rotate_left
      · intro w hSw
        have s2 := hSw
        go_simp
        with_reducible rfl
      try go_frame
      refine wpAnyH_take (i := 20) (oi := ⟨some 74, _, _, _, _, _⟩) (v := ?_) rfl (by kernel_rfl) (by kernel_rfl) (by kernel_rfl) (fun _ _ _ h => h) (Or.inl ⟨by rfl, ?_⟩) hHeld ?_
      rotate_left
      · intro w hSw
        go_simp
        with_reducible rfl
      try go_frame
      refine wpAnyH_take (i := 21) (oi := ⟨some 75, _, _, _, _, _⟩) (v := ?_) rfl (by kernel_rfl) (by kernel_rfl) (by kernel_rfl) (fun _ _ _ h => h) (Or.inl ⟨by rfl, ?_⟩) hHeld ?_
      rotate_left
      · intro w hSw
        go_simp
        with_reducible rfl
      try go_frame
      refine wpAnyH_take (i := 23) (oi := ⟨some 77, _, _, _, _, _⟩) (v := ?_) rfl (by kernel_rfl) (by kernel_rfl) (by kernel_rfl) (fun _ _ _ h => h) (Or.inl ⟨by rfl, ?_⟩) hHeld ?_
      rotate_left
      · intro w hSw
        go_simp
        with_reducible rfl
      try go_frame
      refine wpAnyH_take (i := 24) (oi := ⟨some 78, _, _, _, _, _⟩) (v := ?_) rfl (by kernel_rfl) (by kernel_rfl) (by kernel_rfl) (fun _ _ _ h => h) (Or.inl ⟨by rfl, ?_⟩) hHeld ?_
      rotate_left
      · intro w hSw
        go_simp
        with_reducible rfl
      try go_frame
      refine wpAnyH_take (i := 25) (oi := ⟨some 79, _, _, _, _, _⟩) (v := ?_) rfl (by kernel_rfl) (by kernel_rfl) (by kernel_rfl) (fun _ _ _ h => h) (Or.inl ⟨by rfl, ?_⟩) hHeld ?_
      rotate_left
      · intro w hSw
        go_simp
        with_reducible rfl
      try go_frame
      refine wpAnyH_take (i := 26) (oi := ⟨some 80, _, _, _, _, _⟩) (v := ?_) rfl (by kernel_rfl) (by kernel_rfl) (by kernel_rfl) (fun _ _ _ h => h) (Or.inl ⟨by rfl, ?_⟩) hHeld ?_
      rotate_left
      · intro w hSw
        go_simp
        with_reducible rfl
      try go_frame
      refine wpAnyH_ready (rs := [11, 22]) (by kernel_rfl) (by simp) ?_
      refine AllReadyH.cons (o := ⟨some 65, _, _, _, _, _⟩) rfl (fun K hK => ?_) ?_
      · skip
        have cS := (HL1.out.below hC).cell i hi
        rw [← HS.out] at cS
        go_simp
        refine hK.out _ _ (HKeep.out _ hC) (fun hHeld => ?_)
        clear hK K cS
        try go_frame
        refine wpAnyH_take (i := 13) (oi := ⟨some 67, _, _, _, _, _⟩) (v := ?_) rfl (by kernel_rfl) (by kernel_rfl) (by kernel_rfl) (fun _ _ _ h => h) (Or.inl ⟨by rfl, ?_⟩) hHeld ?_
        rotate_left
        · intro w hSw
          go_simp
          with_reducible rfl
        try go_frame
        refine wpAnyH_take (i := 15) (oi := ⟨some 69, _, _, _, _, _⟩) (v := ?_) rfl (by kernel_rfl) (by kernel_rfl) (by kernel_rfl) (fun _ _ _ h => h) (Or.inl ⟨by rfl, ?_⟩) hHeld ?_
        rotate_left
        · intro w hSw
          have hC1 : (9223372036854775807 < p + nb) = False := eq_false (by omega)
          go_simp
          with_reducible rfl
        try go_frame
        refine wpAnyH_ready (rs := [22]) (by kernel_rfl) (by simp) ?_
        refine AllReadyH.cons (o := ⟨some 76, _, _, _, _, _⟩) rfl (fun K hK => ?_) AllReadyH.nil
        have cS := (HL1.out.below hC).cell i hi
        rw [← HS.out] at cS
        go_simp
        refine hK.out _ _ (HKeep.out _ hC) (fun hHeld => ?_)
        clear hK K cS
        try go_frame
        refine wpAnyH_take (i := 27) (oi := ⟨some 81, _, _, _, _, _⟩) (v := ?_) rfl (by kernel_rfl) (by kernel_rfl) (by kernel_rfl) (fun _ _ _ h => h) (Or.inl ⟨by rfl, ?_⟩) hHeld ?_
        rotate_left
        · intro w hSw
          have hC2 : (0 ≤ (p : Int) + (nb : Int) ∧ (p : Int) + (nb : Int) ≤ (E : Int)) = True := eq_true ⟨by omega, by omega⟩
          have hC3 : ((p : Int) + (nb : Int)).toNat = p + nb := by omega
          go_simp
          with_reducible rfl
        try go_frame
        refine wpAnyH_take (i := 28) (oi := ⟨some 82, _, _, _, _, _⟩) (v := ?_) rfl (by kernel_rfl) (by kernel_rfl) (by kernel_rfl) (fun _ _ _ h => h) (Or.inl ⟨by rfl, ?_⟩) hHeld ?_
        rotate_left
        · intro w hSw
          have hC4 : (9223372036854775807 < E) = False := eq_false (by omega)
          go_simp
          with_reducible rfl
        try go_frame
        refine wpAnyH_take (i := 29) (oi := ⟨some 83, _, _, _, _, _⟩) (v := ?_) rfl (by kernel_rfl) (by kernel_rfl) (by kernel_rfl) (fun _ _ _ h => h) (Or.inl ⟨by rfl, ?_⟩) hHeld ?_
        rotate_left
        · intro w hSw
          go_simp
          with_reducible rfl
        try go_frame
        refine wpAnyH_ready (rs := [30]) (by kernel_rfl) (by simp) ?_
        refine AllReadyH.cons (o := ⟨none, _, _, _, _, _⟩) rfl (fun K hK => ?_) AllReadyH.nil
        have hL9 := HL1.out.below hC
        have cS := hL9.cell i hi
        have fS := hL9.row.free i
        go_simp
        have hS9 : (w1d.setCell ⟨lb, i, none⟩ (.string (p4))).cell? ⟨o, 2, none⟩ = some (.slice (some ⟨lb, 0, none⟩) 4 4) := by rw [World.cell?_setCell_other _ _ _ _ (fun e => hL9.off (by injection e with e1; exact e1.symm))]; exact hL9.head.cell 2
        refine hK.out _ _ hS9 (fun hHeld => ?_)
        have HL9 := Lib.hid hL9
        have HC9 : Hid (Below w1.heap.size w1 w1d) := hC
        clear hK K cS fS hS9 hL9 hC
        try go_frame
        refine wpAnyH_done (by kernel_rfl) ?_ _
        have HL2 : Hid (FlAt (w1d.setCell ⟨lb, i, none⟩ (.string p4)) o lb g (writeF fs i (p : Int) b)) := by rw [← HW2.out, HP4.out]; exact HL9.out.put i _ HZL.out
        have HG2 : Hid (w.grownBy (w1d.setCell ⟨lb, i, none⟩ (.string p4)) (some lb)) := by_setCell (by_trans HG1.out (below_to_by HC9.out (some lb))) (.inl rfl) _
        clear HL9 HC9 hHeld HKeep
        go_wp2
        go_ret
        exact ⟨rfl, HL2.out, HG2.out⟩
      refine AllReadyH.cons (o := ⟨some 76, _, _, _, _, _⟩) rfl (fun K hK => ?_) ?_
      · skip
        have cS := (HL1.out.below hC).cell i hi
        rw [← HS.out] at cS
        go_simp
        refine hK.out _ _ (HKeep.out _ hC) (fun hHeld => ?_)
        clear hK K cS
        try go_frame
        refine wpAnyH_take (i := 27) (oi := ⟨some 81, _, _, _, _, _⟩) (v := ?_) rfl (by kernel_rfl) (by kernel_rfl) (by kernel_rfl) (fun _ _ _ h => h) (Or.inl ⟨by rfl, ?_⟩) hHeld ?_
        rotate_left
        · intro w hSw
          have hC2 : (0 ≤ (p : Int) + (nb : Int) ∧ (p : Int) + (nb : Int) ≤ (E : Int)) = True := eq_true ⟨by omega, by omega⟩
          have hC3 : ((p : Int) + (nb : Int)).toNat = p + nb := by omega
          go_simp
          with_reducible rfl
        try go_frame
        refine wpAnyH_ready (rs := [11]) (by kernel_rfl) (by simp) ?_
        refine AllReadyH.cons (o := ⟨some 65, _, _, _, _, _⟩) rfl (fun K hK => ?_) AllReadyH.nil
        have cS := (HL1.out.below hC).cell i hi
        rw [← HS.out] at cS
        go_simp
        refine hK.out _ _ (HKeep.out _ hC) (fun hHeld => ?_)
        clear hK K cS
        try go_frame
        refine wpAnyH_take (i := 13) (oi := ⟨some 67, _, _, _, _, _⟩) (v := ?_) rfl (by kernel_rfl) (by kernel_rfl) (by kernel_rfl) (fun _ _ _ h => h) (Or.inl ⟨by rfl, ?_⟩) hHeld ?_
        rotate_left
        · intro w hSw
          go_simp
          with_reducible rfl
        try go_frame
        refine wpAnyH_take (i := 15) (oi := ⟨some 69, _, _, _, _, _⟩) (v := ?_) rfl (by kernel_rfl) (by kernel_rfl) (by kernel_rfl) (fun _ _ _ h => h) (Or.inl ⟨by rfl, ?_⟩) hHeld ?_
        rotate_left
        · intro w hSw
          have hC1 : (9223372036854775807 < p + nb) = False := eq_false (by omega)
          go_simp
          with_reducible rfl
        try go_frame
        refine wpAnyH_take (i := 28) (oi := ⟨some 82, _, _, _, _, _⟩) (v := ?_) rfl (by kernel_rfl) (by kernel_rfl) (by kernel_rfl) (fun _ _ _ h => h) (Or.inl ⟨by rfl, ?_⟩) hHeld ?_
        rotate_left
        · intro w hSw
          have hC4 : (9223372036854775807 < E) = False := eq_false (by omega)
          go_simp
          with_reducible rfl
        try go_frame
        refine wpAnyH_take (i := 29) (oi := ⟨some 83, _, _, _, _, _⟩) (v := ?_) rfl (by kernel_rfl) (by kernel_rfl) (by kernel_rfl) (fun _ _ _ h => h) (Or.inl ⟨by rfl, ?_⟩) hHeld ?_
        rotate_left
        · intro w hSw
          go_simp
          with_reducible rfl
        try go_frame
        refine wpAnyH_ready (rs := [30]) (by kernel_rfl) (by simp) ?_
        refine AllReadyH.cons (o := ⟨none, _, _, _, _, _⟩) rfl (fun K hK => ?_) AllReadyH.nil
        have hL9 := HL1.out.below hC
        have cS := hL9.cell i hi
        have fS := hL9.row.free i
        go_simp
        have hS9 : (w1d.setCell ⟨lb, i, none⟩ (.string (p4))).cell? ⟨o, 2, none⟩ = some (.slice (some ⟨lb, 0, none⟩) 4 4) := by rw [World.cell?_setCell_other _ _ _ _ (fun e => hL9.off (by injection e with e1; exact e1.symm))]; exact hL9.head.cell 2
        refine hK.out _ _ hS9 (fun hHeld => ?_)
        have HL9 := Lib.hid hL9
        have HC9 : Hid (Below w1.heap.size w1 w1d) := hC
        clear hK K cS fS hS9 hL9 hC
        try go_frame
        refine wpAnyH_done (by kernel_rfl) ?_ _
        have HL2 : Hid (FlAt (w1d.setCell ⟨lb, i, none⟩ (.string p4)) o lb g (writeF fs i (p : Int) b)) := by rw [← HW2.out, HP4.out]; exact HL9.out.put i _ HZL.out
        have HG2 : Hid (w.grownBy (w1d.setCell ⟨lb, i, none⟩ (.string p4)) (some lb)) := by_setCell (by_trans HG1.out (below_to_by HC9.out (some lb))) (.inl rfl) _
        clear HL9 HC9 hHeld HKeep
        go_wp2
        go_ret
        exact ⟨rfl, HL2.out, HG2.out⟩
      exact AllReadyH.nil
    · rw [if_neg hr0] at hL1
      have HL1 := Lib.hid hL1
      have HG1 := Lib.hid hG1
      have hrb : (r != 0) = true := bne_iff_ne.2 hr0
      clear hL1 hG1 HL HRa
      go_wp2
      go_ret
      exact ⟨rfl, HL1.out, HG1.out⟩
end Go.Proofs.Ytiafmghdiidniaa
