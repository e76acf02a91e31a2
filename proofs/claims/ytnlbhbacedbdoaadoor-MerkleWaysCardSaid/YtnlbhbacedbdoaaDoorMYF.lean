/-
  THE WALK of the program's Check.
-/
import Derived.Test.YtnlbhbacedbdoaaDoorMYE
namespace Go.Proofs.YtnlbhbacedbdoaaDoor
open Go.RowKit Go.Shelf Mk

theorem rangeAt_append {W : World} {b : Nat} : ∀ (xs ys : List Value) (o : Nat), W.rangeAt b o xs → W.rangeAt b (o + xs.length) ys → W.rangeAt b o (xs ++ ys) := fun xs ys o h1 h2 j v hj => by
  rcases Nat.lt_or_ge j xs.length with hlt | hge
  · rw [List.getElem?_append_left hlt] at hj
    exact h1 j v hj
  · rw [List.getElem?_append_right hge] at hj
    have := h2 (j - xs.length) v hj
    rwa [show o + xs.length + (j - xs.length) = o + j by omega] at this
theorem four_range {W : World} {b o : Nat} (f : List Tg) (hf : f.length = 4) (h32 : ∀ t ∈ f, t.length = 32) (hs : ∀ (i : Nat) (t : Tg), f[i]? = some t → Sees W b (o + 32 * i) (t.map V8)) : W.rangeAt b o (cells f) := by
  match f, hf with
  | [t0, t1, t2, t3], _ =>
  have l0 := h32 t0 (by simp)
  have l1 := h32 t1 (by simp)
  have l2 := h32 t2 (by simp)
  have h0 := hs 0 t0 rfl
  have h1 := hs 1 t1 rfl
  have h2 := hs 2 t2 rfl
  have h3 := hs 3 t3 rfl
  have e : cells [t0, t1, t2, t3] = t0.map V8 ++ (t1.map V8 ++ (t2.map V8 ++ t3.map V8)) := by simp [cells]
  rw [e]
  refine rangeAt_append _ _ _ h0 (rangeAt_append _ _ _ ?_ (rangeAt_append _ _ _ ?_ ?_))
  · rw [List.length_map, l0]; exact h1
  · rw [List.length_map, List.length_map, l0, l1]; exact h2
  · rw [List.length_map, List.length_map, List.length_map, l0, l1, l2]; exact h3
theorem cells_tag (f : List Tg) (h32 : ∀ t ∈ f, t.length = 32) (r : Nat) (hr : r < f.length) : ((cells f).drop (32 * r)).take ((f.getD r []).map V8).length = (f.getD r []).map V8 := by
  have hp := cells_piece f h32 r 1 (by omega)
  have ht1 : (f.drop r).take 1 = [f.getD r []] := by
    rw [List.drop_eq_getElem_cons hr, List.take_succ_cons, List.take_zero, List.getD_eq_getElem?_getD, List.getElem?_eq_getElem hr]; rfl
  rw [ht1, show cells [f.getD r []] = (f.getD r []).map V8 by simp [cells]] at hp
  exact hp
theorem leads_step (key : Tg) (ws : List (List Tg)) (k : Nat) (f : List Tg) (hf : ws[k]? = some f) (p : Nat) (leaf rt : Tg) : leads key (ws.drop k) p leaf rt = (decide (f.getD (p % 4) [] = leaf) && leads key (ws.drop (k + 1)) (p / 4) (node key f) rt) := by
  obtain ⟨hk, e⟩ := List.getElem?_eq_some_iff.1 hf
  rw [List.drop_eq_getElem_cons hk, e, leads]

theorem beq0 (P : Nat) : ((P : Int) == 0) = decide (P = 0) := by
  rw [Bool.eq_iff_iff]; simp

set_option maxRecDepth 100000 in
set_option maxHeartbeats 1000000 in
theorem check_holds : CheckC := by
  intro key ws v x d leaf rt ls rs w hk hl hd1 hd2 hls hrs hT hA hX
  obtain ⟨A, cap, rfl⟩ := hA.form
  obtain ⟨h4, B, cap2, rfl, hs⟩ := hX
  obtain ⟨kn, hkn⟩ : ∃ n, n = key.length := ⟨_, rfl⟩
  obtain ⟨n, hn⟩ : ∃ n, n = ws.length := ⟨_, rfl⟩
  rw [← hkn] at hA ⊢
  rw [← hn] at hs hl ⊢
  have Hkey := Lib.hid hk
  have HN := Lib.hid hn
  have HA0 := Lib.hid hA
  have HT0 := Lib.hid hT
  have H4 := Lib.hid h4
  have HS := Lib.hid hs
  have Hls := Lib.hid hls
  have Hrs := Lib.hid hrs
  have Hlz : Hid (ls.toArray.size = 32) := hls.size
  have Hll : Hid (ls.length = 32) := hls.len
  have Hlo : Hid (ls.toArray.all (·.oneCell') = true) := hls.one
  have hz := Hm.zeroTag
  have hz4 := zero4
  have HZ := Lib.hid hz
  have HZ4 := Lib.hid hz4
  clear hkn hk hn hA hT h4 hs hls hrs hz hz4
  rcases Int.lt_or_le d 0 with h0 | h0
  · have Hno : Hid (chk key ws d leaf rt = false) := by show _ = _; rw [chk, decide_eq_false (by omega)]; simp
    go_enter Tryd.func17, Tryd.ntmps17
    go_wp2
    go_ret
    rw [Hno.out]
    exact ⟨rfl, ((Below.refl _ _).alloc (Nat.le_refl _) _).alloc (by simp) _⟩
  obtain ⟨D, rfl⟩ : ∃ D : Nat, d = (D : Int) := ⟨d.toNat, by omega⟩
  rcases Nat.eq_zero_or_pos n with hn0 | hn0
  · have Hno : Hid (chk key ws (D : Int) leaf rt = false) := by
      show _ = _
      have : ws = [] := List.eq_nil_of_length_eq_zero (by rw [← HN.out]; exact hn0)
      rw [chk, this]; simp
    subst hn0
    have hD : ¬ ((D : Int) < 0) := by omega
    go_enter Tryd.func17, Tryd.ntmps17
    go_wp2
    go_ret
    rw [Hno.out]
    exact ⟨rfl, ((Below.refl _ _).alloc (Nat.le_refl _) _).alloc (by simp) _⟩
  obtain ⟨b, o, rfl, hb, hsee⟩ := HS.out hn0
  have HSee := Lib.hid hsee
  have Hchk : Hid (chk key ws (D : Int) leaf rt = leads key (ws.drop 0) D leaf rt) := by
    show _ = _
    have : ws ≠ [] := fun h => by rw [h] at HN; have := HN.out; simp at this; omega
    rw [chk, decide_eq_true (by omega), decide_eq_true this]; simp
  have hne : ((n : Int) == 0) = false := by rw [beq_eq_false_iff_ne]; omega
  have Hn0 := Lib.hid hn0
  clear hsee HS hn0
  obtain ⟨w0, hw0⟩ : ∃ w0, w0 = (w.alloc (.cells ls.toArray 30)).alloc (.cells rs.toArray 30) := ⟨_, rfl⟩
  have HL0 : Hid (Row w0 w.heap.size 30 ls) := by rw [hw0]; exact (Row.new w 30 ls).alloc _
  have HR0 : Hid (Row w0 (w.heap.size + 1) 30 rs) := by rw [hw0]; exact Row.newAt 30 rs (by simp)
  have HB0 : Hid (Below w.heap.size w w0) := by rw [hw0]; exact ((Below.refl _ _).alloc (Nat.le_refl _) _).alloc (by simp) _
  have hs0 : w0.heap.size = w.heap.size + 1 + 1 := by rw [hw0]; simp
  have hz := HZ.out
  rw [hw0] at HL0 HR0 HB0 hs0
  clear hw0 w0
  go_enter Tryd.func17, Tryd.ntmps17
  obtain ⟨w1, hw1⟩ : ∃ w1, w1 = (((w.alloc (.cells ls.toArray 30)).alloc (.cells rs.toArray 30)).alloc (.cells Hm.Z32.toArray 30)).setRow (w.heap.size + 1 + 1) ls.toArray := ⟨_, rfl⟩
  have hRz : Row (((w.alloc (.cells ls.toArray 30)).alloc (.cells rs.toArray 30)).alloc (.cells Hm.Z32.toArray 30)) (w.heap.size + 1 + 1) 30 Hm.Z32 := Row.newAt 30 Hm.Z32 hs0
  have HRz := Lib.hid hRz
  have HT1 : Hid (Row w1 (w.heap.size + 1 + 1) 30 (leaf.map V8)) := by rw [hw1, ← Hls.out.1]; exact hRz.whole ls
  have HR1 : Hid (Row w1 (w.heap.size + 1) 30 rs) := by rw [hw1]; exact (HR0.out.alloc _).wholeOff (by omega) _
  have HB1 : Hid (Below w.heap.size w w1) := by rw [hw1]; exact below_setRow' (HB0.out.alloc HB0.out.size _) (by omega) _
  clear hRz hs0
  go_wp2_with (first
    | (refine wpList_load_row rfl 30 (.tmp 8) rfl w.heap.size rfl 30 ls.toArray (0, 0) _ HL0.out Tryd.underlying30 rfl (by rw [Hlz.out]; kernel_rfl) ?_)
    | (refine wpList_store_row rfl 30 (.tmp 11) (.tmp 21) rfl (w.heap.size + 1 + 1) ls.toArray rfl rfl 30 _ HRz.out (by rw [Hlz.out]; kernel_rfl) (by rw [Hlz.out]; rfl) Hlo.out ?_; rw [← hw1]))
  rw [← hw1]
  clear hw1 HRz HL0 HR0 HB0 hz hne
  go_loopw [2, 24] (fun p i wr => ∃ (k P : Nat) (tg : Tg), k ≤ n ∧ i = .int .i64 k ∧ p = .int .i64 P ∧ P ≤ 9223372036854775807 ∧ Hid (tg.length = 32) ∧ Hid (leads key (ws.drop 0) D leaf rt = leads key (ws.drop k) P tg rt) ∧ Hid (Row wr (w.heap.size + 1 + 1) 30 (tg.map V8)) ∧ Hid (Row wr (w.heap.size + 1) 30 rs) ∧ Hid (Below w.heap.size w wr)) (fun _ i _ => n - (intOf i).toNat)
  case atStart => exact ⟨0, D, leaf, by omega, rfl, rfl, by omega, Hls.out.2, rfl, HT1, HR1, HB1⟩
  case round =>
    obtain ⟨k, P, tg, hk, rfl, rfl, hP, Htl, Hld, HTr, HRr, HB⟩ := hrel
    clear HT1 HR1 HB1 hd1 hd2 h0
    obtain ⟨ts, hts⟩ : ∃ ts, ts = tg.map V8 := ⟨_, rfl⟩
    have Hts : Hid (Vec 32 tg ts) := ⟨hts, Htl.out⟩
    rw [← hts] at HTr
    have Htz : Hid (ts.toArray.size = 32) := Hts.out.size
    have Htn : Hid (ts.length = 32) := Hts.out.len
    have hsr := HB.out.size
    have hlt2 := HTr.out.lt
    clear hts
    by_cases hlt : k < n
    · obtain ⟨f, hf⟩ : ∃ f, ws[k]? = some f := ⟨_, List.getElem?_eq_getElem (by rw [← HN.out]; exact hlt)⟩
      obtain ⟨hf4, hf32⟩ := H4.out f (List.mem_of_getElem? hf)
      have hrg := four_range f hf4 hf32 (HSee.out k f hf)
      rw [show o + 128 * k = o + k * 128 by omega] at hrg
      have HLd : Hid (wr.rangeAt b (o + k * 128) (cells f)) := fun j v hj => by
        have h1 := hrg j v hj
        rw [← h1]
        exact World.cell?_of_block (HB.out.block b hb)
      have Hstep := Lib.hid (leads_step key ws k f hf P tg rt)
      rw [← Hld.out] at Hstep
      obtain ⟨ks, hks⟩ : ∃ ks, ks = cells f := ⟨_, rfl⟩
      have Hks : Hid (ks = f.flatten.map V8) := hks
      have Hkl : Hid (ks.length = 128) := by show _ = _; rw [hks, cells_length f hf32, hf4]
      have Hkz : Hid (ks.toArray.size = 128) := Hkl
      have Hko : Hid (ks.toArray.all (·.oneCell') = true) := by rw [hks]; exact one8 _
      obtain ⟨q, r, hqr, hr4⟩ : ∃ q r : Nat, P = 4 * q + r ∧ r < 4 := ⟨P / 4, P % 4, by omega, by omega⟩
      obtain ⟨us, hus⟩ : ∃ us, us = (f.getD r []).map V8 := ⟨_, rfl⟩
      have Hus : Hid (Vec 32 (f.getD r []) us) := ⟨hus, by rw [List.getD_eq_getElem?_getD, List.getElem?_eq_getElem (by omega)]; exact hf32 _ (List.getElem_mem _)⟩
      have Hpc : Hid ((ks.drop (r * 32)).take us.length = us) := by
        show _ = _
        rw [hks, hus, Nat.mul_comm]; exact cells_tag f hf32 r (by omega)
      have Hun : Hid (us.length = 32) := Hus.out.len
      rw [← hks] at HLd
      have Hf4 := Lib.hid hf4
      have Hf32 := Lib.hid hf32
      have Hpm : Hid (P % 4 = r) := by show _ = _; omega
      have Hpd : Hid (P / 4 = q) := by show _ = _; omega
      rw [Hpm.out, Hpd.out] at Hstep
      have Hr4 : Hid ((P : Int) % 4 = (r : Int)) := by show _ = _; omega
      have Hrt : Hid ((P : Int).tmod 4 = (r : Int)) := by show _ = _; rw [Int.tmod_eq_emod_of_nonneg (by omega)]; omega
      have Hwr : Hid (IntKind.i64.wrap (r : Int) = (r : Int)) := by show _ = _; rw [IntKind.wrap_i64]; omega
      have Hir : Hid (0 ≤ (r : Int) ∧ (r : Int) < 4) := by show _ ∧ _; omega
      have Hq4 : Hid ((P : Int) / 4 = (q : Int)) := by show _ = _; omega
      have HqP : Hid (q ≤ 9223372036854775807) := by show _ ≤ _; omega
      have hz4 := HZ4.out wr
      obtain ⟨b13, Hb⟩ : ∃ b, Hid (b = wr.heap.size) := ⟨_, rfl⟩
      obtain ⟨wb, hwb⟩ : ∃ W, W = (wr.alloc (.cells Z128.toArray 48)).setRow wr.heap.size ks.toArray := ⟨_, rfl⟩
      have hRb : Row wb b13 48 ks := by rw [hwb, Hb.out]; exact (Row.new wr 48 Z128).whole ks
      have HRb := Lib.hid hRb
      have HTb : Hid (Row wb (w.heap.size + 1 + 1) 30 ts) := by rw [hwb]; exact (HTr.out.alloc _).wholeOff (by omega) _
      have HRrb : Hid (Row wb (w.heap.size + 1) 30 rs) := by rw [hwb]; exact (HRr.out.alloc _).wholeOff (by omega) _
      have HBb : Hid (Below w.heap.size w wb) := by rw [hwb]; exact below_setRow' (HB.out.alloc HB.out.size _) HB.out.size ks.toArray
      have Hbne : Hid (b13 ≠ w.heap.size + 1 + 1) := by show _ ≠ _; rw [Hb.out]; omega
      have HT : Hid (Hm.Tab wb) := HT0.out.below HBb.out
      have HA : Hid (Arg wb (.slice A kn cap) key) := HA0.out.below HBb.out
      have Hin : Hid (Z128.toArray.size = ks.toArray.size) := by show _ = _; rw [Hkz.out]; rfl
      have Hi48 : Hid (Option.map (fun i => i.size) (Tryd.prog.info? 48) = some ks.toArray.size) := by show _ = _; rw [Hkz.out]; kernel_rfl
      have Hi48l : Hid (Option.map (fun i => i.size) (Tryd.prog.info? 48) = some ks.length) := by show _ = _; rw [Hkl.out]; kernel_rfl
      clear hf hf4 hf32 hrg hks hqr hr4 hus hRb hsr hlt2 HTr HRr HB Hld
      go_wp2_with (first
        | (refine wpList_load_mid rfl 48 (.tmp 26) rfl b (o + k * 128) rfl ks _ HLd.out Tryd.underlying48 rfl Hi48l.out ?_)
        | (refine wpList_store_row rfl 48 (.tmp 13) (.tmp 27) rfl wr.heap.size ks.toArray rfl rfl 48 _ (Row.new wr _ Z128) Hi48.out Hin.out Hko.out ?_; rw [← hwb, ← Hb.out]))
      try go_frame
      have hteq : Hid (∀ W, (Op.equalIn 10000 30 (.agg us.toArray) (.agg ts.toArray)).run Tryd.prog W = .ok (decide (f.getD r [] = tg)) W) := fun W => arr_eq 30 32 Tryd.underlying30 _ _ us ts Hus.out Hts.out W
      obtain ⟨e, He⟩ : ∃ e, Hid (e = decide (f.getD r [] = tg)) := ⟨_, rfl⟩
      have HEq : Hid (∀ W, (Op.equalIn 10000 30 (.agg us.toArray) (.agg ts.toArray)).run Tryd.prog W = .ok e W) := by rw [He.out]; exact hteq
      clear hteq
      refine wp_region_held_drew (S := (fun X => Row X b13 48 ks ∧ Row X (w.heap.size + 1 + 1) 30 ts)) (by kernel_rfl) ⟨HRb.out, HTb.out⟩ (fun hHeld => ?_)
      have HRd : Hid (Row wb.drew b13 48 ks) := HRb.out
      have HTd : Hid (Row wb.drew (w.heap.size + 1 + 1) 30 ts) := HTb.out
      have HRrd : Hid (Row wb.drew (w.heap.size + 1) 30 rs) := HRrb.out
      have HBd : Hid (Below w.heap.size w wb.drew) := HBb.out.trans (below_drewN (Below.refl _ _) 1)
      have HTdd : Hid (Hm.Tab wb.drew) := HT0.out.below HBd.out
      have HAd : Hid (Arg wb.drew (.slice A kn cap) key) := HA0.out.below HBd.out
      clear HRb HTb HRrb HBb HT HA
      generalize wb.drew = wd at *
      clear hwb hz4
      refine wpAnyH_take (i := 0) (oi := ⟨some 28, _, _, _, _, _⟩) (v := ?_) rfl (by kernel_rfl) (by kernel_rfl) (by kernel_rfl) (fun _ _ _ h => h) (Or.inl ⟨by rfl, ?_⟩) hHeld ?_
      rotate_left
      · intro w hSw
        go_simp
        with_reducible rfl
      try go_frame
      refine wpAnyH_take (i := 1) (oi := ⟨some 29, _, _, _, _, _⟩) (v := ?_) rfl (by kernel_rfl) (by kernel_rfl) (by kernel_rfl) (fun _ _ _ h => h) (Or.inl ⟨by rfl, ?_⟩) hHeld ?_
      rotate_left
      · intro w hSw
        have hr4 := Hr4.out
        have hrt := Hrt.out
        go_simp
        with_reducible rfl
      try go_frame
      refine wpAnyH_take (i := 2) (oi := ⟨some 30, _, _, _, _, _⟩) (v := ?_) rfl (by kernel_rfl) (by kernel_rfl) (by kernel_rfl) (fun _ _ _ h => h) (Or.inl ⟨by rfl, ?_⟩) hHeld ?_
      rotate_left
      · intro w hSw
        have hwr := Hwr.out
        have hir := Hir.out
        go_simp
        with_reducible rfl
      try go_frame
      refine wpAnyH_take (i := 3) (oi := ⟨some 31, _, _, _, _, _⟩) (v := .agg us.toArray) rfl (by kernel_rfl) (by kernel_rfl) (by kernel_rfl) (fun _ _ _ h => h) (yieldsIf_load_mid (by rfl) 30 (.tmp 30) rfl b13 (r * 32) rfl us _ (fun W h => h.1.piece _ _ Hpc.out) Tryd.underlying30 rfl (by rw [Hun.out]; kernel_rfl)) hHeld ?_
      try go_frame
      refine wpAnyH_take (i := 4) (oi := ⟨some 32, _, _, _, _, _⟩) (v := .agg ts.toArray) rfl (by kernel_rfl) (by kernel_rfl) (by kernel_rfl) (fun _ _ _ h => h) (yieldsIf_load_mid (by rfl) 30 (.tmp 11) rfl (w.heap.size + 1 + 1) 0 rfl ts _ (fun W h => h.2.sees) Tryd.underlying30 rfl (by rw [Htn.out]; kernel_rfl)) hHeld ?_
      try go_frame
      refine wpAnyH_take (i := 5) (oi := ⟨some 33, _, _, _, _, _⟩) (v := ?_) rfl (by kernel_rfl) (by kernel_rfl) (by kernel_rfl) (fun _ _ _ h => h) (Or.inl ⟨by rfl, ?_⟩) hHeld ?_
      rotate_left
      · intro w hSw
        have hte := HEq.out
        go_simp
        with_reducible rfl
      try go_frame
      refine wpAnyH_done (by kernel_rfl) ?_ _
      cases e with
      | false =>
        have hneq : Hid (f.getD r [] ≠ tg) := fun h => by have := He.out; rw [decide_eq_true h] at this; cases this
        have Hno : Hid (chk key ws (D : Int) leaf rt = false) := by
          show _ = _
          rw [Hchk.out, Hstep.out, decide_eq_false hneq.out, Bool.false_and]
        go_wp2
        go_ret
        rw [Hno.out]
        exact ⟨rfl, HBd.out⟩
      | true =>
        have heq : Hid (f.getD r [] = tg) := by have h1 : true = decide (f.getD r [] = tg) := He.out; have h2 : f.getD r [] = tg := of_decide_eq_true h1.symm; exact h2
        have Hst : Hid (leads key (ws.drop 0) D leaf rt = leads key (ws.drop (k + 1)) q (node key f) rt) := by
          show _ = _
          rw [Hstep.out, decide_eq_true heq.out, Bool.true_and]
        clear hHeld
        go_wp2_with (refine wpList_load_mid rfl 48 (.tmp 13) rfl b13 0 rfl ks _ HRd.out.sees Tryd.underlying48 rfl Hi48l.out ?_)
        refine (node_holds key f _ ks wd Hkey.out Hf4.out Hf32.out Hks.out HTdd.out HAd.out).mono ?_
        rintro e w6 ⟨⟨ns, Hns, rfl⟩, hb6⟩
        have HT6 : Hid (Row w6 (w.heap.size + 1 + 1) 30 ts) := HTd.out.below hb6 HTd.out.lt
        have Hnz : Hid (ns.toArray.size = 32) := Hns.out.size
        have Hno : Hid (ns.toArray.all (·.oneCell') = true) := Hns.out.one
        have HTn : Hid (Row (w6.setRow (w.heap.size + 1 + 1) ns.toArray) (w.heap.size + 1 + 1) 30 ((node key f).map V8)) := by rw [← Hns.out.1]; exact HT6.out.whole ns
        have HRn : Hid (Row (w6.setRow (w.heap.size + 1 + 1) ns.toArray) (w.heap.size + 1) 30 rs) := (HRrd.out.below hb6 HRrd.out.lt).wholeOff (by omega) _
        have HBn : Hid (Below w.heap.size w (w6.setRow (w.heap.size + 1 + 1) ns.toArray)) := below_setRow' (HBd.out.trans (hb6.mono HBd.out.size)) (by omega) _
        clear hb6
        go_wp2_with (refine wpList_store_row rfl 30 (.tmp 11) (.tmp 36) rfl (w.heap.size + 1 + 1) ns.toArray rfl rfl 30 _ HT6.out (by rw [Hnz.out]; kernel_rfl) (by rw [Hnz.out, List.size_toArray, Htn.out]) Hno.out ?_)
        go_roundw
        case rel => exact ⟨k + 1, q, node key f, by omega, by go_num, by rw [Hq4.out], HqP.out, node_length _ _, Hst, HTn, HRn, HBn⟩
        case measure => rw [iO, show intOf (.int .i64 (k : Int)) = (k : Int) from rfl]; omega
    · obtain rfl : k = n := by omega
      have Hfin : Hid (chk key ws (D : Int) leaf rt = (decide (P = 0) && decide (tg = rt))) := by
        show _ = _
        rw [Hchk.out, Hld.out, List.drop_of_length_le (by rw [← HN.out]; exact Nat.le_refl _), leads]
      have Hrn : Hid (rs.toArray.size = 32) := Hrs.out.size
      have heq : ∀ W, (Op.equalIn 10000 30 (.agg ts.toArray) (.agg rs.toArray)).run Tryd.prog W = .ok (decide (tg = rt)) W := fun W => arr_eq 30 32 Tryd.underlying30 _ _ ts rs Hts.out Hrs.out W
      by_cases htr : tg = rt
      · rw [decide_eq_true htr] at Hfin
        simp only [decide_eq_true htr] at heq
        go_wp2_with (first
          | (refine wpList_load_row rfl 30 (.tmp 11) rfl (w.heap.size + 1 + 1) rfl 30 ts.toArray (0, 0) _ HTr.out Tryd.underlying30 rfl (by rw [Htz.out]; kernel_rfl) ?_)
          | (refine wpList_load_row rfl 30 (.tmp 9) rfl (w.heap.size + 1) rfl 30 rs.toArray (0, 0) _ HRr.out Tryd.underlying30 rfl (by rw [Hrn.out]; kernel_rfl) ?_))
        go_ret
        rw [Hfin.out, Bool.and_true, ← beq0]
        exact ⟨rfl, HB.out⟩
      · rw [decide_eq_false htr] at Hfin
        simp only [decide_eq_false htr] at heq
        go_wp2_with (first
          | (refine wpList_load_row rfl 30 (.tmp 11) rfl (w.heap.size + 1 + 1) rfl 30 ts.toArray (0, 0) _ HTr.out Tryd.underlying30 rfl (by rw [Htz.out]; kernel_rfl) ?_)
          | (refine wpList_load_row rfl 30 (.tmp 9) rfl (w.heap.size + 1) rfl 30 rs.toArray (0, 0) _ HRr.out Tryd.underlying30 rfl (by rw [Hrn.out]; kernel_rfl) ?_))
        go_ret
        rw [Hfin.out, Bool.and_false]
        exact ⟨rfl, HB.out⟩
end Go.Proofs.YtnlbhbacedbdoaaDoor
