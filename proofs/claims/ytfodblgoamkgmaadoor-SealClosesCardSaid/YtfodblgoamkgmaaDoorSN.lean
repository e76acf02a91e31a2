/-
  THE WALK of the law SealCloses.
-/
import Derived.Test.YtfodblgoamkgmaaDoorSM
import Derived.Test.YtfodblgoamkgmaaDoorSI
namespace Go.Proofs.YtfodblgoamkgmaaDoor
open Go.RowKit Aes Ctr Sl

theorem wpList_load_row_g {P : Program} {ops : Array Oper} {rest : List Oper} {o : Oper} {a : Act} {w : World} {Q : Exit → Act → World → Prop} (hw : Region.wanted o (yielded ops a.tmps) = true) (ty : TypeId) (x : Operand) (ho : o.op = .load ty x)
    (g : Nat) (hx : a.eval x = .pointer (some ⟨g, 0, none⟩)) (t : TypeId) (cs : Array Value) (fr : Nat × Nat) (d : TypeDesc) (hg : w.heap[g]? = some (.cells cs t fr))
    (hu : P.underlying ty = some d) (hd : (match d with | .struct _ | .array _ _ => true | _ => false) = true) (hi : (P.info? ty).map (·.size) = some cs.size)
    (h : wpList P ops Q rest (a.put o.dst (.agg cs)) w) : wpList P ops Q (o :: rest) a w :=
  wpList_step fun K hK => by rw [if_pos hw]; exact wp_load_row ty x ho g hx t cs fr d hg hu hd hi (hK _ _ h)

set_option maxRecDepth 100000 in
set_option maxHeartbeats 1000000 in
theorem SCloses_any (s pt r : List UInt8) (v0 v3 v4 : Value) (d : Int) (v : Nat) (hv : v < 2 ^ 64) (w : World) (hT : Hm.Tab w) (h0 : Arg w v0 s) (h3 : Arg w v3 pt) (h4 : Arg w v4 r) :
    Calls Tryd.prog 3 #[v0, .int .i64 d, .int .u64 v, v3, v4] w fun e w' => e = .returned (.bool true) ∧ Below w.heap.size w w' := by
  obtain ⟨A0, c0, rfl⟩ := h0.form
  obtain ⟨A3, c3, rfl⟩ := h3.form
  obtain ⟨A4, c4, rfl⟩ := h4.form
  obtain ⟨n0, hn0⟩ : ∃ n, n = s.length := ⟨_, rfl⟩
  obtain ⟨n3, hn3⟩ : ∃ n, n = pt.length := ⟨_, rfl⟩
  obtain ⟨n4, hn4⟩ : ∃ n, n = r.length := ⟨_, rfl⟩
  rw [← hn0] at h0 ⊢
  rw [← hn3] at h3 ⊢
  rw [← hn4] at h4 ⊢
  have HN0 := Lib.hid hn0
  have HN3 := Lib.hid hn3
  have HN4 := Lib.hid hn4
  have HT := Lib.hid hT
  have HA0 := Lib.hid h0
  have HA3 := Lib.hid h3
  have HA4 := Lib.hid h4
  clear hn0 hn3 hn4 hT h0 h3 h4
  rcases Nat.lt_or_ge 200 n0 with hl0 | hl0
  · go_enter Tryd.func3, Tryd.ntmps3
    go_wp2_with fail
    refine (Sknows_any w HT.out).mono ?_
    rintro e w1 ⟨rfl, hb⟩
    go_wp2
    go_ret
    exact ⟨rfl, hb⟩
  rcases Nat.lt_or_ge 200 n3 with hl3 | hl3
  · go_enter Tryd.func3, Tryd.ntmps3
    go_wp2_with fail
    refine (Sknows_any w HT.out).mono ?_
    rintro e w1 ⟨rfl, hb⟩
    go_wp2
    go_ret
    exact ⟨rfl, hb⟩
  rcases Nat.lt_or_ge 200 n4 with hl4 | hl4
  · go_enter Tryd.func3, Tryd.ntmps3
    go_wp2_with fail
    refine (Sknows_any w HT.out).mono ?_
    rintro e w1 ⟨rfl, hb⟩
    go_wp2
    go_ret
    exact ⟨rfl, hb⟩
  have hz := Hm.zeroTag
  have hzk := zeroSk
  have Hz32 : Hid (Hm.Z32.toArray.size = 32) := by show _ = _; rfl
  have Ho32 : Hid (Hm.Z32.toArray.all (·.oneCell') = true) := by show _ = _; kernel_rfl
  have HR4 : Hid (r.length ≤ 1000) := by show _ ≤ _; rw [← HN4.out]; omega
  go_enter Tryd.func3, Tryd.ntmps3
  go_wp2_with fail
  refine (SDerive_any s (by rw [← HN0.out]; omega) _ w HT.out HA0.out).mono ?_
  rintro e w1 ⟨ks, HK, rfl, hb⟩
  have Hzk : Hid (ks.toArray.size = 48) := HK.out.size
  have Hok : Hid (ks.toArray.all (·.oneCell') = true) := HK.out.vec.one
  have HC := Lib.hid hb
  replace HT := Lib.hid (HT.out.below hb)
  replace HA0 := Lib.hid (HA0.out.below hb)
  replace HA3 := Lib.hid (HA3.out.below hb)
  replace HA4 := Lib.hid (HA4.out.below hb)
  clear hb
  go_wp2_with (refine wpList_store_row rfl 29 (.tmp 11) (.tmp 33) rfl w1.heap.size ks.toArray rfl rfl 29 _ (Row.new w1 _ Z48) (by rw [Hzk.out]; kernel_rfl) (by rw [Hzk.out]; rfl) Hok.out ?_)
  have HX_KB : Hid (Row ((w1.alloc (.cells Z48.toArray 29)).setRow w1.heap.size ks.toArray) w1.heap.size 29 ks) := (Row.new w1 29 Z48).whole ks
  have hb : Below w1.heap.size w1 ((w1.alloc (.cells Z48.toArray 29)).setRow w1.heap.size ks.toArray) := below_setRow' ((Below.refl _ _).alloc (Nat.le_refl _) _) (Nat.le_refl _) _
  obtain ⟨KB, hKB⟩ : ∃ X, X = w1.heap.size := ⟨_, rfl⟩
  have hb2 : Below w1.heap.size w1 ((w1.alloc (.cells Z48.toArray 29)).setRow KB ks.toArray) := by rw [hKB]; exact hb
  rw [← hKB] at HX_KB ⊢
  clear hb hKB
  generalize ((w1.alloc (.cells Z48.toArray 29)).setRow KB ks.toArray) = w9 at *
  have hb := hb2
  clear hb2
  replace HC := Lib.hid (HC.out.trans (hb.mono HC.out.size))
  replace HT := Lib.hid (HT.out.below hb)
  replace HA0 := Lib.hid (HA0.out.below hb)
  replace HA3 := Lib.hid (HA3.out.below hb)
  replace HA4 := Lib.hid (HA4.out.below hb)
  clear hb
  refine (RSDerive_any s (by rw [← HN0.out]; omega) _ w9 HA0.out).mono ?_
  rintro e w2 ⟨p, rfl, HM, hb⟩
  replace HC := Lib.hid (HC.out.trans (hb.mono HC.out.size))
  replace HT := Lib.hid (HT.out.below hb)
  replace HA3 := Lib.hid (HA3.out.below hb)
  replace HA4 := Lib.hid (HA4.out.below hb)
  replace HX_KB := Lib.hid (HX_KB.out.below hb HX_KB.out.lt)
  clear hb
  clear HA0 hzk
  obtain ⟨ek, hek⟩ : ∃ E, E = encK s := ⟨_, rfl⟩
  obtain ⟨mk, hmk⟩ : ∃ E, E = macK s := ⟨_, rfl⟩
  rw [← hek, ← hmk] at HK HM
  clear hek hmk
  have HKeep : Hid (∃ Aa na ca Ab nb cb, ∀ W, Below w2.heap.size w2 W → (convert 22 9 (.slice (some ⟨KB, 0, none⟩) 16 16)).run Tryd.prog W = .ok (.string (strB ek)) W ∧ (convert 22 9 (.slice Aa na ca)).run Tryd.prog W = .ok (.string (strB ek)) W ∧ (convert 22 9 (.slice (some ⟨KB, 16, none⟩) 32 32)).run Tryd.prog W = .ok (.string (strB mk)) W ∧ (convert 22 9 (.slice Ab nb cb)).run Tryd.prog W = .ok (.string (strB mk)) W ∧ W.cell? ⟨p, 0, none⟩ = some (.slice Aa na ca) ∧ W.cell? ⟨p, 1, none⟩ = some (.slice Ab nb cb)) := by
    obtain ⟨va, vb, pe, pm, hp, hs, hva, hvb, _, _⟩ := HM.out
    obtain ⟨Aa, ca, rfl⟩ := hva.form
    obtain ⟨Ab, cb, rfl⟩ := hvb.form
    exact ⟨Aa, _, ca, Ab, _, cb, fun W hW => ⟨conv_arg (HK.out.enc (HX_KB.out.below hW HX_KB.out.lt)), conv_arg (hva.below hW), conv_arg (HK.out.mac (HX_KB.out.below hW HX_KB.out.lt)), conv_arg (hvb.below hW), (hs.below hW hp) 0 _ rfl, (hs.below hW hp) 1 _ rfl⟩⟩
  obtain ⟨Aa, na, ca, Ab, nb, cb, HKeep'⟩ := HKeep.out
  clear HKeep
  have HKeep := Lib.hid HKeep'
  clear HKeep'
  go_wp2
  have hC : Below w2.heap.size w2 w2.drew := below_drewN (Below.refl _ _) 1
  refine wp_region_held_drew (S := (fun W => (convert 22 9 (.slice (some ⟨KB, 0, none⟩) 16 16)).run Tryd.prog W = .ok (.string (strB ek)) W ∧ (convert 22 9 (.slice Aa na ca)).run Tryd.prog W = .ok (.string (strB ek)) W ∧ (convert 22 9 (.slice (some ⟨KB, 16, none⟩) 32 32)).run Tryd.prog W = .ok (.string (strB mk)) W ∧ (convert 22 9 (.slice Ab nb cb)).run Tryd.prog W = .ok (.string (strB mk)) W ∧ W.cell? ⟨p, 0, none⟩ = some (.slice Aa na ca) ∧ W.cell? ⟨p, 1, none⟩ = some (.slice Ab nb cb))) (by kernel_rfl) (HKeep.out _ hC) (fun hHeld => ?_)
  generalize w2.drew = w2d at *
  refine wpAnyH_take (i := 0) (oi := ⟨some 36, _, _, _, _, _⟩) (v := ?_) rfl (by kernel_rfl) (by kernel_rfl) (by kernel_rfl) (fun _ _ _ h => h) (Or.inl ⟨by rfl, ?_⟩) hHeld ?_
  rotate_left
  · intro w hSw
    go_simp
    with_reducible rfl
  try go_frame
  refine wpAnyH_take (i := 1) (oi := ⟨some 37, _, _, _, _, _⟩) (v := ?_) rfl (by kernel_rfl) (by kernel_rfl) (by kernel_rfl) (fun _ _ _ h => h) (Or.inl ⟨by rfl, ?_⟩) hHeld ?_
  rotate_left
  · intro w hSw
    go_simp
    with_reducible rfl
  try go_frame
  refine wpAnyH_take (i := 2) (oi := ⟨some 38, _, _, _, _, _⟩) (v := ?_) rfl (by kernel_rfl) (by kernel_rfl) (by kernel_rfl) (fun _ _ _ h => h) (Or.inl ⟨by rfl, ?_⟩) hHeld ?_
  rotate_left
  · intro w hSw
    obtain ⟨hS1, hS2, hS3, hS4, hS5, hS6⟩ := hSw
    go_simp
    with_reducible rfl
  try go_frame
  refine wpAnyH_take (i := 3) (oi := ⟨some 39, _, _, _, _, _⟩) (v := ?_) rfl (by kernel_rfl) (by kernel_rfl) (by kernel_rfl) (fun _ _ _ h => h) (Or.inl ⟨by rfl, ?_⟩) hHeld ?_
  rotate_left
  · intro w hSw
    go_simp
    with_reducible rfl
  try go_frame
  refine wpAnyH_take (i := 4) (oi := ⟨some 40, _, _, _, _, _⟩) (v := ?_) rfl (by kernel_rfl) (by kernel_rfl) (by kernel_rfl) (fun _ _ _ h => h) (Or.inl ⟨by rfl, ?_⟩) hHeld ?_
  rotate_left
  · intro w hSw
    go_simp
    with_reducible rfl
  try go_frame
  refine wpAnyH_take (i := 5) (oi := ⟨some 41, _, _, _, _, _⟩) (v := ?_) rfl (by kernel_rfl) (by kernel_rfl) (by kernel_rfl) (fun _ _ _ h => h) (Or.inl ⟨by rfl, ?_⟩) hHeld ?_
  rotate_left
  · intro w hSw
    go_simp
    with_reducible rfl
  try go_frame
  refine wpAnyH_take (i := 6) (oi := ⟨some 42, _, _, _, _, _⟩) (v := ?_) rfl (by kernel_rfl) (by kernel_rfl) (by kernel_rfl) (fun _ _ _ h => h) (Or.inl ⟨by rfl, ?_⟩) hHeld ?_
  rotate_left
  · intro w hSw
    obtain ⟨hS1, hS2, hS3, hS4, hS5, hS6⟩ := hSw
    go_simp
    with_reducible rfl
  try go_frame
  refine wpAnyH_take (i := 7) (oi := ⟨some 43, _, _, _, _, _⟩) (v := ?_) rfl (by kernel_rfl) (by kernel_rfl) (by kernel_rfl) (fun _ _ _ h => h) (Or.inl ⟨by rfl, ?_⟩) hHeld ?_
  rotate_left
  · intro w hSw
    obtain ⟨hS1, hS2, hS3, hS4, hS5, hS6⟩ := hSw
    go_simp
    with_reducible rfl
  try go_frame
  refine wpAnyH_take (i := 8) (oi := ⟨some 44, _, _, _, _, _⟩) (v := ?_) rfl (by kernel_rfl) (by kernel_rfl) (by kernel_rfl) (fun _ _ _ h => h) (Or.inl ⟨by rfl, ?_⟩) hHeld ?_
  rotate_left
  · intro w hSw
    go_simp
    with_reducible rfl
  try go_frame
  refine wpAnyH_take (i := 9) (oi := ⟨some 45, _, _, _, _, _⟩) (v := ?_) rfl (by kernel_rfl) (by kernel_rfl) (by kernel_rfl) (fun _ _ _ h => h) (Or.inl ⟨by rfl, ?_⟩) hHeld ?_
  rotate_left
  · intro w hSw
    go_simp
    with_reducible rfl
  try go_frame
  refine wpAnyH_take (i := 10) (oi := ⟨some 46, _, _, _, _, _⟩) (v := ?_) rfl (by kernel_rfl) (by kernel_rfl) (by kernel_rfl) (fun _ _ _ h => h) (Or.inl ⟨by rfl, ?_⟩) hHeld ?_
  rotate_left
  · intro w hSw
    go_simp
    with_reducible rfl
  try go_frame
  refine wpAnyH_take (i := 11) (oi := ⟨some 47, _, _, _, _, _⟩) (v := ?_) rfl (by kernel_rfl) (by kernel_rfl) (by kernel_rfl) (fun _ _ _ h => h) (Or.inl ⟨by rfl, ?_⟩) hHeld ?_
  rotate_left
  · intro w hSw
    go_simp
    with_reducible rfl
  try go_frame
  refine wpAnyH_take (i := 12) (oi := ⟨some 48, _, _, _, _, _⟩) (v := ?_) rfl (by kernel_rfl) (by kernel_rfl) (by kernel_rfl) (fun _ _ _ h => h) (Or.inl ⟨by rfl, ?_⟩) hHeld ?_
  rotate_left
  · intro w hSw
    obtain ⟨hS1, hS2, hS3, hS4, hS5, hS6⟩ := hSw
    go_simp
    with_reducible rfl
  try go_frame
  refine wpAnyH_take (i := 13) (oi := ⟨some 49, _, _, _, _, _⟩) (v := ?_) rfl (by kernel_rfl) (by kernel_rfl) (by kernel_rfl) (fun _ _ _ h => h) (Or.inl ⟨by rfl, ?_⟩) hHeld ?_
  rotate_left
  · intro w hSw
    go_simp
    with_reducible rfl
  try go_frame
  refine wpAnyH_take (i := 14) (oi := ⟨some 50, _, _, _, _, _⟩) (v := ?_) rfl (by kernel_rfl) (by kernel_rfl) (by kernel_rfl) (fun _ _ _ h => h) (Or.inl ⟨by rfl, ?_⟩) hHeld ?_
  rotate_left
  · intro w hSw
    go_simp
    with_reducible rfl
  try go_frame
  refine wpAnyH_take (i := 15) (oi := ⟨some 51, _, _, _, _, _⟩) (v := ?_) rfl (by kernel_rfl) (by kernel_rfl) (by kernel_rfl) (fun _ _ _ h => h) (Or.inl ⟨by rfl, ?_⟩) hHeld ?_
  rotate_left
  · intro w hSw
    go_simp
    with_reducible rfl
  try go_frame
  refine wpAnyH_take (i := 16) (oi := ⟨some 52, _, _, _, _, _⟩) (v := ?_) rfl (by kernel_rfl) (by kernel_rfl) (by kernel_rfl) (fun _ _ _ h => h) (Or.inl ⟨by rfl, ?_⟩) hHeld ?_
  rotate_left
  · intro w hSw
    obtain ⟨hS1, hS2, hS3, hS4, hS5, hS6⟩ := hSw
    go_simp
    with_reducible rfl
  try go_frame
  refine wpAnyH_take (i := 17) (oi := ⟨some 53, _, _, _, _, _⟩) (v := ?_) rfl (by kernel_rfl) (by kernel_rfl) (by kernel_rfl) (fun _ _ _ h => h) (Or.inl ⟨by rfl, ?_⟩) hHeld ?_
  rotate_left
  · intro w hSw
    obtain ⟨hS1, hS2, hS3, hS4, hS5, hS6⟩ := hSw
    go_simp
    with_reducible rfl
  try go_frame
  refine wpAnyH_take (i := 18) (oi := ⟨some 54, _, _, _, _, _⟩) (v := ?_) rfl (by kernel_rfl) (by kernel_rfl) (by kernel_rfl) (fun _ _ _ h => h) (Or.inl ⟨by rfl, ?_⟩) hHeld ?_
  rotate_left
  · intro w hSw
    go_simp
    with_reducible rfl
  try go_frame
  refine wpAnyH_take (i := 19) (oi := ⟨some 55, _, _, _, _, _⟩) (v := ?_) rfl (by kernel_rfl) (by kernel_rfl) (by kernel_rfl) (fun _ _ _ h => h) (Or.inl ⟨by rfl, ?_⟩) hHeld ?_
  rotate_left
  · intro w hSw
    go_simp
    with_reducible rfl
  try go_frame
  refine wpAnyH_done (by kernel_rfl) ?_ _
  have hb := hC
  clear hC HKeep hHeld
  replace HC := Lib.hid (HC.out.trans (hb.mono HC.out.size))
  replace HT := Lib.hid (HT.out.below hb)
  replace HM := Lib.hid (HM.out.below hb)
  replace HA3 := Lib.hid (HA3.out.below hb)
  replace HA4 := Lib.hid (HA4.out.below hb)
  replace HX_KB := Lib.hid (HX_KB.out.below hb HX_KB.out.lt)
  clear hb
  generalize w2d = w3 at *
  go_wp2_with (refine wpList_load_row rfl 29 (.tmp 11) rfl KB rfl 29 ks.toArray (0, 0) _ HX_KB.out Tryd.underlying29 rfl (by rw [Hzk.out]; kernel_rfl) ?_)
  refine (STag_any ek mk ks HK.out d r HR4.out _ w3 HT.out HA4.out).mono ?_
  rintro e w4 ⟨rs, Hrs, rfl, hb⟩
  replace HC := Lib.hid (HC.out.trans (hb.mono HC.out.size))
  replace HT := Lib.hid (HT.out.below hb)
  replace HM := Lib.hid (HM.out.below hb)
  replace HA3 := Lib.hid (HA3.out.below hb)
  replace HA4 := Lib.hid (HA4.out.below hb)
  replace HX_KB := Lib.hid (HX_KB.out.below hb HX_KB.out.lt)
  clear hb
  have Hss : Hid (rs.toArray.size = 32) := Hrs.out.size
  have Hso : Hid (rs.toArray.all (·.oneCell') = true) := Hrs.out.one
  have HXn : Hid (Row ((w4.alloc (.cells Hm.Z32.toArray 27)).setRow w4.heap.size rs.toArray) KB 29 ks) := (HX_KB.out.alloc _).wholeOff (Nat.ne_of_lt HX_KB.out.lt) _
  go_wp2_with (first | (refine wpList_store_row rfl 27 (.tmp 13) (.tmp 59) rfl w4.heap.size rs.toArray rfl rfl 27 _ (Row.new w4 _ Hm.Z32) (by rw [Hss.out]; kernel_rfl) (by rw [Hss.out]; rfl) Hso.out ?_) | (refine wpList_load_row rfl 29 (.tmp 11) rfl KB rfl 29 ks.toArray (0, 0) _ HXn.out Tryd.underlying29 rfl (by rw [Hzk.out]; kernel_rfl) ?_))
  clear HXn
  have HX_TB : Hid (Row ((w4.alloc (.cells Hm.Z32.toArray 27)).setRow w4.heap.size rs.toArray) w4.heap.size 27 rs) := (Row.new w4 27 Hm.Z32).whole rs
  have hb : Below w4.heap.size w4 ((w4.alloc (.cells Hm.Z32.toArray 27)).setRow w4.heap.size rs.toArray) := below_setRow' ((Below.refl _ _).alloc (Nat.le_refl _) _) (Nat.le_refl _) _
  obtain ⟨TB, hTB⟩ : ∃ X, X = w4.heap.size := ⟨_, rfl⟩
  have hb2 : Below w4.heap.size w4 ((w4.alloc (.cells Hm.Z32.toArray 27)).setRow TB rs.toArray) := by rw [hTB]; exact hb
  rw [← hTB] at HX_TB ⊢
  clear hb hTB
  generalize ((w4.alloc (.cells Hm.Z32.toArray 27)).setRow TB rs.toArray) = w5 at *
  have hb := hb2
  clear hb2
  replace HC := Lib.hid (HC.out.trans (hb.mono HC.out.size))
  replace HT := Lib.hid (HT.out.below hb)
  replace HM := Lib.hid (HM.out.below hb)
  replace HA3 := Lib.hid (HA3.out.below hb)
  replace HA4 := Lib.hid (HA4.out.below hb)
  clear hb
  clear HX_KB
  by_cases hP : pt.length = 64
  · have HPl := Lib.hid hP
    obtain ⟨R, HRe⟩ : ∃ R, Hid (R = rw_ ek (nm d) v pt) := ⟨_, rfl⟩
    have HRl : Hid (R.length = 72) := by show _ = _; rw [HRe.out, rw_length, hP]
    have hn3 : n3 = 64 := by rw [HN3.out]; exact hP
    subst hn3
    refine (SClose_rw ks HK.out d v hv pt R HRe.out hP _ w5 HT.out HA3.out).mono ?_
    rintro e w6 ⟨g, cap, vs, rfl, hcap, hgr, HB0, Hvs, hb⟩
    have HB := Lib.hid HB0
    clear HB0 hP
    replace HC := Lib.hid (HC.out.trans (hb.mono HC.out.size))
    replace HT := Lib.hid (HT.out.below hb)
    replace HM := Lib.hid (HM.out.below hb)
    replace HA3 := Lib.hid (HA3.out.below hb)
    replace HA4 := Lib.hid (HA4.out.below hb)
    replace HX_TB := Lib.hid (HX_TB.out.below hb HX_TB.out.lt)
    clear hb
    have Hvz : Hid (vs.toArray.size = 32) := Hvs.out.size
    have Hvo : Hid (vs.toArray.all (·.oneCell') = true) := Hvs.out.one
    go_wp2_with (refine wpList_store_row rfl 27 (.tmp 15) (.tmp 67) rfl w6.heap.size vs.toArray rfl rfl 27 _ (Row.new w6 _ Hm.Z32) (by rw [Hvz.out]; kernel_rfl) (by rw [Hvz.out]; rfl) Hvo.out ?_)
    have HX_UB : Hid (Row ((w6.alloc (.cells Hm.Z32.toArray 27)).setRow w6.heap.size vs.toArray) w6.heap.size 27 vs) := (Row.new w6 27 Hm.Z32).whole vs
    have hb : Below w6.heap.size w6 ((w6.alloc (.cells Hm.Z32.toArray 27)).setRow w6.heap.size vs.toArray) := below_setRow' ((Below.refl _ _).alloc (Nat.le_refl _) _) (Nat.le_refl _) _
    obtain ⟨UB, hUB⟩ : ∃ X, X = w6.heap.size := ⟨_, rfl⟩
    have hb2 : Below w6.heap.size w6 ((w6.alloc (.cells Hm.Z32.toArray 27)).setRow UB vs.toArray) := by rw [hUB]; exact hb
    rw [← hUB] at HX_UB ⊢
    clear hb hUB
    generalize ((w6.alloc (.cells Hm.Z32.toArray 27)).setRow UB vs.toArray) = w7 at *
    have hb := hb2
    clear hb2
    replace HC := Lib.hid (HC.out.trans (hb.mono HC.out.size))
    replace HT := Lib.hid (HT.out.below hb)
    replace HM := Lib.hid (HM.out.below hb)
    replace HA3 := Lib.hid (HA3.out.below hb)
    replace HA4 := Lib.hid (HA4.out.below hb)
    replace HB := Lib.hid (HB.out.below hb)
    replace HX_TB := Lib.hid (HX_TB.out.below hb HX_TB.out.lt)
    clear hb
    have HKeep : Hid (∀ W, Below w7.heap.size w7 W → (convert 22 9 (.slice (some ⟨TB, 0, none⟩) 32 32)).run Tryd.prog W = .ok (.string (strB (tg mk (nm d) r))) W) := fun W hW => conv_arg ((Hrs.out.row (HX_TB.out.below hW HX_TB.out.lt)).arg 32 Hrs.out.2)
    go_wp2
    have hC : Below w7.heap.size w7 w7.drew := below_drewN (Below.refl _ _) 1
    refine wp_region_held_drew (S := (fun W => (convert 22 9 (.slice (some ⟨TB, 0, none⟩) 32 32)).run Tryd.prog W = .ok (.string (strB (tg mk (nm d) r))) W)) (by kernel_rfl) (HKeep.out _ hC) (fun hHeld => ?_)
    generalize w7.drew = w7d at *
    refine wpAnyH_take (i := 0) (oi := ⟨some 69, _, _, _, _, _⟩) (v := ?_) rfl (by kernel_rfl) (by kernel_rfl) (by kernel_rfl) (fun _ _ _ h => h) (Or.inl ⟨by rfl, ?_⟩) hHeld ?_
    rotate_left
    · intro w hSw
      go_simp
      with_reducible rfl
    try go_frame
    refine wpAnyH_take (i := 1) (oi := ⟨some 70, _, _, _, _, _⟩) (v := ?_) rfl (by kernel_rfl) (by kernel_rfl) (by kernel_rfl) (fun _ _ _ h => h) (Or.inl ⟨by rfl, ?_⟩) hHeld ?_
    rotate_left
    · intro w hSw
      have hS1 := hSw
      go_simp
      with_reducible rfl
    try go_frame
    refine wpAnyH_take (i := 2) (oi := ⟨some 71, _, _, _, _, _⟩) (v := ?_) rfl (by kernel_rfl) (by kernel_rfl) (by kernel_rfl) (fun _ _ _ h => h) (Or.inl ⟨by rfl, ?_⟩) hHeld ?_
    rotate_left
    · intro w hSw
      go_simp
      with_reducible rfl
    try go_frame
    refine wpAnyH_take (i := 3) (oi := ⟨some 72, _, _, _, _, _⟩) (v := ?_) rfl (by kernel_rfl) (by kernel_rfl) (by kernel_rfl) (fun _ _ _ h => h) (Or.inl ⟨by rfl, ?_⟩) hHeld ?_
    rotate_left
    · intro w hSw
      go_simp
      with_reducible rfl
    try go_frame
    refine wpAnyH_take (i := 4) (oi := ⟨some 73, _, _, _, _, _⟩) (v := ?_) rfl (by kernel_rfl) (by kernel_rfl) (by kernel_rfl) (fun _ _ _ h => h) (Or.inl ⟨by rfl, ?_⟩) hHeld ?_
    rotate_left
    · intro w hSw
      go_simp
      with_reducible rfl
    try go_frame
    refine wpAnyH_ready (rs := [5]) (by kernel_rfl) (by simp) ?_
    refine AllReadyH.cons (o := ⟨some 74, _, _, _, _, _⟩) rfl (fun K hK => ?_) AllReadyH.nil
    go_simp
    go_at_call 11
    refine (RSTag_any p ek mk d r HR4.out _ w7d (HM.out.below hC) (HA4.out.below hC)).mono ?_
    rintro e w7d_rt ⟨rfl, hb⟩
    replace hC := hC.trans (hb.mono hC.size)
    refine hK.out _ _ (HKeep.out _ hC) (fun hHeld => ?_)
    clear hK K hb 
    try go_frame
    refine wpAnyH_take (i := 6) (oi := ⟨some 75, _, _, _, _, _⟩) (v := ?_) rfl (by kernel_rfl) (by kernel_rfl) (by kernel_rfl) (fun _ _ _ h => h) (Or.inl ⟨by rfl, ?_⟩) hHeld ?_
    rotate_left
    · intro w hSw
      go_simp
      with_reducible rfl
    try go_frame
    refine wpAnyH_done (by kernel_rfl) ?_ _
    have hb := hC
    clear hC HKeep hHeld
    replace HC := Lib.hid (HC.out.trans (hb.mono HC.out.size))
    replace HT := Lib.hid (HT.out.below hb)
    replace HM := Lib.hid (HM.out.below hb)
    replace HA3 := Lib.hid (HA3.out.below hb)
    replace HB := Lib.hid (HB.out.below hb)
    replace HX_UB := Lib.hid (HX_UB.out.below hb HX_UB.out.lt)
    clear hb
    generalize w7d_rt = w8 at *
    clear HX_TB Hrs HA4
    go_wp2_with fail
    refine (RSClose_any p ek mk HK.out.2.1 d v hv pt (by rw [HPl.out]; omega) _ w8 HM.out HA3.out).mono ?_
    rintro e w9 ⟨rv, rfl, HW0, hb⟩
    have HW : Hid (Arg w9 rv R) := by show Arg _ _ _; rw [HRe.out]; exact HW0.out
    clear HW0 HA3
    replace HC := Lib.hid (HC.out.trans (hb.mono HC.out.size))
    replace HT := Lib.hid (HT.out.below hb)
    replace HM := Lib.hid (HM.out.below hb)
    replace HB := Lib.hid (HB.out.below hb)
    replace HX_UB := Lib.hid (HX_UB.out.below hb HX_UB.out.lt)
    clear hb
    have HKeep : Hid (∀ W, Below w9.heap.size w9 W → (convert 22 9 (.slice (some ⟨g, 0, none⟩) 72 cap)).run Tryd.prog W = .ok (.string (strB R)) W ∧ (convert 22 9 rv).run Tryd.prog W = .ok (.string (strB R)) W ∧ (convert 22 9 (.slice (some ⟨UB, 0, none⟩) 32 32)).run Tryd.prog W = .ok (.string (strB (tg mk (nm d) R))) W) := fun W hW => ⟨conv_arg (HB.out.below hW), conv_arg (HW.out.below hW), conv_arg ((Hvs.out.row (HX_UB.out.below hW HX_UB.out.lt)).arg 32 Hvs.out.2)⟩
    go_wp2
    have hC : Below w9.heap.size w9 w9.drew := below_drewN (Below.refl _ _) 1
    refine wp_region_held_drew (S := (fun W => (convert 22 9 (.slice (some ⟨g, 0, none⟩) 72 cap)).run Tryd.prog W = .ok (.string (strB R)) W ∧ (convert 22 9 rv).run Tryd.prog W = .ok (.string (strB R)) W ∧ (convert 22 9 (.slice (some ⟨UB, 0, none⟩) 32 32)).run Tryd.prog W = .ok (.string (strB (tg mk (nm d) R))) W)) (by kernel_rfl) (HKeep.out _ hC) (fun hHeld => ?_)
    generalize w9.drew = w9d at *
    refine wpAnyH_take (i := 0) (oi := ⟨some 99, _, _, _, _, _⟩) (v := ?_) rfl (by kernel_rfl) (by kernel_rfl) (by kernel_rfl) (fun _ _ _ h => h) (Or.inl ⟨by rfl, ?_⟩) hHeld ?_
    rotate_left
    · intro w hSw
      go_simp
      with_reducible rfl
    try go_frame
    refine wpAnyH_take (i := 1) (oi := ⟨some 100, _, _, _, _, _⟩) (v := ?_) rfl (by kernel_rfl) (by kernel_rfl) (by kernel_rfl) (fun _ _ _ h => h) (Or.inl ⟨by rfl, ?_⟩) hHeld ?_
    rotate_left
    · intro w hSw
      obtain ⟨hS1, hS2, hS3⟩ := hSw
      go_simp
      with_reducible rfl
    try go_frame
    refine wpAnyH_take (i := 2) (oi := ⟨some 101, _, _, _, _, _⟩) (v := ?_) rfl (by kernel_rfl) (by kernel_rfl) (by kernel_rfl) (fun _ _ _ h => h) (Or.inl ⟨by rfl, ?_⟩) hHeld ?_
    rotate_left
    · intro w hSw
      go_simp
      with_reducible rfl
    try go_frame
    refine wpAnyH_take (i := 3) (oi := ⟨some 102, _, _, _, _, _⟩) (v := ?_) rfl (by kernel_rfl) (by kernel_rfl) (by kernel_rfl) (fun _ _ _ h => h) (Or.inl ⟨by rfl, ?_⟩) hHeld ?_
    rotate_left
    · intro w hSw
      obtain ⟨hS1, hS2, hS3⟩ := hSw
      go_simp
      with_reducible rfl
    try go_frame
    refine wpAnyH_take (i := 4) (oi := ⟨some 103, _, _, _, _, _⟩) (v := ?_) rfl (by kernel_rfl) (by kernel_rfl) (by kernel_rfl) (fun _ _ _ h => h) (Or.inl ⟨by rfl, ?_⟩) hHeld ?_
    rotate_left
    · intro w hSw
      go_simp
      with_reducible rfl
    try go_frame
    refine wpAnyH_take (i := 5) (oi := ⟨some 104, _, _, _, _, _⟩) (v := ?_) rfl (by kernel_rfl) (by kernel_rfl) (by kernel_rfl) (fun _ _ _ h => h) (Or.inl ⟨by rfl, ?_⟩) hHeld ?_
    rotate_left
    · intro w hSw
      go_simp
      with_reducible rfl
    try go_frame
    refine wpAnyH_take (i := 6) (oi := ⟨some 105, _, _, _, _, _⟩) (v := ?_) rfl (by kernel_rfl) (by kernel_rfl) (by kernel_rfl) (fun _ _ _ h => h) (Or.inl ⟨by rfl, ?_⟩) hHeld ?_
    rotate_left
    · intro w hSw
      go_simp
      with_reducible rfl
    try go_frame
    refine wpAnyH_take (i := 7) (oi := ⟨some 106, _, _, _, _, _⟩) (v := ?_) rfl (by kernel_rfl) (by kernel_rfl) (by kernel_rfl) (fun _ _ _ h => h) (Or.inl ⟨by rfl, ?_⟩) hHeld ?_
    rotate_left
    · intro w hSw
      obtain ⟨hS1, hS2, hS3⟩ := hSw
      go_simp
      with_reducible rfl
    try go_frame
    refine wpAnyH_take (i := 8) (oi := ⟨some 107, _, _, _, _, _⟩) (v := ?_) rfl (by kernel_rfl) (by kernel_rfl) (by kernel_rfl) (fun _ _ _ h => h) (Or.inl ⟨by rfl, ?_⟩) hHeld ?_
    rotate_left
    · intro w hSw
      go_simp
      with_reducible rfl
    try go_frame
    refine wpAnyH_take (i := 9) (oi := ⟨some 108, _, _, _, _, _⟩) (v := ?_) rfl (by kernel_rfl) (by kernel_rfl) (by kernel_rfl) (fun _ _ _ h => h) (Or.inl ⟨by rfl, ?_⟩) hHeld ?_
    rotate_left
    · intro w hSw
      go_simp
      with_reducible rfl
    try go_frame
    refine wpAnyH_take (i := 10) (oi := ⟨some 109, _, _, _, _, _⟩) (v := ?_) rfl (by kernel_rfl) (by kernel_rfl) (by kernel_rfl) (fun _ _ _ h => h) (Or.inl ⟨by rfl, ?_⟩) hHeld ?_
    rotate_left
    · intro w hSw
      go_simp
      with_reducible rfl
    try go_frame
    refine wpAnyH_ready (rs := [11]) (by kernel_rfl) (by simp) ?_
    refine AllReadyH.cons (o := ⟨some 110, _, _, _, _, _⟩) rfl (fun K hK => ?_) AllReadyH.nil
    go_simp
    go_at_call 11
    refine (RSTag_any p ek mk d R (by rw [HRl.out]; omega) _ w9d (HM.out.below hC) (HW.out.below hC)).mono ?_
    rintro e w9d_rt ⟨rfl, hb⟩
    replace hC := hC.trans (hb.mono hC.size)
    refine hK.out _ _ (HKeep.out _ hC) (fun hHeld => ?_)
    clear hK K hb 
    try go_frame
    refine wpAnyH_take (i := 12) (oi := ⟨some 111, _, _, _, _, _⟩) (v := ?_) rfl (by kernel_rfl) (by kernel_rfl) (by kernel_rfl) (fun _ _ _ h => h) (Or.inl ⟨by rfl, ?_⟩) hHeld ?_
    rotate_left
    · intro w hSw
      go_simp
      with_reducible rfl
    try go_frame
    refine wpAnyH_take (i := 13) (oi := ⟨some 112, _, _, _, _, _⟩) (v := ?_) rfl (by kernel_rfl) (by kernel_rfl) (by kernel_rfl) (fun _ _ _ h => h) (Or.inl ⟨by rfl, ?_⟩) hHeld ?_
    rotate_left
    · intro w hSw
      go_simp
      with_reducible rfl
    try go_frame
    refine wpAnyH_take (i := 14) (oi := ⟨some 113, _, _, _, _, _⟩) (v := ?_) rfl (by kernel_rfl) (by kernel_rfl) (by kernel_rfl) (fun _ _ _ h => h) (Or.inl ⟨by rfl, ?_⟩) hHeld ?_
    rotate_left
    · intro w hSw
      go_simp
      with_reducible rfl
    try go_frame
    refine wpAnyH_take (i := 15) (oi := ⟨some 114, _, _, _, _, _⟩) (v := ?_) rfl (by kernel_rfl) (by kernel_rfl) (by kernel_rfl) (fun _ _ _ h => h) (Or.inl ⟨by rfl, ?_⟩) hHeld ?_
    rotate_left
    · intro w hSw
      go_simp
      with_reducible rfl
    try go_frame
    refine wpAnyH_take (i := 16) (oi := ⟨some 115, _, _, _, _, _⟩) (v := ?_) rfl (by kernel_rfl) (by kernel_rfl) (by kernel_rfl) (fun _ _ _ h => h) (Or.inl ⟨by rfl, ?_⟩) hHeld ?_
    rotate_left
    · intro w hSw
      go_simp
      with_reducible rfl
    try go_frame
    refine wpAnyH_take (i := 17) (oi := ⟨some 116, _, _, _, _, _⟩) (v := ?_) rfl (by kernel_rfl) (by kernel_rfl) (by kernel_rfl) (fun _ _ _ h => h) (Or.inl ⟨by rfl, ?_⟩) hHeld ?_
    rotate_left
    · intro w hSw
      go_simp
      with_reducible rfl
    try go_frame
    refine wpAnyH_take (i := 18) (oi := ⟨some 117, _, _, _, _, _⟩) (v := ?_) rfl (by kernel_rfl) (by kernel_rfl) (by kernel_rfl) (fun _ _ _ h => h) (Or.inl ⟨by rfl, ?_⟩) hHeld ?_
    rotate_left
    · intro w hSw
      go_simp
      with_reducible rfl
    try go_frame
    refine wpAnyH_ready (rs := [19]) (by kernel_rfl) (by simp) ?_
    refine AllReadyH.cons (o := ⟨some 118, _, _, _, _, _⟩) rfl (fun K hK => ?_) AllReadyH.nil
    go_simp
    go_at_call 6
    refine (Sknows_any w9d_rt (HT.out.below hC)).mono ?_
    rintro e w9d_rt_kn ⟨rfl, hb⟩
    replace hC := hC.trans (hb.mono hC.size)
    refine hK.out _ _ (HKeep.out _ hC) (fun hHeld => ?_)
    clear hK K hb 
    try go_frame
    refine wpAnyH_take (i := 20) (oi := ⟨some 119, _, _, _, _, _⟩) (v := ?_) rfl (by kernel_rfl) (by kernel_rfl) (by kernel_rfl) (fun _ _ _ h => h) (Or.inl ⟨by rfl, ?_⟩) hHeld ?_
    rotate_left
    · intro w hSw
      go_simp
      with_reducible rfl
    try go_frame
    refine wpAnyH_take (i := 21) (oi := ⟨some 10, _, _, _, _, _⟩) (v := ?_) rfl (by kernel_rfl) (by kernel_rfl) (by kernel_rfl) (fun _ _ _ h => h) (Or.inl ⟨by rfl, ?_⟩) hHeld ?_
    rotate_left
    · intro w hSw
      go_simp
      with_reducible rfl
    try go_frame
    refine wpAnyH_done (by kernel_rfl) ?_ _
    have HF := Lib.hid (HC.out.trans (hC.mono HC.out.size))
    clear hC HKeep hHeld
    go_wp2
    go_ret
    exact ⟨rfl, HF.out⟩
  · have hn3 : n3 ≠ 64 := by rw [HN3.out]; exact hP
    refine (SClose_bad ek mk ks HK.out d v pt hP _ w5 HA3.out).mono ?_
    rintro e w6 ⟨rfl, hb⟩
    replace HC := Lib.hid (HC.out.trans (hb.mono HC.out.size))
    replace HT := Lib.hid (HT.out.below hb)
    replace HM := Lib.hid (HM.out.below hb)
    replace HA4 := Lib.hid (HA4.out.below hb)
    replace HX_TB := Lib.hid (HX_TB.out.below hb HX_TB.out.lt)
    clear hb
    clear HA3 hP
    go_wp2_with (refine wpList_store_row rfl 27 (.tmp 15) (.tmp 67) rfl w6.heap.size Hm.Z32.toArray rfl rfl 27 _ (Row.new w6 _ Hm.Z32) (by rw [Hz32.out]; kernel_rfl) rfl Ho32.out ?_)
    have HX_UB : Hid (Row ((w6.alloc (.cells Hm.Z32.toArray 27)).setRow w6.heap.size Hm.Z32.toArray) w6.heap.size 27 Hm.Z32) := (Row.new w6 27 Hm.Z32).whole Hm.Z32
    have hb : Below w6.heap.size w6 ((w6.alloc (.cells Hm.Z32.toArray 27)).setRow w6.heap.size Hm.Z32.toArray) := below_setRow' ((Below.refl _ _).alloc (Nat.le_refl _) _) (Nat.le_refl _) _
    obtain ⟨UB, hUB⟩ : ∃ X, X = w6.heap.size := ⟨_, rfl⟩
    have hb2 : Below w6.heap.size w6 ((w6.alloc (.cells Hm.Z32.toArray 27)).setRow UB Hm.Z32.toArray) := by rw [hUB]; exact hb
    rw [← hUB] at HX_UB ⊢
    clear hb hUB
    generalize ((w6.alloc (.cells Hm.Z32.toArray 27)).setRow UB Hm.Z32.toArray) = w7 at *
    have hb := hb2
    clear hb2
    replace HC := Lib.hid (HC.out.trans (hb.mono HC.out.size))
    replace HT := Lib.hid (HT.out.below hb)
    replace HM := Lib.hid (HM.out.below hb)
    replace HA4 := Lib.hid (HA4.out.below hb)
    replace HX_TB := Lib.hid (HX_TB.out.below hb HX_TB.out.lt)
    clear hb
    have HKeep : Hid (∀ W, Below w7.heap.size w7 W → (convert 22 9 (.slice (some ⟨TB, 0, none⟩) 32 32)).run Tryd.prog W = .ok (.string (strB (tg mk (nm d) r))) W) := fun W hW => conv_arg ((Hrs.out.row (HX_TB.out.below hW HX_TB.out.lt)).arg 32 Hrs.out.2)
    go_wp2
    have hC : Below w7.heap.size w7 w7.drew := below_drewN (Below.refl _ _) 1
    refine wp_region_held_drew (S := (fun W => (convert 22 9 (.slice (some ⟨TB, 0, none⟩) 32 32)).run Tryd.prog W = .ok (.string (strB (tg mk (nm d) r))) W)) (by kernel_rfl) (HKeep.out _ hC) (fun hHeld => ?_)
    generalize w7.drew = w7d at *
    refine wpAnyH_take (i := 0) (oi := ⟨some 69, _, _, _, _, _⟩) (v := ?_) rfl (by kernel_rfl) (by kernel_rfl) (by kernel_rfl) (fun _ _ _ h => h) (Or.inl ⟨by rfl, ?_⟩) hHeld ?_
    rotate_left
    · intro w hSw
      go_simp
      with_reducible rfl
    try go_frame
    refine wpAnyH_take (i := 1) (oi := ⟨some 70, _, _, _, _, _⟩) (v := ?_) rfl (by kernel_rfl) (by kernel_rfl) (by kernel_rfl) (fun _ _ _ h => h) (Or.inl ⟨by rfl, ?_⟩) hHeld ?_
    rotate_left
    · intro w hSw
      have hS1 := hSw
      go_simp
      with_reducible rfl
    try go_frame
    refine wpAnyH_take (i := 2) (oi := ⟨some 71, _, _, _, _, _⟩) (v := ?_) rfl (by kernel_rfl) (by kernel_rfl) (by kernel_rfl) (fun _ _ _ h => h) (Or.inl ⟨by rfl, ?_⟩) hHeld ?_
    rotate_left
    · intro w hSw
      go_simp
      with_reducible rfl
    try go_frame
    refine wpAnyH_take (i := 3) (oi := ⟨some 72, _, _, _, _, _⟩) (v := ?_) rfl (by kernel_rfl) (by kernel_rfl) (by kernel_rfl) (fun _ _ _ h => h) (Or.inl ⟨by rfl, ?_⟩) hHeld ?_
    rotate_left
    · intro w hSw
      go_simp
      with_reducible rfl
    try go_frame
    refine wpAnyH_take (i := 4) (oi := ⟨some 73, _, _, _, _, _⟩) (v := ?_) rfl (by kernel_rfl) (by kernel_rfl) (by kernel_rfl) (fun _ _ _ h => h) (Or.inl ⟨by rfl, ?_⟩) hHeld ?_
    rotate_left
    · intro w hSw
      go_simp
      with_reducible rfl
    try go_frame
    refine wpAnyH_ready (rs := [5]) (by kernel_rfl) (by simp) ?_
    refine AllReadyH.cons (o := ⟨some 74, _, _, _, _, _⟩) rfl (fun K hK => ?_) AllReadyH.nil
    go_simp
    go_at_call 11
    refine (RSTag_any p ek mk d r HR4.out _ w7d (HM.out.below hC) (HA4.out.below hC)).mono ?_
    rintro e w7d_rt ⟨rfl, hb⟩
    replace hC := hC.trans (hb.mono hC.size)
    refine hK.out _ _ (HKeep.out _ hC) (fun hHeld => ?_)
    clear hK K hb 
    try go_frame
    refine wpAnyH_take (i := 6) (oi := ⟨some 75, _, _, _, _, _⟩) (v := ?_) rfl (by kernel_rfl) (by kernel_rfl) (by kernel_rfl) (fun _ _ _ h => h) (Or.inl ⟨by rfl, ?_⟩) hHeld ?_
    rotate_left
    · intro w hSw
      go_simp
      with_reducible rfl
    try go_frame
    refine wpAnyH_done (by kernel_rfl) ?_ _
    have hb := hC
    clear hC HKeep hHeld
    replace HC := Lib.hid (HC.out.trans (hb.mono HC.out.size))
    replace HT := Lib.hid (HT.out.below hb)
    replace HX_UB := Lib.hid (HX_UB.out.below hb HX_UB.out.lt)
    clear hb
    generalize w7d_rt = w8 at *
    have hte := arr_eq 27 32 Tryd.underlying27 (List.replicate 32 0) (List.replicate 32 0) Hm.Z32 Hm.Z32 ⟨by rfl, by rfl⟩ ⟨by rfl, by rfl⟩
    simp only [decide_true] at hte
    clear HX_TB Hrs HM HA4
    go_wp2_with (refine wpList_load_row_g (by rfl) 27 (.tmp 15) rfl UB rfl 27 Hm.Z32.toArray (0, 0) _ HX_UB.out Tryd.underlying27 rfl (by rw [Hz32.out]; kernel_rfl) ?_)
    refine (Sknows_any w8 HT.out).mono ?_
    rintro e w9 ⟨rfl, hb⟩
    replace HC := Lib.hid (HC.out.trans (hb.mono HC.out.size))
    clear hb
    go_wp2
    go_ret
    exact ⟨rfl, HC.out⟩
end Go.Proofs.YtfodblgoamkgmaaDoor
