/-
  THE WALK of Derive.
-/
import Derived.Test.YtfodblgoamkgmaaDoorSF
namespace Go.Proofs.YtfodblgoamkgmaaDoor
open Go.RowKit Aes Ctr Sl

theorem foldl_put (l : List Value) : ∀ (off k : Nat) (cs : Array Value), off + k + l.length ≤ cs.size →
    (l.zipIdx k).foldl (fun (cs : Array Value) (p : Value × Nat) => cs.setIfInBounds (off + p.2) p.1) cs = (cs.toList.take (off + k) ++ l ++ cs.toList.drop (off + k + l.length)).toArray := by
  induction l with
  | nil => intro off k cs h; simp
  | cons a r ih =>
    intro off k cs h
    rw [List.length_cons] at h
    rw [List.zipIdx_cons, List.foldl_cons, ih off (k + 1) _ (by simp; omega)]
    congr 1
    have e : (cs.setIfInBounds (off + k) a).toList = cs.toList.set (off + k) a := by simp
    rw [e, ← Nat.add_assoc]
    have hlt : off + k < cs.toList.length := by simp; omega
    rw [List.take_succ_eq_append_getElem (by rw [List.length_set]; exact hlt), List.getElem_set_self, List.take_set_of_le (Nat.le_refl _), List.drop_set_of_lt (by omega)]
    rw [List.length_cons, show off + k + (r.length + 1) = off + k + 1 + r.length by omega]
    simp
def Z48 : List Value := List.replicate 48 (.int .u8 0)
theorem zeroSk (w : World) : (zeroValue 29).run Tryd.prog w = .ok (.agg Z48.toArray) w := by kernel_rfl
theorem built_tsk (parts : List (Nat × Value)) : Tryd.prog.built 29 parts = Instr.fill (fun i => (#[(0, 16), (16, 32)] : Array (Nat × Nat))[i]?) Z48.toArray parts := by kernel_rfl
theorem fill_two (place : Nat → Option (Nat × Nat)) (cells c1 c2 a b : Array Value) (p0 : place 0 = some (0, 16)) (p1 : place 1 = some (16, 32)) (ha : a.size = 16) (hb : b.size = 32) (hc : cells.size = 48) (hc1 : c1.size = 48)
    (g1 : a.zipIdx.foldl (fun (cs : Array Value) (x : Value × Nat) => cs.setIfInBounds (0 + x.2) x.1) cells = c1) (g2 : b.zipIdx.foldl (fun (cs : Array Value) (x : Value × Nat) => cs.setIfInBounds (16 + x.2) x.1) c1 = c2) :
    Instr.fill place cells [(0, .agg a), (1, .agg b)] = some c2 := by
  have e1 : Instr.fill place cells [(0, .agg a), (1, .agg b)] = Instr.fill place c1 [(1, .agg b)] := by
    rw [Instr.fill, p0]
    dsimp only [Value.cells]
    refine Eq.trans (if_neg (by simp [ha, hc])) ?_
    rw [g1]
  have e2 : Instr.fill place c1 [(1, .agg b)] = some c2 := by
    rw [Instr.fill, p1]
    dsimp only [Value.cells]
    refine Eq.trans (if_neg (by simp [hb, hc1])) ?_
    rw [g2]; rfl
  rw [e1, e2]
theorem built_keys (ea ma : List Value) (h1 : ea.length = 16) (h2 : ma.length = 32) : Tryd.prog.built 29 [(0, .agg ea.toArray), (1, .agg ma.toArray)] = some (ea ++ ma).toArray := by
  rw [built_tsk]
  have hz : Z48.length = 48 := by decide
  have f1 := foldl_put ea 0 0 Z48.toArray (by rw [List.size_toArray, hz, h1]; omega)
  have f2 := foldl_put ma 16 0 (ea ++ Z48.drop 16).toArray (by rw [List.size_toArray, List.length_append, List.length_drop, hz, h1, h2]; omega)
  simp only [Nat.add_zero, List.take_zero, List.nil_append, Nat.zero_add, h1] at f1
  rw [Nat.add_zero, h2, show (ea ++ Z48.drop 16).toArray.toList = ea ++ Z48.drop 16 from rfl, List.take_append_of_le_length (by omega), List.take_of_length_le (by omega), show (ea ++ Z48.drop 16).drop (16 + 32) = [] from List.drop_eq_nil_of_le (by rw [List.length_append, List.length_drop, hz, h1]; omega), List.append_nil] at f2
  have g1 : ea.toArray.zipIdx.foldl (fun (cs : Array Value) (p : Value × Nat) => cs.setIfInBounds (0 + p.2) p.1) Z48.toArray = (ea ++ Z48.drop 16).toArray := by
    rw [← Array.foldl_toList, show ea.toArray.zipIdx.toList = ea.zipIdx by simp]
    simpa using f1
  have g2 : ma.toArray.zipIdx.foldl (fun (cs : Array Value) (p : Value × Nat) => cs.setIfInBounds (16 + p.2) p.1) (ea ++ Z48.drop 16).toArray = (ea ++ ma).toArray := by
    rw [← Array.foldl_toList, show ma.toArray.zipIdx.toList = ma.zipIdx by simp]
    exact f2
  exact fill_two _ _ _ _ _ _ rfl rfl (by simp [h1]) (by simp [h2]) (by simp [hz]) (by simp [h1, hz]) g1 g2
theorem yieldsIf_build2 {P : Program} {ops : Array Oper} {S : World → Prop} {op : Oper} {a : Act} (hw : Region.wanted op (yielded ops a.tmps) = true) (t : TypeId) (x0 x1 : Operand) (ho : op.op = .build t #[(0, x0), (1, x1)]) (v0 v1 : Value) (h0 : a.eval x0 = v0) (h1 : a.eval x1 = v1) (cells : Array Value)
    (hb : P.built t [(0, v0), (1, v1)] = some cells) : YieldsIf P ops S op (.agg cells) a :=
  .inl ⟨hw, fun w _ => by
    have hp : ((#[(0, x0), (1, x1)] : Array (Nat × Operand)).map fun (i, x) => (i, a.eval x)) = #[(0, v0), (1, v1)] := by simp [h0, h1]
    unfold execOp
    simp only [ho, Sem.run_bind, Sem.run_pure, Result.andThen_ok, hp, run_build w t #[(0, v0), (1, v1)] cells hb]⟩
theorem cut16 (X : Nat) (W : World) : (Instr.sliceAt 27 (.pointer (some ⟨X, 0, none⟩)) none (some (.int .i64 16)) none).run Tryd.prog W = .ok (.slice (some ⟨X, 0, none⟩) 16 32) W := by
  have ha : Tryd.prog.underlying 27 = some (.array (Tryd.prog.arrayLen 27) (Tryd.prog.elem 27)) := by kernel_rfl
  have hl : Tryd.prog.arrayLen 27 = 32 := by kernel_rfl
  have hs : (sizeOf (Tryd.prog.elem 27)).run Tryd.prog W = .ok 1 W := by kernel_rfl
  have h16 : (16 : Int).toNat = 16 := rfl
  rw [run_sliceAt_array_h W 27 ⟨X, 0, none⟩ ha .i64 16 (by omega) (by rw [hl]; omega), hs, hl, h16]
  rfl
theorem toArr16 (X c : Nat) (W : World) : (Instr.arrayAt 25 (.slice (some ⟨X, 0, none⟩) 16 c)).run Tryd.prog W = .ok (.pointer (some ⟨X, 0, none⟩)) W := by
  simp [Instr.arrayAt, run_underlying Tryd.underlying25]

set_option maxRecDepth 100000 in
set_option maxHeartbeats 1000000 in
theorem SDerive_any (s : List UInt8) (hs : s.length ≤ 1000000) (x : Value) (w : World) (hT : Hm.Tab w) (h : Arg w x s) :
    Calls Tryd.prog 7 #[x] w fun e w' => ∃ ks : List Value, Hid (KeysV (encK s) (macK s) ks) ∧ e = .returned (.agg ks.toArray) ∧ Below w.heap.size w w' := by
  obtain ⟨A, cap, rfl⟩ := h.form
  obtain ⟨n, hnl⟩ : ∃ n, n = s.length := ⟨_, rfl⟩
  rw [← hnl] at h ⊢
  have HSl := Lib.hid hs
  have hzk := zeroSk
  have hz := Hm.zeroTag
  obtain ⟨w0, hw0⟩ : ∃ w0, w0 = w.alloc (.cells Z48.toArray 29) := ⟨_, rfl⟩
  have HSZ0 : Hid (w0.heap.size = w.heap.size + 1) := by show _ = _; rw [hw0]; simp
  have HB0 : Hid (Below w.heap.size w w0) := by rw [hw0]; exact (Below.refl _ _).alloc (Nat.le_refl _) _
  have HZ0 : Hid (Row w0 w.heap.size 29 Z48) := by rw [hw0]; exact Row.new w 29 Z48
  have hc1 := Joins.run_convert_bytes_const_at (P := Tryd.prog) w0 22 5 #[.int .u8 101, .int .u8 110, .int .u8 99] 3 3 (w.heap.size + 1) HSZ0.out.symm Tryd.underlying22 Tryd.underlying5
  rw [hw0] at hc1
  obtain ⟨w1, hw1⟩ : ∃ w1, w1 = w0.alloc (.cells #[.int .u8 101, .int .u8 110, .int .u8 99] 5 (3, 4)) := ⟨_, rfl⟩
  have HSZ1 : Hid (w1.heap.size = w.heap.size + 1 + 1) := by show _ = _; rw [hw1, hw0]; simp
  have HB1 : Hid (Below w.heap.size w w1) := by rw [hw1]; exact HB0.out.alloc HB0.out.size _
  have HZ1 : Hid (Row w1 w.heap.size 29 Z48) := by rw [hw1]; exact HZ0.out.alloc _
  have HE1 : Hid (Arg w1 (.slice (some ⟨w.heap.size + 1, 0, none⟩) 3 3) encW) := by
    refine .inr ⟨w.heap.size + 1, 0, 3, rfl, by rw [HSZ1.out]; omega, by decide, fun j u hu => ?_⟩
    rw [hw1, Nat.zero_add]
    refine (Joins.cell_alloc_mark_at w0 _ _ _ _ j HSZ0.out.symm).trans ?_
    rw [List.getElem?_toArray]
    exact hu
  obtain ⟨w2, hw2⟩ : ∃ w2, w2 = w1.alloc (.cells #[.slice (some ⟨w.heap.size + 1, 0, none⟩) 3 3] 22) := ⟨_, rfl⟩
  have HB2 : Hid (Below w.heap.size w w2) := by rw [hw2]; exact HB1.out.alloc HB1.out.size _
  have HZ2 : Hid (Row w2 w.heap.size 29 Z48) := by rw [hw2]; exact HZ1.out.alloc _
  have HP2 : Hid (Hm.Parts w2 (.slice (some ⟨w.heap.size + 1 + 1, 0, none⟩) 1 1) [encW]) := by
    have := parts1 HE1.out
    rw [← hw2, HSZ1.out] at this
    exact this
  have HT2 : Hid (Hm.Tab w2) := hT.below HB2.out
  have HV2 : Hid (Arg w2 (.slice A n cap) s) := h.below HB2.out
  clear hnl hs h hT HE1 HZ1 HZ0 HB1 HB0
  go_enter Tryd.func7, Tryd.ntmps7
  go_wp2_with fail
  rw [← hw0, ← hw1, ← hw2]
  refine (Hm.Join_any _ s HSl.out _ _ _ _ smallE w2 HT2.out HV2.out HP2.out).mono ?_
  rintro e w3 ⟨rs, Hrs, rfl, hb3⟩
  have hs23 := hb3.size
  have Hsz : Hid (rs.toArray.size = 32) := Hrs.out.size
  have Hone : Hid (rs.toArray.all (·.oneCell') = true) := Hrs.out.one
  have HB3 := Lib.hid (HB2.out.trans (hb3.mono HB2.out.size))
  have HZ3 := Lib.hid (HZ2.out.below hb3 HZ2.out.lt)
  have HT3 := Lib.hid (HT2.out.below hb3)
  have HV3 := Lib.hid (HV2.out.below hb3)
  clear hw0 hw1 hw2 hc1 hzk HT2 HV2 HP2 HB2 HZ2 hb3
  go_wp2_with (refine wpList_store_row rfl 27 (.tmp 3) (.tmp 8) rfl w3.heap.size rs.toArray rfl rfl 27 _ (Row.new w3 _ Hm.Z32) (by rw [Hsz.out]; kernel_rfl) (by rw [Hsz.out]; rfl) Hone.out ?_)
  have HB34 : Hid (Below w3.heap.size w3 ((w3.alloc (.cells Hm.Z32.toArray 27)).setRow w3.heap.size rs.toArray)) := below_setRow' ((Below.refl _ _).alloc (Nat.le_refl _) _) (Nat.le_refl _) _
  have HX4 : Hid (Row ((w3.alloc (.cells Hm.Z32.toArray 27)).setRow w3.heap.size rs.toArray) w3.heap.size 27 rs) := (Row.new w3 27 Hm.Z32).whole rs
  have HXne : Hid (w3.heap.size ≠ w.heap.size) := by show _ ≠ _; have := HZ3.out.lt; omega
  obtain ⟨X, hX⟩ : ∃ X, X = w3.heap.size := ⟨_, rfl⟩
  rw [← hX] at HX4 HXne ⊢
  have HB34' : Below w3.heap.size w3 ((w3.alloc (.cells Hm.Z32.toArray 27)).setRow X rs.toArray) := by rw [hX]; exact HB34.out
  clear HB34 hX
  generalize (w3.alloc (.cells Hm.Z32.toArray 27)).setRow X rs.toArray = w4 at *
  have HB4 := Lib.hid (HB3.out.trans (HB34'.mono HB3.out.size))
  have HZ4 := Lib.hid (HZ3.out.below HB34' HZ3.out.lt)
  have HT4 := Lib.hid (HT3.out.below HB34')
  have HV4 := Lib.hid (HV3.out.below HB34')
  obtain ⟨C16, HCe⟩ : ∃ C, Hid (C = List.map V8 (encK s)) := ⟨_, rfl⟩
  have HC16 : Hid (C16.length = 16) := by show _ = _; rw [HCe.out, List.length_map, encK_length]
  have HKeep : Hid (∀ W, Below w4.heap.size w4 W → W.rangeAt X 0 C16) := fun W hW => by
    have h1 := ((HX4.out.below hW HX4.out.lt)).sees.piece 0 16
    rw [Nat.zero_add, List.drop_zero, Hrs.out.1, ← List.map_take] at h1
    rw [HCe.out]
    exact h1
  have hi1 : (Tryd.prog.info? 25).map (·.size) = some C16.length := by rw [HC16.out]; kernel_rfl
  clear HB34' HB3 HZ3 HT3 HV3 hz
  have hC : Below w4.heap.size w4 w4.drew := below_drewN (Below.refl _ _) 1
  refine wp_region_held_drew (S := (fun W => W.rangeAt X 0 (C16))) (by kernel_rfl) (HKeep.out _ hC) (fun hHeld => ?_)
  generalize w4.drew = w4d at *
  refine wpAnyH_take (i := 0) (oi := ⟨some 9, _, _, _, _, _⟩) (v := ?_) rfl (by kernel_rfl) (by kernel_rfl) (by kernel_rfl) (fun _ _ _ h => h) (Or.inl ⟨by rfl, ?_⟩) hHeld ?_
  rotate_left
  · intro w hSw
    have hsl := cut16 X w
    go_simp
    with_reducible rfl
  try go_frame
  refine wpAnyH_take (i := 1) (oi := ⟨some 10, _, _, _, _, _⟩) (v := ?_) rfl (by kernel_rfl) (by kernel_rfl) (by kernel_rfl) (fun _ _ _ h => h) (Or.inl ⟨by rfl, ?_⟩) hHeld ?_
  rotate_left
  · intro w hSw
    have hsp := toArr16 X 32 w
    go_simp
    with_reducible rfl
  try go_frame
  refine wpAnyH_take (i := 2) (oi := ⟨some 11, _, _, _, _, _⟩) (v := .agg (C16).toArray) rfl (by kernel_rfl) (by kernel_rfl) (by kernel_rfl) (fun _ _ _ h => h) (yieldsIf_load_mid (by rfl) 25 (.tmp 10) rfl (X) 0 rfl (C16) _ (fun W h => h) Tryd.underlying25 rfl hi1) hHeld ?_
  try go_frame
  refine wpAnyH_take (i := 3) (oi := ⟨some 12, _, _, _, _, _⟩) (v := ?_) rfl (by kernel_rfl) (by kernel_rfl) (by kernel_rfl) (fun _ _ _ h => h) (Or.inl ⟨by rfl, ?_⟩) hHeld ?_
  rotate_left
  · intro w hSw
    go_simp
    with_reducible rfl
  try go_frame
  refine wpAnyH_ready (rs := [4]) (by kernel_rfl) (by simp) ?_
  refine AllReadyH.cons (o := ⟨some 13, _, _, _, _, _⟩) rfl (fun K hK => ?_) AllReadyH.nil
  go_simp
  have hb : Below w4d.heap.size w4d (w4d.alloc (.cells #[.int .u8 109, .int .u8 97, .int .u8 99] 5)) := Joins.below_alloc1 _ _
  have hg_lf := hC.size
  obtain ⟨g_lf, Hg_lf⟩ : ∃ g, Hid (g = w4d.heap.size) := ⟨_, rfl⟩
  have R_lf : Hid (Row (w4d.alloc (.cells #[.int .u8 109, .int .u8 97, .int .u8 99] 5)) w4d.heap.size 5 (macW.map V8)) := Row.new w4d 5 (macW.map V8)
  replace hC := hC.trans (hb.mono hC.size)
  refine hK.out _ _ (HKeep.out _ hC) (fun hHeld => ?_)
  clear hK K hb
  generalize (w4d.alloc (.cells #[.int .u8 109, .int .u8 97, .int .u8 99] 5)) = w4d_lf at *
  rw [← Hg_lf.out] at hg_lf ⊢
  rw [← Hg_lf.out] at R_lf
  clear Hg_lf
  try go_frame
  refine wpAnyH_ready (rs := [5]) (by kernel_rfl) (by simp) ?_
  refine AllReadyH.cons (o := ⟨some 14, _, _, _, _, _⟩) rfl (fun K hK => ?_) AllReadyH.nil
  have hcv := run_mark g_lf 3 3 macW w4d_lf R_lf.out
  go_simp
  clear hcv
  have hb0 := hC.trans (mark_below w4d_lf _ g_lf (List.length macW) hg_lf)
  have F_lf : Hid (Arg (w4d_lf.freeze ⟨g_lf, List.length macW, none⟩ 1) (.slice (some ⟨g_lf, 0, none⟩) 3 3) (macW)) := mark_arg w4d_lf g_lf _ R_lf.out 3 rfl
  clear R_lf
  replace hC := hb0
  refine hK.out _ _ (HKeep.out _ hC) (fun hHeld => ?_)
  clear hK K hb0
  generalize (w4d_lf.freeze ⟨g_lf, List.length macW, none⟩ 1) = w4d_lf_mk at *
  try go_frame
  refine wpAnyH_ready (rs := [6]) (by kernel_rfl) (by simp) ?_
  refine AllReadyH.cons (o := ⟨some 15, _, _, _, _, _⟩) rfl (fun K hK => ?_) AllReadyH.nil
  go_simp
  have hb : Below w4d_lf_mk.heap.size w4d_lf_mk (w4d_lf_mk.alloc (.cells #[.slice (some ⟨g_lf, 0, none⟩) 3 3] 22)) := Joins.below_alloc1 _ _
  have hg_ps := hC.size
  obtain ⟨g_ps, Hg_ps⟩ : ∃ g, Hid (g = w4d_lf_mk.heap.size) := ⟨_, rfl⟩
  have F_ps : Hid (Hm.Parts (w4d_lf_mk.alloc (.cells #[.slice (some ⟨g_lf, 0, none⟩) 3 3] 22)) (.slice (some ⟨w4d_lf_mk.heap.size, 0, none⟩) 1 1) [macW]) := parts1 F_lf.out
  replace hC := hC.trans (hb.mono hC.size)
  replace F_lf := Lib.hid (F_lf.out.below hb)
  refine hK.out _ _ (HKeep.out _ hC) (fun hHeld => ?_)
  clear hK K hb
  generalize (w4d_lf_mk.alloc (.cells #[.slice (some ⟨g_lf, 0, none⟩) 3 3] 22)) = w4d_lf_mk_ps at *
  rw [← Hg_ps.out] at hg_ps ⊢
  rw [← Hg_ps.out] at F_ps
  clear Hg_ps
  try go_frame
  refine wpAnyH_ready (rs := [7]) (by kernel_rfl) (by simp) ?_
  refine AllReadyH.cons (o := ⟨some 16, _, _, _, _, _⟩) rfl (fun K hK => ?_) AllReadyH.nil
  go_simp
  go_at_call 16
  refine (Hm.Join_any _ s HSl.out _ _ _ _ smallM w4d_lf_mk_ps (HT4.out.below hC) (HV4.out.below hC) F_ps.out).mono ?_
  rintro e w4d_lf_mk_ps_jn ⟨r2, Hr2, rfl, hb⟩
  replace hC := hC.trans (hb.mono hC.size)
  replace F_lf := Lib.hid (F_lf.out.below hb)
  replace F_ps := Lib.hid (F_ps.out.below hb)
  refine hK.out _ _ (HKeep.out _ hC) (fun hHeld => ?_)
  clear hK K hb 
  have hbk := fun W => run_build (P := Tryd.prog) W 29 #[(0, .agg (C16).toArray), (1, .agg r2.toArray)] _ (built_keys (C16) r2 HC16.out Hr2.out.len)
  clear F_lf F_ps
  try go_frame
  refine wpAnyH_take (i := 8) (oi := ⟨some 17, _, _, _, _, _⟩) (v := .agg (C16 ++ r2).toArray) rfl (by kernel_rfl) (by kernel_rfl) (by kernel_rfl) (fun _ _ _ h => h) (yieldsIf_build2 (by rfl) 29 (.tmp 11) (.tmp 16) rfl _ _ rfl rfl _ (built_keys (C16) r2 HC16.out Hr2.out.len)) hHeld ?_
  try go_frame
  refine wpAnyH_ready (rs := [9]) (by kernel_rfl) (by simp) ?_
  refine AllReadyH.cons (o := ⟨none, _, _, _, _, _⟩) rfl (fun K hK => ?_) AllReadyH.nil
  rw [if_pos (by rfl)]
  have HZ := Lib.hid (HZ4.out.below hC HZ4.out.lt)
  have Hsz48 : Hid ((C16 ++ r2).toArray.size = 48) := by show _ = _; rw [List.size_toArray, List.length_append, HC16.out, Hr2.out.len]
  have Hone48 : Hid ((C16 ++ r2).toArray.all (·.oneCell') = true) := by show _ = _; rw [Hr2.out.1, HCe.out]; have h8 := one8 (encK s ++ macK s); rw [List.map_append] at h8; exact h8
  refine Go.wp_store_row 29 (.tmp 2) (.tmp 17) rfl w.heap.size (C16 ++ r2).toArray rfl rfl 29 _ HZ.out (by rw [Hsz48.out]; kernel_rfl) (by rw [Hsz48.out]; rfl) Hone48.out ?_
  have HF := Lib.hid (HZ.out.whole (C16 ++ r2))
  have HBF := Lib.hid (below_setRow' (HB4.out.trans (hC.mono HB4.out.size)) (k := w.heap.size) (Nat.le_refl _) (C16 ++ r2).toArray)
  refine hK.out _ _ (fun j u hj => (World.cell?_of_block (setRow_other _ _ _ _ HXne.out)).trans (hHeld j u hj)) (fun hHeld => ?_)
  clear hK K
  generalize (w4d_lf_mk_ps_jn.setRow w.heap.size (C16 ++ r2).toArray) = w4d_lf_mk_ps_jn_st at *
  try go_frame
  refine wpAnyH_done (by kernel_rfl) ?_ _
  clear hC HKeep hHeld
  have hinfo : (Tryd.prog.info? 29).map (·.size) = some (C16 ++ r2).toArray.size := by rw [Hsz48.out]; kernel_rfl
  go_wp2
  refine bodyPost_ret (v := .agg (C16 ++ r2).toArray) (results_cell_row rfl _ _ w.heap.size 29 (C16 ++ r2).toArray (0, 0) _ rfl HF.out Tryd.underlying29 rfl hinfo) rfl ?_
  exact ⟨C16 ++ r2, ⟨by rw [Hr2.out.1, HCe.out, List.map_append]; rfl, encK_length s, macK_length s⟩, rfl, HBF.out⟩
end Go.Proofs.YtfodblgoamkgmaaDoor
