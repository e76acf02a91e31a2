/-
  OF THE WALK: MrMT, MrMU, MrMV, MrMYB, MrNK.
-/
import Derived.LoopIn
import Derived.LoopNIn
import Derived.Maps.AppendAt
import Derived.OwnWalkIn
import Derived.RangeFuncBound
import Derived.RangeFuncCalls
import Derived.RangeFuncLeaves
import Derived.RangeFuncNested
import Derived.Shelf.Abstract
import Derived.Shelf.RegionOpen
import Derived.Shelf.SlIterI.Collect
import Derived.TacticsInMore
import Derived.Test.YthbmknpbcgnabaaGreatDoorP22
import Derived.Test.YthbmknpbcgnabaaGreatDoorP23
namespace Go.Proofs.YthbmknpbcgnabaaGreatDoor.Mr
open Go.RowKit Mk
set_option maxRecDepth 100000 in
set_option maxHeartbeats 1000000 in
theorem node_holds : NodeC := by
  intro key four v ks w hk h4 h32 hks hT hA
  obtain ⟨A, cap, rfl⟩ := hA.form
  obtain ⟨n, hnl⟩ : ∃ n, n = key.length := ⟨_, rfl⟩
  rw [← hnl] at hA ⊢
  match four, h4 with
  | [t0, t1, t2, t3], _ =>
  have e0 := h32 t0 (by simp)
  have e1 := h32 t1 (by simp)
  have e2 := h32 t2 (by simp)
  have e3 := h32 t3 (by simp)
  have Hks := Lib.hid hks
  have Hkz : Hid (ks.toArray.size = 128) := by show _ = _; rw [hks, List.size_toArray, List.length_map, flat_length [t0, t1, t2, t3] rfl h32]
  have HSm : Hid (Hm.Small [nodeW, t0, t1, t2, t3]) := by
    refine ⟨by simp, fun p hp => ?_⟩
    simp only [List.mem_cons, List.not_mem_nil, or_false] at hp
    rcases hp with rfl | rfl | rfl | rfl | rfl
    · decide
    all_goals omega
  have hz := Hm.zeroTag
  obtain ⟨w0, hw0⟩ : ∃ w0, w0 = (w.alloc (.cells ks.toArray 198)).alloc (.cells Hm.Z32.toArray 27) := ⟨_, rfl⟩
  have HC : Hid (Below w.heap.size w w0) := by rw [hw0]; exact ((Below.refl _ _).alloc (Nat.le_refl _) _).alloc (by simp) _
  have HX_K : Hid (Row w0 w.heap.size 198 ks) := by rw [hw0]; exact (Row.new w 198 ks).alloc _
  have HX_Z : Hid (Row w0 (w.heap.size + 1) 27 Hm.Z32) := by rw [hw0]; exact Row.newAt 27 Hm.Z32 (by simp)
  have HT : Hid (Hm.Tab w0) := hT.below HC.out
  have HA : Hid (Arg w0 (.slice A n cap) key) := hA.below HC.out
  obtain ⟨k0, k1, k2, k3⟩ := kid_at e0 e1 e2 e3 (Hks.out ▸ HX_K.out)
  have HK0 := Lib.hid k0
  have HK1 := Lib.hid k1
  have HK2 := Lib.hid k2
  have HK3 := Lib.hid k3
  have HKeep : Hid (∀ W, Below w0.heap.size w0 W → True) := fun _ _ => trivial
  clear k0 k1 k2 k3 hks e0 e1 e2 e3 h32 hT hA hnl
  go_enter Tryz.func110, Tryz.ntmps110
  go_wp2
  rw [← hw0]
  clear hw0 hz
  have hC : Below w0.heap.size w0 w0.drew := below_drewN (Below.refl _ _) 1
  refine wp_region_held_drew (S := (fun _ => True)) (by kernel_rfl) (HKeep.out _ hC) (fun hHeld => ?_)
  generalize w0.drew = w0d at *
  refine wpAnyH_take (i := 0) (oi := ⟨some 5, _, _, _, _, _⟩) (v := ?_) rfl (by kernel_rfl) (by kernel_rfl) (by kernel_rfl) (fun _ _ _ h => h) (Or.inl ⟨by rfl, ?_⟩) hHeld ?_
  rotate_left
  · intro w hSw
    go_simp
    with_reducible rfl
  try go_frame
  refine wpAnyH_take (i := 3) (oi := ⟨some 8, _, _, _, _, _⟩) (v := ?_) rfl (by kernel_rfl) (by kernel_rfl) (by kernel_rfl) (fun _ _ _ h => h) (Or.inl ⟨by rfl, ?_⟩) hHeld ?_
  rotate_left
  · intro w hSw
    go_simp
    with_reducible rfl
  try go_frame
  refine wpAnyH_take (i := 4) (oi := ⟨some 9, _, _, _, _, _⟩) (v := ?_) rfl (by kernel_rfl) (by kernel_rfl) (by kernel_rfl) (fun _ _ _ h => h) (Or.inl ⟨by rfl, ?_⟩) hHeld ?_
  rotate_left
  · intro w hSw
    go_simp
    with_reducible rfl
  try go_frame
  refine wpAnyH_take (i := 5) (oi := ⟨some 10, _, _, _, _, _⟩) (v := ?_) rfl (by kernel_rfl) (by kernel_rfl) (by kernel_rfl) (fun _ _ _ h => h) (Or.inl ⟨by rfl, ?_⟩) hHeld ?_
  rotate_left
  · intro w hSw
    go_simp
    with_reducible rfl
  try go_frame
  refine wpAnyH_take (i := 6) (oi := ⟨some 11, _, _, _, _, _⟩) (v := ?_) rfl (by kernel_rfl) (by kernel_rfl) (by kernel_rfl) (fun _ _ _ h => h) (Or.inl ⟨by rfl, ?_⟩) hHeld ?_
  rotate_left
  · intro w hSw
    go_simp
    with_reducible rfl
  try go_frame
  refine wpAnyH_take (i := 7) (oi := ⟨some 12, _, _, _, _, _⟩) (v := ?_) rfl (by kernel_rfl) (by kernel_rfl) (by kernel_rfl) (fun _ _ _ h => h) (Or.inl ⟨by rfl, ?_⟩) hHeld ?_
  rotate_left
  · intro w hSw
    go_simp
    with_reducible rfl
  try go_frame
  refine wpAnyH_take (i := 8) (oi := ⟨some 13, _, _, _, _, _⟩) (v := ?_) rfl (by kernel_rfl) (by kernel_rfl) (by kernel_rfl) (fun _ _ _ h => h) (Or.inl ⟨by rfl, ?_⟩) hHeld ?_
  rotate_left
  · intro w hSw
    go_simp
    with_reducible rfl
  try go_frame
  refine wpAnyH_take (i := 9) (oi := ⟨some 14, _, _, _, _, _⟩) (v := ?_) rfl (by kernel_rfl) (by kernel_rfl) (by kernel_rfl) (fun _ _ _ h => h) (Or.inl ⟨by rfl, ?_⟩) hHeld ?_
  rotate_left
  · intro w hSw
    go_simp
    with_reducible rfl
  try go_frame
  refine wpAnyH_take (i := 10) (oi := ⟨some 15, _, _, _, _, _⟩) (v := ?_) rfl (by kernel_rfl) (by kernel_rfl) (by kernel_rfl) (fun _ _ _ h => h) (Or.inl ⟨by rfl, ?_⟩) hHeld ?_
  rotate_left
  · intro w hSw
    go_simp
    with_reducible rfl
  try go_frame
  refine wpAnyH_ready (rs := [1]) (by kernel_rfl) (by simp) ?_
  refine AllReadyH.cons (o := ⟨some 6, _, _, _, _, _⟩) rfl (fun K hK => ?_) AllReadyH.nil
  go_simp
  have hb : Below w0d.heap.size w0d (w0d.alloc (.cells #[.int .u8 110, .int .u8 111, .int .u8 100, .int .u8 101] 5)) := Joins.below_alloc1 _ _
  have hg_lf := hC.size
  obtain ⟨g_lf, Hg_lf⟩ : ∃ g, Hid (g = w0d.heap.size) := ⟨_, rfl⟩
  have R_lf : Hid (Row (w0d.alloc (.cells #[.int .u8 110, .int .u8 111, .int .u8 100, .int .u8 101] 5)) w0d.heap.size 5 (nodeW.map V8)) := Row.new w0d 5 (nodeW.map V8)
  replace hC := hC.trans (hb.mono hC.size)
  refine hK.out _ _ (HKeep.out _ hC) (fun hHeld => ?_)
  clear hK K hb
  generalize (w0d.alloc (.cells #[.int .u8 110, .int .u8 111, .int .u8 100, .int .u8 101] 5)) = w0d_lf at *
  rw [← Hg_lf.out] at hg_lf ⊢
  rw [← Hg_lf.out] at R_lf
  clear Hg_lf
  try go_frame
  refine wpAnyH_ready (rs := [2]) (by kernel_rfl) (by simp) ?_
  refine AllReadyH.cons (o := ⟨some 7, _, _, _, _, _⟩) rfl (fun K hK => ?_) AllReadyH.nil
  have hcv := run_mark g_lf 4 4 nodeW w0d_lf R_lf.out
  go_simp
  clear hcv
  have hb0 := hC.trans (mark_below w0d_lf _ g_lf (List.length nodeW) hg_lf)
  have F_lf : Hid (Arg (w0d_lf.freeze ⟨g_lf, List.length nodeW, none⟩ 1) (.slice (some ⟨g_lf, 0, none⟩) 4 4) (nodeW)) := mark_arg w0d_lf g_lf _ R_lf.out 4 rfl
  clear R_lf
  replace hC := hb0
  refine hK.out _ _ (HKeep.out _ hC) (fun hHeld => ?_)
  clear hK K hb0
  generalize (w0d_lf.freeze ⟨g_lf, List.length nodeW, none⟩ 1) = w0d_lf_mk at *
  try go_frame
  refine wpAnyH_ready (rs := [11]) (by kernel_rfl) (by simp) ?_
  refine AllReadyH.cons (o := ⟨some 16, _, _, _, _, _⟩) rfl (fun K hK => ?_) AllReadyH.nil
  go_simp
  have hb : Below w0d_lf_mk.heap.size w0d_lf_mk (w0d_lf_mk.alloc (.cells #[.slice (some ⟨g_lf, 0, none⟩) 4 4, .slice (some ⟨w.heap.size, 0, none⟩) 32 32, .slice (some ⟨w.heap.size, 32, none⟩) 32 32, .slice (some ⟨w.heap.size, 64, none⟩) 32 32, .slice (some ⟨w.heap.size, 96, none⟩) 32 32] 22)) := Joins.below_alloc1 _ _
  have hg_ps := hC.size
  obtain ⟨g_ps, Hg_ps⟩ : ∃ g, Hid (g = w0d_lf_mk.heap.size) := ⟨_, rfl⟩
  have F_ps : Hid (Hm.Parts (w0d_lf_mk.alloc (.cells #[.slice (some ⟨g_lf, 0, none⟩) 4 4, .slice (some ⟨w.heap.size, 0, none⟩) 32 32, .slice (some ⟨w.heap.size, 32, none⟩) 32 32, .slice (some ⟨w.heap.size, 64, none⟩) 32 32, .slice (some ⟨w.heap.size, 96, none⟩) 32 32] 22)) (.slice (some ⟨w0d_lf_mk.heap.size, 0, none⟩) 5 5) [nodeW, t0, t1, t2, t3]) := parts5 F_lf.out (HK0.out.below hC) (HK1.out.below hC) (HK2.out.below hC) (HK3.out.below hC)
  replace hC := hC.trans (hb.mono hC.size)
  replace F_lf := Lib.hid (F_lf.out.below hb)
  refine hK.out _ _ (HKeep.out _ hC) (fun hHeld => ?_)
  clear hK K hb
  generalize (w0d_lf_mk.alloc (.cells #[.slice (some ⟨g_lf, 0, none⟩) 4 4, .slice (some ⟨w.heap.size, 0, none⟩) 32 32, .slice (some ⟨w.heap.size, 32, none⟩) 32 32, .slice (some ⟨w.heap.size, 64, none⟩) 32 32, .slice (some ⟨w.heap.size, 96, none⟩) 32 32] 22)) = w0d_lf_mk_ps at *
  rw [← Hg_ps.out] at hg_ps ⊢
  rw [← Hg_ps.out] at F_ps
  clear Hg_ps
  try go_frame
  refine wpAnyH_ready (rs := [12]) (by kernel_rfl) (by simp) ?_
  refine AllReadyH.cons (o := ⟨some 17, _, _, _, _, _⟩) rfl (fun K hK => ?_) AllReadyH.nil
  go_simp
  go_at_call 31
  refine (Hm.Join_any _ key (by omega) _ _ _ _ HSm.out w0d_lf_mk_ps (HT.out.below hC) (HA.out.below hC) F_ps.out).mono ?_
  rintro e w0d_lf_mk_ps_jn ⟨rs, Hrs, rfl, hb⟩
  replace hC := hC.trans (hb.mono hC.size)
  replace F_lf := Lib.hid (F_lf.out.below hb)
  replace F_ps := Lib.hid (F_ps.out.below hb)
  refine hK.out _ _ (HKeep.out _ hC) (fun hHeld => ?_)
  clear hK K hb 
  have Hsz : Hid (rs.toArray.size = 32) := Hrs.out.size
  have Hone : Hid (rs.toArray.all (·.oneCell') = true) := Hrs.out.one
  clear F_lf F_ps
  try go_frame
  refine wpAnyH_ready (rs := [13]) (by kernel_rfl) (by simp) ?_
  refine AllReadyH.cons (o := ⟨none, _, _, _, _, _⟩) rfl (fun K hK => ?_) AllReadyH.nil
  rw [if_pos (by rfl)]
  refine Go.wp_store_row 27 (.tmp 4) (.tmp 17) rfl (w.heap.size + 1) rs.toArray rfl rfl 27 _ (HX_Z.out.below hC HX_Z.out.lt) (by rw [Hsz.out]; kernel_rfl) (by rw [Hsz.out]; rfl) Hone.out ?_
  have HF := Lib.hid ((HX_Z.out.below hC HX_Z.out.lt).whole rs)
  have HBF := Lib.hid (below_setRow' (HC.out.trans (hC.mono HC.out.size)) (k := w.heap.size + 1) (by omega) rs.toArray)
  refine hK.out _ _ trivial (fun hHeld => ?_)
  clear hK K
  generalize (w0d_lf_mk_ps_jn.setRow (w.heap.size + 1) rs.toArray) = w0d_lf_mk_ps_jn_st at *
  try go_frame
  refine wpAnyH_done (by kernel_rfl) ?_ _
  clear hC HKeep hHeld
  have hinfo : (Tryz.prog.info? 27).map (·.size) = some rs.toArray.size := by rw [Hsz.out]; kernel_rfl
  go_wp2
  refine bodyPost_ret (v := .agg rs.toArray) (results_cell_row rfl _ _ (w.heap.size + 1) 27 rs.toArray (0, 0) _ rfl HF.out Tryz.underlying27 rfl hinfo) rfl ?_
  exact ⟨⟨rs, Hrs, rfl⟩, HBF.out⟩
end Go.Proofs.YthbmknpbcgnabaaGreatDoor.Mr
namespace Go.Proofs.YthbmknpbcgnabaaGreatDoor.Mr
open Go.RowKit Mk
theorem w64 (x : Int) (h : -9223372036854775808 ≤ x ∧ x ≤ 9223372036854775807) : wrap64 x = x := by unfold wrap64; omega
theorem less4 (q : Nat) (h0 : 0 < q) (h : q ≤ 99999) : (wrap64 ((q : Int) / 4)).toNat < ((q : Int)).toNat := by
  rw [w64 _ (by omega)]; omega
theorem iO (x : Int) : RowKit.intOf (.int .i64 x) = x := rfl
theorem quo4 (n h : Nat) : ((n / 4 ^ h : Nat) : Int) / 4 = ((n / 4 ^ (h + 1) : Nat) : Int) := by
  rw [Nat.pow_succ, ← Nat.div_div_eq_div_mul]; omega
set_option maxRecDepth 100000 in
set_option maxHeartbeats 400000 in
theorem height_holds : HeightC := by
  intro m w hm
  by_cases h1 : m < 1
  · have HH : Hid (IsH m 1) := ⟨Nat.le_refl _, by omega, .inl rfl⟩
    go_enter Tryz.func140, Tryz.ntmps140
    go_wp2
    go_loopw [3, 4] (fun p q wr => p = .int .i64 1 ∧ q = .int .i64 0 ∧ Hid (Below w.heap.size w wr)) (fun _ _ _ => 0)
    case atStart => exact ⟨rfl, rfl, Below.refl _ _⟩
    case round =>
      obtain ⟨rfl, rfl, HB⟩ := hrel
      go_wp2
      go_ret
      exact ⟨⟨1, HH, by omega, rfl⟩, HB.out⟩
  · obtain ⟨n, rfl⟩ : ∃ n : Nat, m = (n : Int) + 1 := ⟨(m - 1).toNat, by omega⟩
    have Hn : Hid (n ≤ 99999) := by show _ ≤ _; omega
    have e0 : (n : Int) / 4 = ((n / 4 ^ 1 : Nat) : Int) := by rw [Nat.pow_one]; omega
    have E0 := Lib.hid e0
    clear e0
    go_enter Tryz.func140, Tryz.ntmps140
    go_wp2
    go_loopw [3, 4] (fun p q wr => ∃ h : Nat, Hid (1 ≤ h ∧ (h = 1 ∨ 4 ^ (h - 1) ≤ n)) ∧ h ≤ 9 ∧ p = .int .i64 h ∧ q = .int .i64 ((n / 4 ^ h : Nat) : Int) ∧ Hid (Below w.heap.size w wr)) (fun _ q _ => (RowKit.intOf q).toNat)
    case atStart => exact ⟨1, ⟨Nat.le_refl _, .inl rfl⟩, by omega, rfl, by rw [← E0.out], Below.refl _ _⟩
    case round =>
      obtain ⟨h, Hh, h9, rfl, rfl, HB⟩ := hrel
      obtain ⟨q, Hq⟩ : ∃ q, Hid (q = n / 4 ^ h) := ⟨_, rfl⟩
      have Eq4 : Hid ((q : Int) / 4 = ((n / 4 ^ (h + 1) : Nat) : Int)) := by show _ = _; rw [Hq.out]; exact quo4 n h
      have Hqb : Hid (q ≤ 99999) := by
        have h2 := Hq.out
        have h3 := Nat.div_le_self n (4 ^ h)
        have h4 := Hn.out
        show _ ≤ _; omega
      have Hw4 : Hid (wrap64 ((q : Int) / 4) = (q : Int) / 4) := by
        have h2 := Hq.out
        have h3 := Nat.div_le_self n (4 ^ h)
        have h4 := Hn.out
        exact w64 _ (by omega)
      rw [← Hq.out]
      by_cases hp : 0 < q
      · have hl : 4 ^ h ≤ n := by
          have h2 := Hq.out
          rw [h2] at hp
          exact (Nat.div_pos_iff.1 hp).2
        have h8 : h + 1 ≤ 9 := by
          rcases Nat.lt_or_ge h 9 with h3 | h3
          · omega
          · have h4 : 4 ^ 9 ≤ 4 ^ h := Nat.pow_le_pow_right (by omega) h3
            have := Hn.out
            omega
        have Hl := Lib.hid hl
        clear hl
        go_wp2
        go_roundw
        case rel => exact ⟨h + 1, ⟨by omega, .inr (by rw [Nat.add_sub_cancel]; exact Hl.out)⟩, h8, by go_num, by rw [Hw4.out, Eq4.out], HB⟩
        case measure => rw [iO, iO]; exact less4 q hp Hqb.out
      · obtain rfl : q = 0 := by omega
        have HH : Hid (IsH ((n : Int) + 1) h) := by
          have h2 := Hq.out
          have h3 : n < 4 ^ h := (Nat.div_eq_zero_iff_lt (Nat.pow_pos (by omega))).1 h2.symm
          refine ⟨Hh.out.1, ?_, ?_⟩
          · rw [← pow_int]; omega
          · rcases Hh.out.2 with h4 | h4
            · exact .inl h4
            · right
              rw [← pow_int]; omega
        go_wp2
        go_ret
        exact ⟨⟨h, HH, h9, rfl⟩, HB.out⟩
end Go.Proofs.YthbmknpbcgnabaaGreatDoor.Mr
namespace Go.Proofs.YthbmknpbcgnabaaGreatDoor.Mr
open Go.RowKit Mk
theorem row_mid {g : Nat} {t : TypeId} (post : List Value) : ∀ (vs old pre : List Value) (o : Nat) (w : World), pre.length = o → old.length = vs.length → Row w g t (pre ++ (old ++ post)) → Row (w.setCells g o vs) g t (pre ++ (vs ++ post))
  | [], old, pre, o, w, _, hl, h => by
    obtain rfl : old = [] := List.eq_nil_of_length_eq_zero hl
    exact h
  | v :: r, [], pre, o, w, _, hl, h => by simp at hl
  | v :: r, x :: old, pre, o, w, hp, hl, h => by
    rw [World.setCells]
    have h1 := h.set o v
    rw [List.cons_append, List.set_append_right _ _ (by omega), show o - pre.length = 0 by omega, List.set_cons_zero] at h1
    have h2 := row_mid post r old (pre ++ [v]) (o + 1) (w.setCell ⟨g, o, none⟩ v) (by simp [hp]) (by simpa using hl) (by simpa using h1)
    simpa using h2
theorem row_apart {g g' : Nat} {t : TypeId} {cs : List Value} : ∀ {w : World}, Row w g t cs → g ≠ g' → ∀ (vs : List Value) (o : Nat), Row (w.setCells g' o vs) g t cs
  | _, h, _, [], _ => h
  | _, h, hn, v :: r, o => by
    rw [World.setCells]
    exact row_apart (h.apart (p := ⟨g', o, none⟩) hn v) hn r (o + 1)
theorem below_cells {B g : Nat} (hg : B ≤ g) {a : World} : ∀ (vs : List Value) (o : Nat) {w : World}, Below B a w → Below B a (w.setCells g o vs)
  | [], _, _, h => h
  | v :: r, o, _, h => by
    rw [World.setCells]
    exact below_cells hg r (o + 1) (h.setCell (p := ⟨g, o, none⟩) hg v)
theorem _root_.Go.Proofs.YthbmknpbcgnabaaGreatDoor.Row.piece {w : World} {g : Nat} {t : TypeId} {cs : List Value} (h : Row w g t cs) (o : Nat) (ds : List Value) (hd : (cs.drop o).take ds.length = ds) : w.rangeAt g o ds := by
  intro j v hj
  rw [h.cell]
  have hjl : j < ds.length := (List.getElem?_eq_some_iff.1 hj).1
  rw [← hd, List.getElem?_take, if_pos hjl, List.getElem?_drop] at hj
  exact hj
def cells (l : List Tg) : List Value := l.flatten.map V8
theorem cells_append (a b : List Tg) : cells (a ++ b) = cells a ++ cells b := by simp [cells]
theorem cells_length (l : List Tg) (h : ∀ t ∈ l, t.length = 32) : (cells l).length = 32 * l.length := by
  induction l with
  | nil => rfl
  | cons t r ih =>
    have := ih fun u hu => h u (List.mem_cons_of_mem _ hu)
    simp only [cells, List.length_map, List.flatten_cons, List.length_append, List.length_cons] at this ⊢
    have := h t (by simp)
    omega
theorem cells_piece (l : List Tg) (h : ∀ t ∈ l, t.length = 32) (i n : Nat) (hin : i + n ≤ l.length) : ((cells l).drop (32 * i)).take (cells ((l.drop i).take n)).length = cells ((l.drop i).take n) := by
  have e : l = l.take i ++ ((l.drop i).take n ++ (l.drop i).drop n) := by rw [List.take_append_drop, List.take_append_drop]
  have hl : (cells (l.take i)).length = 32 * i := by
    rw [cells_length _ fun t ht => h t (List.mem_of_mem_take ht), List.length_take]; congr 1; omega
  have e2 : cells l = cells (l.take i) ++ (cells ((l.drop i).take n) ++ cells ((l.drop i).drop n)) := by rw [← cells_append, ← cells_append, ← e]
  rw [e2, ← hl, List.drop_append, List.drop_of_length_le (Nat.le_refl _), Nat.sub_self, List.drop_zero, List.nil_append, List.take_append_of_le_length (Nat.le_refl _), List.take_of_length_le (Nat.le_refl _)]
theorem getB {α : Type} [Inhabited α] (cs : Array α) (d : α) (n : Nat) (h : cs = Array.replicate n d) (j : Nat) (hj : j < n) : cs[j]! = d := by
  subst h; simp [hj]
set_option maxRecDepth 100000 in
def fill (l : List Tg) (M k : Nat) : List Tg := l.take k ++ List.replicate (M - k) zero
abbrev low (l : List Tg) (h k : Nat) : List Tg := fill l (4 ^ h) k
end Go.Proofs.YthbmknpbcgnabaaGreatDoor.Mr
namespace Go.Proofs.YthbmknpbcgnabaaGreatDoor.Mr
open Go.RowKit Go.Shelf Mk
structure Open (F : Fence) (P : Program) : Prop where
  fn : ∀ f, F.fn f
  depth : F.depth = none
  calls : ∀ {k f args w R}, Calls P f args w R → CallsIn F k P f args w R
  rows : ∀ {k row args w R}, Rows P row args w R → RowsIn F k P row args w R
theorem open_wide (P : Program) : Open Fence.wide P := ⟨fun _ => trivial, rfl, fun h => callsIn_wide.2 h, fun h c cs _ => let ⟨v, w', r, s⟩ := h c cs; ⟨v, w', r, stepsIn_wide.2 s⟩⟩
section
variable {F : Fence} {n : Nat} {P : Program} {ops : Array Oper} {Q : Exit → Act → World → Prop} {md : Region.Mode}
theorem wpIn_of_op (hO : Open F P) {o : Oper} (hd : ∀ c, o.op ≠ .defer c) {K K' : Act → World → Prop} (hK : ∀ a w, K a w → K' a w) {a : Act} {w : World} (h : o.wp P a w K Q) : o.wpIn F n P a w K' Q := by
  refine ⟨fun f _ => hO.fn f, ?_⟩
  rw [Oper.semAt_plain F _ _ hd]
  unfold Oper.wp at h
  have hdp : F.depth.isSome = true → 1 ≤ n := by rw [hO.depth]; intro h; cases h
  generalize (execOp a.eval o).run P w = r at *
  cases r with
  | ok x w' =>
    cases x <;> simp only [Oper.upon, Oper.uponIn] at h ⊢
    case value => exact hK _ _ h
    case skip => exact hK _ _ h
    case defer => exact hK _ _ h
    case enter f args =>
      refine ⟨hdp, (hO.calls h).mono fun e w'' he => ?_⟩
      cases e with
      | returned v => exact hK _ _ he
      | panicked c => exact he
      | outgrown => exact he
    case row row args => exact ⟨hdp, (hO.rows h).mono fun v w'' he => hK _ _ he⟩
  | halt x w' => cases x <;> simp only [Oper.upon, Oper.uponIn] at h ⊢ <;> exact h
theorem wpListIn_op (hO : Open F P) {o : Oper} {rest : List Oper} {a : Act} {w : World} (hg : o.guard = none) (hd : ∀ c, o.op ≠ .defer c) (h : ∀ K : Act → World → Prop, (∀ a w, wpListIn F n P ops Q rest a w → K a w) → o.wp P a w K Q) : wpListIn F n P ops Q (o :: rest) a w :=
  wpListIn_plain hg fun K hK => wpIn_of_op hO hd (fun _ _ h => h) (h K hK)
end
end Go.Proofs.YthbmknpbcgnabaaGreatDoor.Mr
namespace Go.Proofs.YthbmknpbcgnabaaGreatDoor.Mr
open Go.RowKit Go.Shelf Go.Maps
abbrev Nd := Nat × Nat
def cN (x : Nd) : List Value := [.int .i64 (x.1 : Int), .int .i64 (x.2 : Int)]
def eN (x : Nd) : Value := .agg #[.int .i64 (x.1 : Int), .int .i64 (x.2 : Int)]
theorem eN_inj {x y : Nd} (h : eN x = eN y) : x = y := by
  simp only [eN, Value.agg.injEq, Array.mk.injEq, List.cons.injEq, Value.int.injEq, true_and, and_true] at h
  exact Prod.ext (by omega) (by omega)
abbrev U0 : Value := .agg #[]
def NodesAt (w : World) (b : Nat) (ks : List Nd) : Prop := SetAt Tryz.prog 148 U0 w b (ks.map eN)
theorem nodup_of_map {α β : Type} (f : α → β) {l : List α} (h : (l.map f).Nodup) : l.Nodup := by
  refine List.Pairwise.imp ?_ (List.pairwise_map.1 h)
  intro a b hab e
  exact hab (by rw [e])
theorem nodup_map {α β : Type} (f : α → β) (hf : ∀ a b, f a = f b → a = b) {l : List α} (h : l.Nodup) : (l.map f).Nodup := by
  refine List.pairwise_map.2 (List.Pairwise.imp ?_ h)
  intro a b hab e
  exact hab (hf a b e)
theorem NodesAt.nodup {w : World} {b : Nat} {ks : List Nd} (h : NodesAt w b ks) : ks.Nodup := nodup_of_map _ (SetAt.nodup h)
theorem NodesAt.same {w w' : World} {b : Nat} {ks : List Nd} (h : NodesAt w b ks) (hs : w'.heap[b]? = w.heap[b]?) : NodesAt w' b ks := MapAt.same h hs
theorem NodesAt.lt {w : World} {b : Nat} {ks : List Nd} (h : NodesAt w b ks) : b < w.heap.size := MapAt.lt h
structure Rg (w : World) (b r : Nat) (ks ss : List Nd) (cnt : Nat) (es : Array MapEntry) (clock since : Nat) (seen : Array Nat) (c0 : Nat) : Prop where
  hb : w.heap[b]? = some (.map es clock)
  hf : es.toList.map (fun e => (e.key, e.val)) = ks.map fun x => (eN x, U0)
  hn : ks.Nodup
  st : Stamp es clock
  old : ∀ x ∈ es.toList, x.born < since
  hr : w.heap[r]? = some (.mapIter (some b) since seen c0)
  sc : since ≤ c0
  sk : since ≤ clock
  hc : (leftOf es seen).size = cnt
  len : ss.length + cnt ≤ ks.length
  nd : ss.Nodup
  mem : ∀ x, x ∈ ss ↔ ∃ e ∈ es.toList, e.key = eN x ∧ seen.contains e.born = true
def Rgs (w : World) (b r : Nat) (ks ss : List Nd) (cnt : Nat) : Prop := ∃ es clock since seen c0, Rg w b r ks ss cnt es clock since seen c0
section
variable {w w' : World} {b r : Nat} {ks ss : List Nd} {cnt : Nat}
theorem Rgs.left_eq (h : Rgs w b r ks ss cnt) : w.rangeLeft b r = cnt := by
  obtain ⟨es, clock, since, seen, c0, h⟩ := h
  simp only [World.rangeLeft, h.hb, h.hr]
  exact h.hc
theorem Rgs.iter_walk (h : Rgs w b r ks ss cnt) : ∃ o : Obj, w.heap[r]? = some o ∧ o.isWalk = true := by
  obtain ⟨es, clock, since, seen, c0, h⟩ := h
  exact ⟨_, h.hr, rfl⟩
theorem Rgs.of_walks (h : Rgs w b r ks ss cnt) (hk : KeepsWalks w w') : Rgs w' b r ks ss cnt := by
  obtain ⟨es, clock, since, seen, c0, h⟩ := h
  exact ⟨es, clock, since, seen, c0, hk.same b _ h.hb rfl, h.hf, h.hn, h.st, h.old, hk.same r _ h.hr rfl, h.sc, h.sk, h.hc, h.len, h.nd, h.mem⟩
theorem Rgs.few (h : Rgs w b r ks ss cnt) : ss.length + cnt ≤ ks.length := by
  obtain ⟨es, clock, since, seen, c0, h⟩ := h
  exact h.len
theorem Rgs.start (h : NodesAt w b ks) {t e : TypeId} (ht : Tryz.prog.underlying t = some (.map 148 e)) :
    ∃ w', (Instr.range t (.map (some b))).run Tryz.prog w = .ok (.pointer (some ⟨w.heap.size, 0, none⟩)) w' ∧ Rgs w' b w.heap.size ks [] ks.length ∧ w.grownBy w' none ∧ w'.heap.size = w.heap.size + 1 := by
  have hn := h.nodup
  obtain ⟨es, clock, hb, hf, _, _, st⟩ := h
  have hlt := (Array.getElem?_eq_some_iff.1 hb).1
  rw [List.map_map] at hf
  have hsz : es.size = ks.length := by
    have := congrArg List.length hf
    simpa using this
  refine ⟨_, run_range_map w t 148 e b es clock ht hb, ⟨es, clock, clock, #[], clock, ((MapKept.heap_alloc w _).2 b hlt).trans hb, hf, hn, st, st.1, (MapKept.heap_alloc w _).1, Nat.le_refl _, Nat.le_refl _, ?_, by simp, List.nodup_nil, fun x => ?_⟩, World.grownBy_alloc w _ none, by simp⟩
  · rw [← hsz]; simp [leftOf]
  · constructor
    · intro hx; cases hx
    · rintro ⟨e, _, _, hx⟩; simp at hx
theorem Rgs.next (h : Rgs w b r ks ss cnt) (ty : TypeId) :
    (cnt = 0 ∧ ss.Perm ks ∧ (Instr.next (.pointer (some ⟨r, 0, none⟩)) false ty).run Tryz.prog w = .ok (.tuple #[.bool false]) w) ∨
    ∃ x w' cnt', (Instr.next (.pointer (some ⟨r, 0, none⟩)) false ty).run Tryz.prog w = .ok (.tuple #[.bool true, eN x, U0]) w' ∧ x ∈ ks ∧ Rgs w' b r ks (ss ++ [x]) cnt' ∧ cnt' < cnt ∧ w.grownBy w' (some r) ∧ w'.heap.size = w.heap.size ∧
      (Instr.entry (.pointer (some ⟨r, 0, none⟩))).run Tryz.prog w' = .ok (.tuple #[eN x, U0]) w' := by
  obtain ⟨es, clock, since, seen, c0, hb, hf, hn, st, old, hr, sc, sk, hc, len, nd, mem⟩ := h
  have hrb : r ≠ b := by
    intro e
    rw [e, hb] at hr
    cases hr
  have hkn : (es.toList.map (·.key)).Nodup := by
    have e : es.toList.map (·.key) = ks.map eN := by
      have := congrArg (List.map (·.1)) hf
      simpa [List.map_map, Function.comp_def] using this
    rw [e]; exact nodup_map _ (fun _ _ => eN_inj) hn
  have hin : ∀ e ∈ es.toList, ∃ x ∈ ks, e.key = eN x ∧ e.val = U0 := fun e he => by
    have : (e.key, e.val) ∈ ks.map fun x => (eN x, U0) := by rw [← hf]; exact List.mem_map.2 ⟨e, he, rfl⟩
    obtain ⟨x, hx, hx2⟩ := List.mem_map.1 this
    injection hx2 with h1 h2
    exact ⟨x, hx, h1.symm, h2.symm⟩
  have hout : ∀ x ∈ ks, ∃ e ∈ es.toList, e.key = eN x := fun x hx => by
    have : (eN x, U0) ∈ es.toList.map fun e => (e.key, e.val) := by rw [hf]; exact List.mem_map.2 ⟨x, hx, rfl⟩
    obtain ⟨e, he, he2⟩ := List.mem_map.1 this
    injection he2 with h1 h2
    exact ⟨e, he, h1⟩
  have hpw : ∀ {l : List MapEntry}, (l.map (·.key)).Nodup → ∀ {x y : MapEntry}, x ∈ l → y ∈ l → x.key = y.key → x = y := fun hl _ _ hx hy e => entry_eq_of_key (List.pairwise_map.1 hl) hx hy e
  rcases run_next_at (P := Tryz.prog) w ty r b since c0 seen es clock hr hb old sc with ⟨h0, hrun⟩ | ⟨e, he, w1, hal, hrun⟩
  · refine .inl ⟨by rw [← hc, h0], (List.perm_ext_iff_of_nodup nd hn).2 fun x => ?_, hrun⟩
    rw [mem]
    constructor
    · rintro ⟨e, he, hk, _⟩
      obtain ⟨y, hy, hk2, _⟩ := hin e he
      rwa [eN_inj (hk.symm.trans hk2)]
    · intro hx
      obtain ⟨e, he, hk⟩ := hout x hx
      exact ⟨e, he, hk, all_seen es seen h0 e he⟩
  · obtain ⟨hem, hes⟩ := mem_left he
    obtain ⟨x, hx, hxk, hxv⟩ := hin e hem
    have hr1 : w1.heap[r]? = some (.mapIter (some b) since seen c0) := by rcases hal with rfl | rfl <;> exact hr
    have hb1 : w1.heap[b]? = some (.map es clock) := by rcases hal with rfl | rfl <;> exact hb
    have hset := MapKept.heap_set (o' := .mapIter (some b) since (seen.push e.born) clock) hr1
    have hb' : (ChangeMaps.setBlock w1 r (.mapIter (some b) since (seen.push e.born) clock)).heap[b]? = some (.map es clock) := (hset.2 b (fun e1 => hrb e1.symm)).trans hb1
    have hlt := left_shrinks es seen e he
    have hen := run_entry_at (P := Tryz.prog) _ r b since seen es clock e hset.1 hb' hem st.2
    rw [hxk, hxv] at hrun hen
    refine .inr ⟨x, _, (leftOf es (seen.push e.born)).size, hrun, hx, ⟨es, clock, since, seen.push e.born, clock, hb', hf, hn, st, old, hset.1, sk, sk, rfl, ?_, ?_, fun y => ?_⟩, by rw [← hc]; exact hlt, ?_, ?_, hen⟩
    · rw [List.length_append, List.length_singleton]; omega
    · rw [List.nodup_append]
      refine ⟨nd, by simp, fun a ha c hc2 e2 => ?_⟩
      simp at hc2
      subst hc2
      subst e2
      obtain ⟨e', he', hk', hs'⟩ := (mem a).1 ha
      have := hpw hkn he' hem (hk'.trans hxk.symm)
      subst this
      rw [hs'] at hes; cases hes
    · rw [List.mem_append, List.mem_singleton, mem]
      constructor
      · rintro (⟨e', he', hk', hs'⟩ | rfl)
        · exact ⟨e', he', hk', by rw [contains_push, hs']; simp⟩
        · exact ⟨e, hem, hxk, by rw [contains_push]; simp⟩
      · rintro ⟨e', he', hk', hs'⟩
        rw [contains_push, Bool.or_eq_true] at hs'
        rcases hs' with hs' | hs'
        · exact .inl ⟨e', he', hk', hs'⟩
        · right
          have hbe : e'.born = e.born := by simpa using hs'
          have := born_inj st.2 he' hem hbe
          subst this
          exact eN_inj (hk'.symm.trans hxk)
    · rcases hal with rfl | rfl <;> exact ⟨rfl, rfl, rfl, by simp [ChangeMaps.setBlock], fun i _ hi => hset.2 i (fun e1 => hi (by rw [e1]))⟩
    · rcases hal with rfl | rfl <;> simp [ChangeMaps.setBlock]
end
theorem wpListIn_val {F : Fence} {n : Nat} {P : Program} {ops : Array Oper} {Q : Exit → Act → World → Prop} (hO : Open F P) {o : Oper} {rest : List Oper} {a : Act} {w w' : World} {v : Value} (hg : o.guard = none) (hd : ∀ c, o.op ≠ .defer c)
    (hr : (execOp a.eval o).run P w = .ok (.value v) w') (h : wpListIn F n P ops Q rest (a.put o.dst v) w') : wpListIn F n P ops Q (o :: rest) a w :=
  wpListIn_op hO hg hd fun K hK => by unfold Oper.wp; rw [hr]; exact hK _ _ h
theorem wpList_val {P : Program} {ops : Array Oper} {Q : Exit → Act → World → Prop} {o : Oper} {rest : List Oper} {a : Act} {w w' : World} {v : Value} (hg : o.guard = none)
    (hr : (execOp a.eval o).run P w = .ok (.value v) w') (h : wpList P ops Q rest (a.put o.dst v) w') : wpList P ops Q (o :: rest) a w :=
  wpList_plain hg fun K hK => by unfold Oper.wp; rw [hr]; exact hK _ _ h
theorem run_range_op {P : Program} {w w' : World} {a : Act} {o : Oper} {t : TypeId} {x : Operand} {v m : Value} (ho : o.op = .range t x) (hx : a.eval x = m) (hr : (Instr.range t m).run P w = .ok v w') : (execOp a.eval o).run P w = .ok (.value v) w' := by
  simp [execOp, ho, hx, hr, Result.andThen]
theorem run_next_op {P : Program} {w w' : World} {a : Act} {o : Oper} {x : Operand} {v m : Value} (ho : o.op = .next x false) (hx : a.eval x = m) (hr : (Instr.next m false o.type).run P w = .ok v w') : (execOp a.eval o).run P w = .ok (.value v) w' := by
  simp [execOp, ho, hx, hr, Result.andThen]
theorem node_zero (w : World) : (zeroValue 148).run Tryz.prog w = .ok (.agg #[.int .i64 0, .int .i64 0]) w := by kernel_rfl
end Go.Proofs.YthbmknpbcgnabaaGreatDoor.Mr
