/-
  OF THE WALK: MrNCB.
-/
import Derived.Laws.Cover3
import Derived.Test.YthbmknpbcgnabaaGreatDoorP28
namespace Go.Proofs.YthbmknpbcgnabaaGreatDoor.Mr
open Go.RowKit Mk Mt
section
variable {w0 w w' : World} {F : Nat → Prop} {D : Nat} {key : Tg} {L : List Tg} {S : List Bool} {V V0 h : Nat} {kv : Value} {KB RB rc MB : Nat} {rb : Nat → Nat} {rw rw0 : Nat → List Tg} {ks todo : List Nd}
set_option maxRecDepth 100000 in
set_option maxHeartbeats 1000000 in
theorem compute_any (a : TA w0 F D key L S V0 h kv KB RB rc MB rb rw0 ks) (r : AtR w0 w F D key L h kv RB rc MB rb rw V todo) (hT : Hm.Tab w) (jm i : Nat) (hx : (jm + 1, i) ∈ ks) (hlo : ∀ p ∈ todo, jm + 1 ≤ p.1) (rest : List Nd) (ht : ∀ p, p ∈ todo → p = (jm + 1, i) ∨ p ∈ rest) (hV : V ≤ 1000000) (lv : Nat) (hlv : lv = jm + 1) :
    Calls Tryz.prog 78 #[.pointer (some ⟨D, 0, none⟩), .agg #[I64 lv, I64 i]] w fun e w' => e = .returned (.tuple #[]) ∧ AtR w0 w' F D key L h kv RB rc MB rb (rwN rw key L (jm + 1, i)) (V + 1) rest ∧ Chg (fun k _ => F k) w w' := by
  obtain ⟨hjh, hiw, hi4, hrg, hf32⟩ := r.kids a jm i hx hlo
  have HTodo := Lib.hid ht
  have HV := Lib.hid hV
  clear hV
  obtain ⟨w1, hw1⟩ : ∃ w1, w1 = w.alloc (.cells #[I64 lv, I64 i] 148) := ⟨_, rfl⟩
  obtain ⟨bn, hbn⟩ : ∃ bn, bn = w.heap.size := ⟨_, rfl⟩
  have hB1 : Below w.heap.size w w1 := by rw [hw1]; exact (Below.refl _ _).alloc (Nat.le_refl _) _
  have hRn : Row w1 bn 148 [I64 lv, I64 i] := by rw [hw1, hbn]; exact Row.new w 148 [I64 lv, I64 i]
  have n0 : w1.cell? ⟨bn, 0, none⟩ = some (I64 lv) := by rw [hRn.cell]; rfl
  have n1 : w1.cell? ⟨bn, 1, none⟩ = some (I64 i) := by rw [hRn.cell]; rfl
  have r1 := r.below a hB1
  have HA0 := Lib.hid a
  have HB10 : Hid (Below w.heap.size w w1) := hB1
  have HR1 := Lib.hid r1
  have hkey := r1.akey a
  obtain ⟨A, cap, rfl⟩ := hkey.form
  obtain ⟨kn, hkn⟩ : ∃ n, n = key.length := ⟨_, rfl⟩
  obtain ⟨d0, d2, d3, d4⟩ := r1.fits
  have s1 := r1.slot a jm (by omega)
  have s2 := r1.slot a lv (by omega)
  obtain ⟨wm, hwm⟩ : ∃ x, x = wid L.length h jm := ⟨_, rfl⟩
  obtain ⟨wl, hwl⟩ : ∃ x, x = wid L.length h lv := ⟨_, rfl⟩
  obtain ⟨rm, hrm⟩ : ∃ x, x = rb jm := ⟨_, rfl⟩
  obtain ⟨rl, hrl⟩ : ∃ x, x = rb lv := ⟨_, rfl⟩
  obtain ⟨p, hp⟩ : ∃ p, p = 4 * i := ⟨_, rfl⟩
  obtain ⟨f, hf⟩ : ∃ f, f = four key L jm i := ⟨_, rfl⟩
  obtain ⟨cs, hcs⟩ : ∃ cs, cs = cells f := ⟨_, rfl⟩
  rw [← hlv] at hiw hjh
  rw [← hwm, ← hrm] at s1
  rw [← hwl, ← hrl] at s2
  rw [← hwm, ← hp] at hi4
  rw [← hwl] at hiw
  rw [← hrm, ← hf, ← hcs, ← hp] at hrg
  rw [← hf] at hf32
  have hrmr : ∀ W, Below w.heap.size w W → W.rangeAt rm (p * 32) cs := fun W hW j v hj => (hW.cell (p := ⟨rm, p * 32 + j, none⟩) (by rw [hrm]; exact (r.row jm (by omega)).lt)).trans (hrg j v hj)
  have Hf4 : Hid (f.length = 4) := by show _ = _; rw [hf]; rfl
  have Hf32 := Lib.hid hf32
  have Hcs : Hid (cs = f.flatten.map V8) := hcs
  have Hcl : Hid (cs.length = 128) := by show _ = _; rw [hcs, cells_length f hf32, Hf4.out]
  have Hkey : Hid (key.length ≤ 1000) := a.hk
  have HNode : Hid (node key f = tv key L lv i) := by show _ = _; rw [hf, node_four, ← hlv]
  have hB2 : Below w.heap.size w w1 := hB1
  have HT1 : Hid (Hm.Tab w1) := hT.below hB1
  have HD1 : Hid (D < w1.heap.size ∧ RB < w1.heap.size ∧ rm < w1.heap.size) := ⟨r1.tree.lt, Nat.lt_of_lt_of_le (a.lt _ a.FR) r1.chg.size, by rw [hrm]; exact (r1.row jm (by omega)).lt⟩
  have hrow := r1.row lv hjh
  have h32 := r1.r32 lv hjh
  have hln := r1.len lv hjh
  rw [← hrl] at hrow
  rw [← hwl] at hln
  have hFl : F rl := by rw [hrl]; exact a.Fr lv hjh
  have HDl : Hid (D ≠ rl) := fun e => a.rD lv hjh (by rw [← hrl, ← e])
  have HRl : Hid (RB ≠ rl) := fun e => a.rR lv hjh (by rw [← hrl, ← e])
  have Hml : Hid (rm ≠ rl) := fun e => by have := a.inj jm lv (by omega) hjh (by rw [← hrl, ← hrm]; exact e); omega
  have HThere0 : Hid (∀ W, Below w1.heap.size w1 W → W.there rl (i * 32) 32) := fun W hW => (row_set (hrow.below hW hrow.lt) h32 i (by omega) zero rfl).2
  have HSt0 : Hid (∀ W (rs : List Value), Vec 32 (node key f) rs → Below w1.heap.size w1 W → Row (W.setCells rl (i * 32) rs) rl 27 (cells ((rw lv).set i (tv key L lv i))) ∧ Row (W.setCells rl (i * 32) rs) D 145 [.slice A key.length cap, I64 L.length, .slice (some ⟨RB, 0, none⟩) (h + 1) rc, .map (some MB), I64 V] ∧ Chg (fun k _ => F k) w1 (W.setCells rl (i * 32) rs) ∧ (∀ q, q < w1.heap.size → q ≠ rl → (W.setCells rl (i * 32) rs).heap[q]? = w1.heap[q]?)) := fun W rs hv hW => by
    rw [HNode.out] at hv
    have hr1 := row_set (hrow.below hW hrow.lt) h32 i (by omega) (tv key L lv i) hv.2
    rw [← hv.1] at hr1
    have hlen : rs.length = 32 := hv.len
    have hb : ∀ q, q < w1.heap.size → q ≠ rl → (W.setCells rl (i * 32) rs).heap[q]? = w1.heap[q]? := fun q hq hn => (block_off rs (i * 32) hn).trans (hW.block q hq)
    exact ⟨hr1.1, r1.tree.same (hb D r1.tree.lt HDl.out), (Chg.below hW _).setCells (fun _ _ _ => hFl) (by rw [hlen]; exact hr1.2), hb⟩
  rw [← hkn] at d0 HR1 HSt0
  have HA := hkey
  rw [← hkn] at HA
  replace HA := Lib.hid HA
  have Hrm : Hid (∀ W, Below w1.heap.size w1 W → W.rangeAt rm (p * 32) cs) := fun W hW => hrmr W (hB1.trans (hW.mono hB1.size))
  have hlm : (lv : Int) - 1 = (jm : Int) := by omega
  have hp4 : 4 * (i : Int) = (p : Int) := by omega
  have hh4 := a.wide.2.2
  have hwm1 : wm ≤ 400 := by rw [hwm, wid]; split <;> (have := up_small L.length (jm + 1) a.few; omega)
  have hjm0 : (jm : Int) < (h : Int) + 1 := by omega
  have Hwj : Hid (wrap64 (jm : Int) = (jm : Int)) := w64 _ (by omega)
  have Hwp : Hid (wrap64 (p : Int) = (p : Int)) := w64 _ (by omega)
  clear hwm1 hh4
  have Hne : Hid (¬ wm = p) := by show ¬ _; omega
  obtain ⟨q, hq⟩ : ∃ q, wm - p = q := ⟨_, rfl⟩
  have Hlh : Hid (0 ≤ (lv : Int) ∧ (lv : Int) < (h : Int) + 1) := by show _ ∧ _; omega
  have hpw : (p : Int) ≤ (wm : Int) := by omega
  have Hp4 : Hid (4 ≤ q) := by show _ ≤ _; omega
  have Hiw : Hid (0 ≤ (i : Int) ∧ (i : Int) < (wl : Int)) := by show _ ∧ _; omega
  have Hjx : Hid (lv = jm + 1 ∧ lv ≤ h ∧ i < wid L.length h lv) := ⟨hlv, hjh, by rw [← hwl]; exact hiw⟩
  have Hrl := Lib.hid hrl
  have Hbn := Lib.hid hbn
  have Hkn := Lib.hid hkn
  clear hrg hf32 hrmr hf hcs hB1 hB2 r1 hkey hwm hwl hrm hrl hp hrow h32 hln hFl a r hT hx hlo ht hiw hi4 hjh hlv hRn d3 d4 hbn hkn
  go_enter Tryz.func78, Tryz.ntmps78
  go_wp2
  rw [← hw1, ← Hbn.out]
  clear hw1
  go_quiet (fail)
  obtain ⟨wb, hwb⟩ : ∃ wb, wb = w1.drewN nq := ⟨_, rfl⟩
  rw [← hwb]
  have HBb : Hid (Below w1.heap.size w1 wb) := by rw [hwb]; exact below_drewN (Below.refl _ _) nq
  replace d0 := (HBb.out.cell (p := ⟨D, 0, none⟩) HD1.out.1).trans d0
  replace d2 := (HBb.out.cell (p := ⟨D, 2, none⟩) HD1.out.1).trans d2
  replace s1 := (HBb.out.cell (p := ⟨RB, jm, none⟩) HD1.out.2.1).trans s1
  replace s2 := (HBb.out.cell (p := ⟨RB, lv, none⟩) HD1.out.2.1).trans s2
  have HT : Hid (Hm.Tab wb) := HT1.out.below HBb.out
  replace HA := Lib.hid (HA.out.below HBb.out)
  have hDb : D < wb.heap.size := Nat.lt_of_lt_of_le HD1.out.1 HBb.out.size
  have hRb : RB < wb.heap.size := Nat.lt_of_lt_of_le HD1.out.2.1 HBb.out.size
  have HKeep : Hid (∀ W, Below wb.heap.size wb W → (W.cell? ⟨D, 0, none⟩ = some (.slice A kn cap) ∧ W.cell? ⟨D, 2, none⟩ = some (.slice (some ⟨RB, 0, none⟩) (h + 1) rc)) ∧ W.cell? ⟨RB, lv, none⟩ = some (.slice (some ⟨rl, 0, none⟩) wl wl) ∧ W.rangeAt rm (p * 32) cs) := fun W hW =>
    ⟨⟨(hW.cell (p := ⟨D, 0, none⟩) hDb).trans d0, (hW.cell (p := ⟨D, 2, none⟩) hDb).trans d2⟩, (hW.cell (p := ⟨RB, lv, none⟩) hRb).trans s2, Hrm.out W (HBb.out.trans (hW.mono HBb.out.size))⟩
  have HThere : Hid (∀ W, Below wb.heap.size wb W → W.there rl (i * 32) 32) := fun W hW => HThere0.out W (HBb.out.trans (hW.mono HBb.out.size))
  have HSt : Hid (∀ W (rs : List Value), Vec 32 (node key f) rs → Below wb.heap.size wb W → _) := fun W rs hv hW => HSt0.out W rs hv (HBb.out.trans (hW.mono HBb.out.size))
  have hne := Hne.out
  have hwj := Hwj.out
  have hwp := Hwp.out
  clear hwb n0 n1 HThere0 HSt0 Hrm HT1 HBb hDb hRb
  go_wp2
  have hC : Below wb.heap.size wb wb.drew := below_drewN (Below.refl _ _) 1
  refine wp_region_held_drew (S := (fun W => (W.cell? ⟨D, 0, none⟩ = some (.slice A kn cap) ∧ W.cell? ⟨D, 2, none⟩ = some (.slice (some ⟨RB, 0, none⟩) (h + 1) rc)) ∧ W.cell? ⟨RB, lv, none⟩ = some (.slice (some ⟨rl, 0, none⟩) wl wl) ∧ W.rangeAt rm (p * 32) cs)) (by kernel_rfl) (HKeep.out _ hC) (fun hHeld => ?_)
  generalize wb.drew = wbd at *
  refine wpAnyH_take (i := 0) (oi := ⟨some 22, _, _, _, _, _⟩) (v := ?_) rfl (by kernel_rfl) (by kernel_rfl) (by kernel_rfl) (fun _ _ _ h => h) (Or.inl ⟨by rfl, ?_⟩) hHeld ?_
  rotate_left
  · intro w hSw
    go_simp
    with_reducible rfl
  try go_frame
  refine wpAnyH_take (i := 1) (oi := ⟨some 23, _, _, _, _, _⟩) (v := ?_) rfl (by kernel_rfl) (by kernel_rfl) (by kernel_rfl) (fun _ _ _ h => h) (Or.inl ⟨by rfl, ?_⟩) hHeld ?_
  rotate_left
  · intro w hSw
    go_simp
    with_reducible rfl
  try go_frame
  refine wpAnyH_take (i := 2) (oi := ⟨some 24, _, _, _, _, _⟩) (v := ?_) rfl (by kernel_rfl) (by kernel_rfl) (by kernel_rfl) (fun _ _ _ h => h) (Or.inl ⟨by rfl, ?_⟩) hHeld ?_
  rotate_left
  · intro w hSw
    go_simp
    with_reducible rfl
  try go_frame
  refine wpAnyH_take (i := 3) (oi := ⟨some 25, _, _, _, _, _⟩) (v := ?_) rfl (by kernel_rfl) (by kernel_rfl) (by kernel_rfl) (fun _ _ _ h => h) (Or.inl ⟨by rfl, ?_⟩) hHeld ?_
  rotate_left
  · intro w hSw
    have s1 := hSw.1.2
    go_simp
    with_reducible rfl
  try go_frame
  refine wpAnyH_take (i := 4) (oi := ⟨some 26, _, _, _, _, _⟩) (v := ?_) rfl (by kernel_rfl) (by kernel_rfl) (by kernel_rfl) (fun _ _ _ h => h) (Or.inl ⟨by rfl, ?_⟩) hHeld ?_
  rotate_left
  · intro w hSw
    go_simp
    with_reducible rfl
  try go_frame
  refine wpAnyH_take (i := 5) (oi := ⟨some 27, _, _, _, _, _⟩) (v := ?_) rfl (by kernel_rfl) (by kernel_rfl) (by kernel_rfl) (fun _ _ _ h => h) (Or.inl ⟨by rfl, ?_⟩) hHeld ?_
  rotate_left
  · intro w hSw
    have hlh := Hlh.out
    go_simp
    with_reducible rfl
  try go_frame
  refine wpAnyH_take (i := 6) (oi := ⟨some 28, _, _, _, _, _⟩) (v := ?_) rfl (by kernel_rfl) (by kernel_rfl) (by kernel_rfl) (fun _ _ _ h => h) (Or.inl ⟨by rfl, ?_⟩) hHeld ?_
  rotate_left
  · intro w hSw
    have s2 := hSw.2.1
    go_simp
    with_reducible rfl
  try go_frame
  refine wpAnyH_take (i := 7) (oi := ⟨some 29, _, _, _, _, _⟩) (v := ?_) rfl (by kernel_rfl) (by kernel_rfl) (by kernel_rfl) (fun _ _ _ h => h) (Or.inl ⟨by rfl, ?_⟩) hHeld ?_
  rotate_left
  · intro w hSw
    go_simp
    with_reducible rfl
  try go_frame
  refine wpAnyH_take (i := 8) (oi := ⟨some 30, _, _, _, _, _⟩) (v := ?_) rfl (by kernel_rfl) (by kernel_rfl) (by kernel_rfl) (fun _ _ _ h => h) (Or.inl ⟨by rfl, ?_⟩) hHeld ?_
  rotate_left
  · intro w hSw
    go_simp
    with_reducible rfl
  try go_frame
  refine wpAnyH_take (i := 9) (oi := ⟨some 31, _, _, _, _, _⟩) (v := ?_) rfl (by kernel_rfl) (by kernel_rfl) (by kernel_rfl) (fun _ _ _ h => h) (Or.inl ⟨by rfl, ?_⟩) hHeld ?_
  rotate_left
  · intro w hSw
    go_simp
    with_reducible rfl
  try go_frame
  refine wpAnyH_take (i := 10) (oi := ⟨some 32, _, _, _, _, _⟩) (v := ?_) rfl (by kernel_rfl) (by kernel_rfl) (by kernel_rfl) (fun _ _ _ h => h) (Or.inl ⟨by rfl, ?_⟩) hHeld ?_
  rotate_left
  · intro w hSw
    go_simp
    with_reducible rfl
  try go_frame
  refine wpAnyH_take (i := 11) (oi := ⟨some 33, _, _, _, _, _⟩) (v := ?_) rfl (by kernel_rfl) (by kernel_rfl) (by kernel_rfl) (fun _ _ _ h => h) (Or.inl ⟨by rfl, ?_⟩) hHeld ?_
  rotate_left
  · intro w hSw
    have s1 := hSw.1.1
    go_simp
    with_reducible rfl
  try go_frame
  refine wpAnyH_take (i := 12) (oi := ⟨some 34, _, _, _, _, _⟩) (v := ?_) rfl (by kernel_rfl) (by kernel_rfl) (by kernel_rfl) (fun _ _ _ h => h) (Or.inl ⟨by rfl, ?_⟩) hHeld ?_
  rotate_left
  · intro w hSw
    go_simp
    with_reducible rfl
  try go_frame
  refine wpAnyH_take (i := 13) (oi := ⟨some 35, _, _, _, _, _⟩) (v := ?_) rfl (by kernel_rfl) (by kernel_rfl) (by kernel_rfl) (fun _ _ _ h => h) (Or.inl ⟨by rfl, ?_⟩) hHeld ?_
  rotate_left
  · intro w hSw
    have hp4 : (4 : Int) ≤ (q : Int) := by have := Hp4.out; omega
    go_simp
    with_reducible rfl
  try go_frame
  refine wpAnyH_take (i := 14) (oi := ⟨some 36, _, _, _, _, _⟩) (v := ?_) rfl (by kernel_rfl) (by kernel_rfl) (by kernel_rfl) (fun _ _ _ h => h) (Or.inl ⟨by rfl, ?_⟩) hHeld ?_
  rotate_left
  · intro w hSw
    have har : (Instr.arrayAt 198 (.slice (some ⟨rm, p * 32, none⟩) 4 q)).run Tryz.prog w = .ok (.pointer (some ⟨rm, p * 32, none⟩)) w := run_arrayAt w _ 27 4 _ _ _ Tryz.underlying198 (Nat.le_refl _)
    go_simp
    with_reducible rfl
  try go_frame
  refine wpAnyH_take (i := 15) (oi := ⟨some 37, _, _, _, _, _⟩) (v := .agg (cs).toArray) rfl (by kernel_rfl) (by kernel_rfl) (by kernel_rfl) (fun _ _ _ h => h) (yieldsIf_load_mid (by rfl) 198 (.tmp 36) rfl (rm) (p * 32) rfl (cs) _ (fun W h => h.2.2) Tryz.underlying198 rfl (by rw [Hcl.out]; kernel_rfl)) hHeld ?_
  try go_frame
  refine wpAnyH_ready (rs := [16]) (by kernel_rfl) (by simp) ?_
  refine AllReadyH.cons (o := ⟨some 38, _, _, _, _, _⟩) rfl (fun K hK => ?_) AllReadyH.nil
  go_simp
  go_at_call 110
  refine (node_holds key f _ cs wbd Hkey.out Hf4.out Hf32.out Hcs.out (HT.out.below hC) (HA.out.below hC)).mono ?_
  rintro e wbd_nd ⟨⟨rs, Hrs, rfl⟩, hb⟩
  replace hC := hC.trans (hb.mono hC.size)
  refine hK.out _ _ (HKeep.out _ hC) (fun hHeld => ?_)
  clear hK K hb 
  have Hsz : Hid (rs.toArray.size = 32) := Hrs.out.size
  have Hone : Hid (rs.toArray.all (·.oneCell') = true) := Hrs.out.one
  try go_frame
  refine wpAnyH_take (i := 17) (oi := ⟨some 39, _, _, _, _, _⟩) (v := ?_) rfl (by kernel_rfl) (by kernel_rfl) (by kernel_rfl) (fun _ _ _ h => h) (Or.inl ⟨by rfl, ?_⟩) hHeld ?_
  rotate_left
  · intro w hSw
    have hiw := Hiw.out
    go_simp
    with_reducible rfl
  try go_frame
  refine wpAnyH_ready (rs := [18]) (by kernel_rfl) (by simp) ?_
  refine AllReadyH.cons (o := ⟨none, _, _, _, _, _⟩) rfl (fun K hK => ?_) AllReadyH.nil
  rw [if_pos (by rfl)]
  refine Go.wp_store_mid 27 (.tmp 39) (.tmp 38) rfl (rl) (i * 32) rs.toArray rfl rfl (by rw [Hsz.out]; exact HThere.out _ hC) (by rw [Hsz.out]; kernel_rfl) Hone.out ?_
  rw [List.toList_toArray]
  have HAf := Lib.hid (HSt.out _ rs Hrs.out hC)
  have hX := HKeep.out _ hC
  refine hK.out _ _ ⟨⟨(cells_off rs (i * 32) HDl.out).trans hX.1.1, (cells_off rs (i * 32) HDl.out).trans hX.1.2⟩, (cells_off rs (i * 32) HRl.out).trans hX.2.1, fun j v hj => (cells_off rs (i * 32) Hml.out).trans (hX.2.2 j v hj)⟩ (fun hHeld => ?_)
  clear hK K hX
  generalize (wbd_nd.setCells rl (i * 32) rs) = wz at *
  try go_frame
  refine wpAnyH_done (by kernel_rfl) ?_ _
  clear hC HKeep hHeld HSt HThere
  have f4 : wz.cell? ⟨D, 4, none⟩ = some (I64 V) := by rw [HAf.out.2.1.cell]; rfl
  have g4 : wz.frozen? ⟨D, 4, none⟩ = false := HAf.out.2.1.free 4
  have hVi : (V : Int) ≤ 1000000 := by have := HV.out; omega
  clear hlm hp4 hjm0 hpw s1 s2 d0 d2
  go_wp2
  go_end0
  have hcw : Chg (fun k _ => F k) w1 (wz.setCell ⟨D, 4, none⟩ (.int .i64 ((V : Int) + 1))) := HAf.out.2.2.1.setCell rfl (fun _ => HA0.out.FD) (by rw [f4]; rfl) _
  refine ⟨rfl, ?_, (Chg.below HB10.out _).then hcw⟩
  obtain ⟨e1, e2, e3⟩ := Hjx.out
  have ek := Hkn.out
  have er := Hrl.out
  subst e1
  subst ek
  subst er
  refine HR1.out.step HA0.out (jm + 1, i) rest HTodo.out e2 e3 (V + 1) (HAf.out.1.apart (fun e => HDl.out e.symm) _) ?_ (fun k hk h1 h2 => (heap_setCell_other _ _ k _ h1).trans (HAf.out.2.2.2 k hk h2)) hcw
  exact HAf.out.2.1.set 4 _
end
end Go.Proofs.YthbmknpbcgnabaaGreatDoor.Mr
