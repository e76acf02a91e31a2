/-
  THE LAW FilePlays (its regions that draw their order by wip/mkfplays.py).
-/
import Derived.Test.YtiafmghdiidniaaLQ
import Derived.Test.YtiafmghdiidniaaLBP
import Derived.Deep.RegionHeld3
import Derived.Laws.OwnMore
namespace Go.Proofs.Ytiafmghdiidniaa
open Go.RowKit Cdc Inn Fil

set_option maxRecDepth 100000 in
set_option maxHeartbeats 4000000 in
theorem FiPlays_bad {C : Stor} (X : FileC C) (g : Geo) (hgi : geoIn g) (hg : gmay g = false) (B : Option Addr) (n cap : Nat) (hn : n ≤ 30) (w : World) :
    Calls Try.prog 3 #[.agg #[.int .i64 g.n, .int .i64 g.k], .slice B n cap] w fun e w' => e = .returned (.bool true) ∧ Below w.heap.size w w' := by
  obtain ⟨w1, hw1⟩ : ∃ W, W = w.alloc (.cells #[.int .i64 g.n, .int .i64 g.k] 23) := ⟨_, rfl⟩
  have hr1 : Row w1 w.heap.size 23 [.int .i64 g.n, .int .i64 g.k] := by rw [hw1]; exact Row.new w _ _
  have hb1 : Below w.heap.size w w1 := by rw [hw1]; exact (Below.refl _ _).alloc (Nat.le_refl _) _
  have HN := Lib.hid (X.newBad g w1 hgi hg)
  have HRM := Lib.hid fun W => RFiMay_any g W
  have HMay := Lib.hid fun W => X.may g W hgi
  rw [hg] at HRM HMay
  have HK := Lib.hid fun W => Fiknows_any X W
  have HR1 := Lib.hid hr1
  have HB1 := Lib.hid hb1
  obtain ⟨gn, gk⟩ := g
  simp only at *
  clear hr1 hb1 hg hgi
  go_enter Try.func3, Try.ntmps3
  go_wp2_with fail
  rw [← hw1]
  clear hw1
  refine HN.out.mono ?_
  rintro e w2 ⟨rfl, hb⟩
  have HR2 := Lib.hid (HR1.out.below hb HR1.out.lt)
  have HB2 := Lib.hid (HB1.out.trans (hb.mono HB1.out.size))
  have c0 := HR2.out.cell 0
  have c1 := HR2.out.cell 1
  simp only [List.getElem?_cons_zero, List.getElem?_cons_succ] at c0 c1
  clear hb HR1 HB1 HN
  go_wp2_with fail
  refine (HRM.out w2).mono ?_
  rintro e w3 ⟨rfl, hb⟩
  have HR3 := Lib.hid (HR2.out.below hb HR2.out.lt)
  have HB3 := Lib.hid (HB2.out.trans (hb.mono HB2.out.size))
  have HKeep : Hid (∀ W, Below w3.heap.size w3 W → W.cell? ⟨w.heap.size, 0, none⟩ = some (.int .i64 gn) ∧ W.cell? ⟨w.heap.size, 1, none⟩ = some (.int .i64 gk)) := fun W hW => ⟨(HR3.out.below hW HR3.out.lt).cell 0, (HR3.out.below hW HR3.out.lt).cell 1⟩
  clear c0 c1 hb HR2 HB2 HRM
  go_wp2_with fail
  have hC : Below w3.heap.size w3 w3.drew := below_drewN (Below.refl _ _) 1
  refine wp_region_held_drew (S := (fun W => W.cell? ⟨w.heap.size, 0, none⟩ = some (.int .i64 gn) ∧ W.cell? ⟨w.heap.size, 1, none⟩ = some (.int .i64 gk))) (by kernel_rfl) (HKeep.out _ hC) (fun hHeld => ?_)
  generalize w3.drew = w3d at *
  refine wpAnyH_take (i := 0) (oi := ⟨some 35, _, _, _, _, _⟩) (v := ?_) rfl (by kernel_rfl) (by kernel_rfl) (by kernel_rfl) (fun _ _ _ h => h) (Or.inl ⟨by rfl, ?_⟩) hHeld ?_
  rotate_left
  · intro w hSw
    obtain ⟨hc0, hc1⟩ := hSw
    go_simp
    with_reducible rfl
  try go_frame
  refine wpAnyH_take (i := 2) (oi := ⟨some 37, _, _, _, _, _⟩) (v := ?_) rfl (by kernel_rfl) (by kernel_rfl) (by kernel_rfl) (fun _ _ _ h => h) (Or.inl ⟨by rfl, ?_⟩) hHeld ?_
  rotate_left
  · intro w hSw
    go_simp
    with_reducible rfl
  try go_frame
  refine wpAnyH_ready (rs := [1]) (by kernel_rfl) (by simp) ?_
  refine AllReadyH.cons (o := ⟨some 36, _, _, _, _, _⟩) rfl (fun K hK => ?_) AllReadyH.nil
  go_simp
  go_at_call 9
  refine (HMay.out w3d).mono ?_
  rintro e w3d_ma ⟨rfl, hb⟩
  replace hC := hC.trans (hb.mono hC.size)
  refine hK.out _ _ (HKeep.out _ hC) (fun hHeld => ?_)
  clear hK K hb 
  try go_frame
  refine wpAnyH_take (i := 3) (oi := ⟨some 38, _, _, _, _, _⟩) (v := ?_) rfl (by kernel_rfl) (by kernel_rfl) (by kernel_rfl) (fun _ _ _ h => h) (Or.inl ⟨by rfl, ?_⟩) hHeld ?_
  rotate_left
  · intro w hSw
    go_simp
    with_reducible rfl
  try go_frame
  refine wpAnyH_take (i := 4) (oi := ⟨some 39, _, _, _, _, _⟩) (v := ?_) rfl (by kernel_rfl) (by kernel_rfl) (by kernel_rfl) (fun _ _ _ h => h) (Or.inl ⟨by rfl, ?_⟩) hHeld ?_
  rotate_left
  · intro w hSw
    go_simp
    with_reducible rfl
  try go_frame
  refine wpAnyH_take (i := 5) (oi := ⟨some 40, _, _, _, _, _⟩) (v := ?_) rfl (by kernel_rfl) (by kernel_rfl) (by kernel_rfl) (fun _ _ _ h => h) (Or.inl ⟨by rfl, ?_⟩) hHeld ?_
  rotate_left
  · intro w hSw
    go_simp
    with_reducible rfl
  try go_frame
  refine wpAnyH_take (i := 6) (oi := ⟨some 41, _, _, _, _, _⟩) (v := ?_) rfl (by kernel_rfl) (by kernel_rfl) (by kernel_rfl) (fun _ _ _ h => h) (Or.inl ⟨by rfl, ?_⟩) hHeld ?_
  rotate_left
  · intro w hSw
    go_simp
    with_reducible rfl
  try go_frame
  refine wpAnyH_take (i := 7) (oi := ⟨some 42, _, _, _, _, _⟩) (v := undef) rfl (by kernel_rfl) (by kernel_rfl) (by kernel_rfl) (fun _ _ _ h => h) (Or.inr ⟨by rfl, rfl⟩) hHeld ?_
  try go_frame
  refine wpAnyH_take (i := 8) (oi := ⟨some 43, _, _, _, _, _⟩) (v := undef) rfl (by kernel_rfl) (by kernel_rfl) (by kernel_rfl) (fun _ _ _ h => h) (Or.inr ⟨by rfl, rfl⟩) hHeld ?_
  try go_frame
  refine wpAnyH_take (i := 9) (oi := ⟨some 44, _, _, _, _, _⟩) (v := undef) rfl (by kernel_rfl) (by kernel_rfl) (by kernel_rfl) (fun _ _ _ h => h) (Or.inr ⟨by rfl, rfl⟩) hHeld ?_
  try go_frame
  refine wpAnyH_take (i := 10) (oi := ⟨some 45, _, _, _, _, _⟩) (v := undef) rfl (by kernel_rfl) (by kernel_rfl) (by kernel_rfl) (fun _ _ _ h => h) (Or.inr ⟨by rfl, rfl⟩) hHeld ?_
  try go_frame
  refine wpAnyH_take (i := 11) (oi := ⟨some 46, _, _, _, _, _⟩) (v := undef) rfl (by kernel_rfl) (by kernel_rfl) (by kernel_rfl) (fun _ _ _ h => h) (Or.inr ⟨by rfl, rfl⟩) hHeld ?_
  try go_frame
  refine wpAnyH_take (i := 12) (oi := ⟨some 47, _, _, _, _, _⟩) (v := ?_) rfl (by kernel_rfl) (by kernel_rfl) (by kernel_rfl) (fun _ _ _ h => h) (Or.inl ⟨by rfl, ?_⟩) hHeld ?_
  rotate_left
  · intro w hSw
    go_simp
    with_reducible rfl
  try go_frame
  refine wpAnyH_take (i := 13) (oi := ⟨some 48, _, _, _, _, _⟩) (v := ?_) rfl (by kernel_rfl) (by kernel_rfl) (by kernel_rfl) (fun _ _ _ h => h) (Or.inl ⟨by rfl, ?_⟩) hHeld ?_
  rotate_left
  · intro w hSw
    go_simp
    with_reducible rfl
  try go_frame
  refine wpAnyH_done (by kernel_rfl) ?_ _
  clear hHeld HKeep
  have HB4 : Hid (Below w3.heap.size w3 w3d_ma) := hC
  clear hC
  clear HMay
  go_wp2_with fail
  refine (HK.out w3d_ma).mono ?_
  rintro e w9 ⟨rfl, hb⟩
  have HB9 := Lib.hid (HB3.out.trans ((HB4.out.trans (hb.mono HB4.out.size)).mono HB3.out.size))
  clear hb HB3 HB4 HR3 HK
  go_wp2
  go_ret
  exact ⟨rfl, HB9.out⟩

theorem madeStr4 (W : World) : (Instr.makeSlice 33 (.int .i64 4) (.int .i64 4)).run Try.prog W = .ok (.slice (some ⟨W.heap.size, 0, none⟩) 4 4) (W.alloc (.cells (([[], [], [], []] : List (List UInt8)).map SV).toArray 9)) := by kernel_rfl
theorem madeIno4 (W : World) : (Instr.makeSlice 37 (.int .i64 4) (.int .i64 4)).run Try.prog W = .ok (.slice (some ⟨W.heap.size, 0, none⟩) 4 4) (W.alloc (.cells (inosC [zero, zero, zero, zero]).toArray 40)) := by kernel_rfl
/-- The inodes, the first k of them with their kinds. -/
def kinds (k : Nat) : List Ino := (List.range 4).map fun j => empty (if j < k then 1 + (j : Int) % 2 else 0)
theorem kinds_put (k : Nat) (hk : k < 4) : (inosC (kinds k)).set (k * 7) (.int .i64 (1 + (k : Int) % 2)) = inosC (kinds (k + 1)) := by
  rcases (show k = 0 ∨ k = 1 ∨ k = 2 ∨ k = 3 by omega) with rfl | rfl | rfl | rfl <;> kernel_rfl
theorem kinds_four : kinds 4 = [1, 2, 1, 2].map empty := by decide +kernel
theorem kinds_none : kinds 0 = [zero, zero, zero, zero] := by decide +kernel

/-- What lies while the inodes get their kinds. -/
structure PlZ (C : Stor) (w X : World) (L : Lay14) (g : Geo) (k : Nat) : Prop where
  geo : Row X L.gb 23 [.int .i64 g.n, .int .i64 g.k]
  fl : FlAt X L.ob L.lb g [[], [], [], []]
  ino : Row X L.ib 40 (inosC (kinds k))
  sto : Sto C w X (fun k => L.Y k ∨ False) L.m (freshB g)
  own : w.heap.size ≤ L.gb ∧ w.heap.size ≤ L.ob ∧ w.heap.size ≤ L.lb ∧ w.heap.size ≤ L.ib
  dis : L.gb ≠ L.lb ∧ L.ib ≠ L.lb ∧ L.ob ≠ L.lb ∧ L.gb ≠ L.ib ∧ L.ob ≠ L.ib ∧ L.gb ≠ L.ob
theorem PlZ.put {C : Stor} (K : FileC C) {w X : World} {L : Lay14} {g : Geo} {k : Nat} (h : PlZ C w X L g k) (hk : k < 4) : PlZ C w (X.setCell ⟨L.ib, k * 7, none⟩ (.int .i64 (1 + (k : Int) % 2))) L g (k + 1) := by
  have hl : (inosC (kinds k)).length = 28 := by rw [inosC_length]; simp [kinds]
  have hc : Chg (fun b _ => b = L.ib) X (X.setCell ⟨L.ib, k * 7, none⟩ (.int .i64 (1 + (k : Int) % 2))) :=
    (Chg.refl _ X).setCell rfl (fun _ => rfl) (by rw [h.ino.cell, List.getElem?_eq_getElem (by omega)]; rfl) _
  refine ⟨h.geo.chg hc fun _ => h.dis.2.2.2.1, h.fl.chg hc (fun _ => h.dis.2.2.2.2.1) fun _ e => h.dis.2.1 e.symm, ?_, h.sto.wrote K hc fun _ _ _ e => ⟨.inl (.inr (.inr (.inr e))), e ▸ h.own.2.2.2⟩, h.own, h.dis⟩
  rw [← kinds_put k hk]
  exact h.ino.set _ _
theorem PlZ.all {C : Stor} {w X : World} {L : Lay14} {g : Geo} (h : PlZ C w X L g 4) : PlW C w X L (fun _ => False) g ([1, 2, 1, 2].map empty) [[], [], [], []] (freshB g) := by
  have hi := h.ino
  rw [kinds_four] at hi
  refine ⟨h.geo, h.fl, fun i x hx => ?_, rfl, h.sto, h.own, h.dis⟩
  have h4 : i < 4 := (List.getElem?_eq_some_iff.1 hx).1
  have := hi.here.part (i * 7) 7
  rw [Nat.zero_add] at this
  have e : ((inosC ([1, 2, 1, 2].map empty)).drop (i * 7)).take 7 = x.l.map VI := by
    rcases (show i = 0 ∨ i = 1 ∨ i = 2 ∨ i = 3 by omega) with rfl | rfl | rfl | rfl <;> (injection hx with hx; subst hx; rfl)
  rwa [e] at this

set_option maxRecDepth 100000 in
set_option maxHeartbeats 60000000 in
theorem FiPlays_main {C : Stor} (X : FileC C) (g : Geo) (hg : gmay g = true) (B : Option Addr) (n cap : Nat) (hn : n ≤ 30) (ds : List FDeed) (w : World) (hL : FDeeds w (.slice B n cap) ds) :
    Calls Try.prog 3 #[.agg #[.int .i64 g.n, .int .i64 g.k], .slice B n cap] w fun e w' => e = .returned (.bool true) ∧ Below w.heap.size w w' := by
  obtain ⟨w1, hw1⟩ : ∃ W, W = w.alloc (.cells #[.int .i64 g.n, .int .i64 g.k] 23) := ⟨_, rfl⟩
  have hr1 : Row w1 w.heap.size 23 [.int .i64 g.n, .int .i64 g.k] := by rw [hw1]; exact Row.new w _ _
  have hb1 : Below w.heap.size w w1 := by rw [hw1]; exact (Below.refl _ _).alloc (Nat.le_refl _) _
  obtain ⟨g1, g2, g3, g4, -⟩ := gmay_iff.1 hg
  have HN := Lib.hid (Sto.make X w1 hb1 (fun k => k = w.heap.size) (fun k e => e ▸ hr1.lt) g hg)
  have HRM := Lib.hid fun W => RFiMay_any g W
  have HMay := Lib.hid fun W => X.may g W ⟨⟨by omega, by omega⟩, ⟨by omega, by omega⟩⟩
  have HFst := Lib.hid fun W => X.first g W hg
  have HRFst := Lib.hid fun W => RFiFirst_any g (by omega) g4 W
  rw [hg] at HRM HMay
  have HK := Lib.hid fun W => Fiknows_any X W
  have HR1 := Lib.hid hr1
  have HB1 := Lib.hid hb1
  have HL := Lib.hid hL
  have HG := Lib.hid hg
  obtain ⟨gn, gk⟩ := g
  simp only at *
  clear hr1 hb1 hg hL g1 g2 g3 g4
  go_enter Try.func3, Try.ntmps3
  go_wp2_with fail
  rw [← hw1]
  clear hw1
  refine HN.out.mono ?_
  rintro e w2 ⟨m0, rfl, hs, hb⟩
  have HR2 := Lib.hid (HR1.out.below hb HR1.out.lt)
  have HS2 := Lib.hid hs
  have c0 := HR2.out.cell 0
  have c1 := HR2.out.cell 1
  simp only [List.getElem?_cons_zero, List.getElem?_cons_succ] at c0 c1
  clear hb hs HR1 HN HB1
  go_wp2_with fail
  refine (HRM.out w2).mono ?_
  rintro e w3 ⟨rfl, hb⟩
  have HR3 := Lib.hid (HR2.out.below hb HR2.out.lt)
  have HS3 := Lib.hid (HS2.out.stay X hb)
  have HKeep : Hid (∀ W, Below w3.heap.size w3 W → W.cell? ⟨w.heap.size, 0, none⟩ = some (.int .i64 gn) ∧ W.cell? ⟨w.heap.size, 1, none⟩ = some (.int .i64 gk)) := fun W hW => ⟨(HR3.out.below hW HR3.out.lt).cell 0, (HR3.out.below hW HR3.out.lt).cell 1⟩
  clear c0 c1 hb HR2 HS2 HRM
  go_wp2_with fail
  have hC : Below w3.heap.size w3 w3.drew := below_drewN (Below.refl _ _) 1
  refine wp_region_held_drew (S := (fun W => W.cell? ⟨w.heap.size, 0, none⟩ = some (.int .i64 gn) ∧ W.cell? ⟨w.heap.size, 1, none⟩ = some (.int .i64 gk))) (by kernel_rfl) (HKeep.out _ hC) (fun hHeld => ?_)
  generalize w3.drew = w3d at *
  refine wpAnyH_take (i := 0) (oi := ⟨some 35, _, _, _, _, _⟩) (v := ?_) rfl (by kernel_rfl) (by kernel_rfl) (by kernel_rfl) (fun _ _ _ h => h) (Or.inl ⟨by rfl, ?_⟩) hHeld ?_
  rotate_left
  · intro w hSw
    obtain ⟨hc0, hc1⟩ := hSw
    go_simp
    with_reducible rfl
  try go_frame
  refine wpAnyH_take (i := 2) (oi := ⟨some 37, _, _, _, _, _⟩) (v := ?_) rfl (by kernel_rfl) (by kernel_rfl) (by kernel_rfl) (fun _ _ _ h => h) (Or.inl ⟨by rfl, ?_⟩) hHeld ?_
  rotate_left
  · intro w hSw
    go_simp
    with_reducible rfl
  try go_frame
  refine wpAnyH_ready (rs := [1]) (by kernel_rfl) (by simp) ?_
  refine AllReadyH.cons (o := ⟨some 36, _, _, _, _, _⟩) rfl (fun K hK => ?_) AllReadyH.nil
  go_simp
  go_at_call 9
  refine (HMay.out w3d).mono ?_
  rintro e w3d_ma ⟨rfl, hb⟩
  replace hC := hC.trans (hb.mono hC.size)
  refine hK.out _ _ (HKeep.out _ hC) (fun hHeld => ?_)
  clear hK K hb 
  try go_frame
  refine wpAnyH_take (i := 3) (oi := ⟨some 38, _, _, _, _, _⟩) (v := ?_) rfl (by kernel_rfl) (by kernel_rfl) (by kernel_rfl) (fun _ _ _ h => h) (Or.inl ⟨by rfl, ?_⟩) hHeld ?_
  rotate_left
  · intro w hSw
    go_simp
    with_reducible rfl
  try go_frame
  refine wpAnyH_take (i := 4) (oi := ⟨some 39, _, _, _, _, _⟩) (v := ?_) rfl (by kernel_rfl) (by kernel_rfl) (by kernel_rfl) (fun _ _ _ h => h) (Or.inl ⟨by rfl, ?_⟩) hHeld ?_
  rotate_left
  · intro w hSw
    go_simp
    with_reducible rfl
  try go_frame
  refine wpAnyH_take (i := 5) (oi := ⟨some 40, _, _, _, _, _⟩) (v := ?_) rfl (by kernel_rfl) (by kernel_rfl) (by kernel_rfl) (fun _ _ _ h => h) (Or.inl ⟨by rfl, ?_⟩) hHeld ?_
  rotate_left
  · intro w hSw
    go_simp
    with_reducible rfl
  try go_frame
  refine wpAnyH_take (i := 6) (oi := ⟨some 41, _, _, _, _, _⟩) (v := ?_) rfl (by kernel_rfl) (by kernel_rfl) (by kernel_rfl) (fun _ _ _ h => h) (Or.inl ⟨by rfl, ?_⟩) hHeld ?_
  rotate_left
  · intro w hSw
    go_simp
    with_reducible rfl
  try go_frame
  refine wpAnyH_take (i := 7) (oi := ⟨some 42, _, _, _, _, _⟩) (v := ?_) rfl (by kernel_rfl) (by kernel_rfl) (by kernel_rfl) (fun _ _ _ h => h) (Or.inl ⟨by rfl, ?_⟩) hHeld ?_
  rotate_left
  · intro w hSw
    obtain ⟨hc0, hc1⟩ := hSw
    go_simp
    with_reducible rfl
  try go_frame
  refine wpAnyH_take (i := 9) (oi := ⟨some 44, _, _, _, _, _⟩) (v := ?_) rfl (by kernel_rfl) (by kernel_rfl) (by kernel_rfl) (fun _ _ _ h => h) (Or.inl ⟨by rfl, ?_⟩) hHeld ?_
  rotate_left
  · intro w hSw
    obtain ⟨hc0, hc1⟩ := hSw
    go_simp
    with_reducible rfl
  try go_frame
  refine wpAnyH_ready (rs := [8]) (by kernel_rfl) (by simp) ?_
  refine AllReadyH.cons (o := ⟨some 43, _, _, _, _, _⟩) rfl (fun K hK => ?_) AllReadyH.nil
  go_simp
  go_at_call 10
  refine (HFst.out w3d_ma).mono ?_
  rintro e w3d_ma_fi ⟨rfl, hb⟩
  replace hC := hC.trans (hb.mono hC.size)
  refine hK.out _ _ (HKeep.out _ hC) (fun hHeld => ?_)
  clear hK K hb 
  try go_frame
  refine wpAnyH_ready (rs := [10]) (by kernel_rfl) (by simp) ?_
  refine AllReadyH.cons (o := ⟨some 45, _, _, _, _, _⟩) rfl (fun K hK => ?_) AllReadyH.nil
  go_simp
  go_at_call 11
  refine (HRFst.out w3d_ma_fi).mono ?_
  rintro e w3d_ma_fi_rf ⟨rfl, hb⟩
  replace hC := hC.trans (hb.mono hC.size)
  refine hK.out _ _ (HKeep.out _ hC) (fun hHeld => ?_)
  clear hK K hb 
  try go_frame
  refine wpAnyH_take (i := 11) (oi := ⟨some 46, _, _, _, _, _⟩) (v := ?_) rfl (by kernel_rfl) (by kernel_rfl) (by kernel_rfl) (fun _ _ _ h => h) (Or.inl ⟨by rfl, ?_⟩) hHeld ?_
  rotate_left
  · intro w hSw
    go_simp
    with_reducible rfl
  try go_frame
  refine wpAnyH_take (i := 12) (oi := ⟨some 47, _, _, _, _, _⟩) (v := ?_) rfl (by kernel_rfl) (by kernel_rfl) (by kernel_rfl) (fun _ _ _ h => h) (Or.inl ⟨by rfl, ?_⟩) hHeld ?_
  rotate_left
  · intro w hSw
    go_simp
    with_reducible rfl
  try go_frame
  refine wpAnyH_take (i := 13) (oi := ⟨some 48, _, _, _, _, _⟩) (v := ?_) rfl (by kernel_rfl) (by kernel_rfl) (by kernel_rfl) (fun _ _ _ h => h) (Or.inl ⟨by rfl, ?_⟩) hHeld ?_
  rotate_left
  · intro w hSw
    go_simp
    with_reducible rfl
  try go_frame
  refine wpAnyH_done (by kernel_rfl) ?_ _
  clear hHeld HKeep
  have HB4 : Hid (Below w3.heap.size w3 w3d_ma_fi_rf) := hC
  clear hC
  have HR4 := Lib.hid (HR3.out.below HB4.out HR3.out.lt)
  have HS4 := Lib.hid (HS3.out.stay X HB4.out)
  clear HB4 HR3 HS3
  generalize w3d_ma_fi_rf = w4 at *
  clear HMay HFst HRFst
  have hms := madeStr4
  have c0 := HR4.out.cell 0
  have c1 := HR4.out.cell 1
  have lt4 := HR4.out.lt
  simp only [List.getElem?_cons_zero, List.getElem?_cons_succ] at c0 c1
  obtain ⟨w5, hw5⟩ : ∃ W, W = ((w4.alloc (.cells #[SV [], SV [], SV [], SV []] 9)).alloc (.cells #[.int .i64 gn, .int .i64 gk, .slice (some ⟨w4.heap.size, 0, none⟩) 4 4, .slice none 0 0] 36)).drew := ⟨_, rfl⟩
  have hb5 : Below w4.heap.size w4 w5 := by rw [hw5]; exact below_drewN (((Below.refl _ _).alloc (Nat.le_refl _) _).alloc (by simp) _) 1
  have hs5 : w5.heap.size = w4.heap.size + 1 + 1 := by rw [hw5]; show (World.alloc _ _).heap.size = _; rw [World.size_alloc, World.size_alloc]
  have hro : Row w5 (w4.heap.size + 1) 36 [.int .i64 gn, .int .i64 gk, .slice (some ⟨w4.heap.size, 0, none⟩) 4 4, .slice none 0 0] := by rw [hw5]; exact (Row.newAt _ _ (by simp)).drew
  have hrl : Row w5 w4.heap.size 9 (([[], [], [], []] : List (List UInt8)).map SV) := by rw [hw5]; exact ((Row.new w4 _ _).alloc _).drew
  have hFl5 : FlAt w5 (w4.heap.size + 1) w4.heap.size ⟨gn, gk⟩ [[], [], [], []] := ⟨hro, hrl, rfl, by simp, by omega⟩
  obtain ⟨w6, hw6⟩ : ∃ W, W = w5.alloc (.cells (inosC [zero, zero, zero, zero]).toArray 40) := ⟨_, rfl⟩
  have hb6 : Below w5.heap.size w5 w6 := by rw [hw6]; exact (Below.refl _ _).alloc (Nat.le_refl _) _
  have hs6 : w6.heap.size = w5.heap.size + 1 := by rw [hw6, World.size_alloc]
  have hri : Row w6 w5.heap.size 40 (inosC (kinds 0)) := by rw [hw6, kinds_none]; exact Row.new w5 _ _
  have hww : w.heap.size ≤ w.heap.size := Nat.le_refl _
  have hw4 : w.heap.size ≤ w4.heap.size := HS4.out.below.size
  obtain ⟨L, hLd⟩ : ∃ L : Lay14, L = ⟨w.heap.size, w4.heap.size + 1, w4.heap.size, w5.heap.size, m0⟩ := ⟨_, rfl⟩
  have HZ0 : Hid (PlZ C w w6 L ⟨gn, gk⟩ 0) := by
    rw [hLd]
    refine ⟨(HR4.out.below hb5 HR4.out.lt).below hb6 (Nat.lt_of_lt_of_le HR4.out.lt hb5.size), hFl5.below hb6, hri, HS4.out.also X (hb5.trans (hb6.mono hb5.size)) _ (fun k hk => ?_), ⟨hww, by dsimp only; omega, hw4, by dsimp only; omega⟩, ?_⟩
    · rcases hk with hk | hk
      · rcases hk with hk | hk | hk | hk <;> dsimp only at hk
        · exact .inl hk
        all_goals exact .inr ⟨by omega, by omega⟩
      · exact hk.elim
    · dsimp only; omega
  have Hw5 := Lib.hid hw5
  have Hw6 := Lib.hid hw6
  have Hs5 := Lib.hid hs5
  have HLd := Lib.hid hLd
  have hmi := madeIno4
  clear hb5 hb6 hs6 hro hrl hFl5 hri hww hw4 hw5 hw6 hs5 hLd
  go_wp2_with fail
  go_region
  rw [← Hw5.out]
  clear c0 c1 lt4 hms HR4 HS4 Hw5
  go_wp2_with fail
  rw [← Hw6.out]
  clear Hw6 hmi Hs5
  obtain ⟨gb, ob, lb, ib, m⟩ := L
  have he := HLd.out
  injection he with e1 e2 e3 e4 e5
  subst e5
  rw [← e2, ← e4, ← e1]
  clear e1 e2 e3 e4 HLd
  have H0 : Hid (Inn.In64 0) := ⟨by decide, by decide⟩
  have H3 : Hid (Inn.In64 3000) := ⟨by decide, by decide⟩
  go_loopw [10] (fun i wr => ∃ k : Nat, k ≤ 4 ∧ i = .int .i64 k ∧ Hid (PlZ C w wr (Lay14.mk gb ob lb ib m) (Geo.mk gn gk) k)) (fun i _ => 4 - (intOf i).toNat)
  case atStart => exact ⟨0, by omega, rfl, HZ0⟩
  case round =>
    clear HZ0
    obtain ⟨k, hk, rfl, HZ⟩ := hrel
    by_cases hlt : k < 4
    · have HZ2 := Lib.hid (HZ.out.put X hlt)
      dsimp only at HZ2
      have hz := HZ.out.ino
      dsimp only at hz
      obtain ⟨u, hu⟩ : ∃ u, wr.cell? ⟨ib, k * 7, none⟩ = some u := ⟨_, by rw [hz.cell, List.getElem?_eq_getElem (by rw [inosC_length]; simp [kinds]; omega)]⟩
      have hfz := hz.free (k * 7)
      clear HZ hz
      go_wp2
      go_roundw
      case rel => exact ⟨k + 1, by omega, by go_num, HZ2⟩
      case measure => simp [intOf]; omega
    · have ek : k = 4 := by omega
      rw [ek] at HZ
      rw [show (k : Int) = 4 by omega]
      clear ek hlt hk k
      have HP0 := Lib.hid HZ.out.all
      have HF0 := Lib.hid (fresh_files HG.out [1, 2, 1, 2] (by simp))
      clear HZ
      go_wp2
      go_loopw [11] (fun i wr => ∃ (k : Nat) (l : List Ino) (fs bl : List (List UInt8)), k ≤ n ∧ i = .int .i64 k ∧ Hid (PlW C w wr (Lay14.mk gb ob lb ib m) (fun _ => False) (Geo.mk gn gk) l fs bl) ∧ Hid (Files (Geo.mk gn gk) l bl fs)) (fun i _ => n - (intOf i).toNat)
      case atStart => exact ⟨0, _, _, _, by omega, rfl, HP0, HF0⟩
      case round =>
        rename World => wr
        clear HP0 HF0
        obtain ⟨k, l, fs, bl, hk, rfl, HP, HFl⟩ := hrel
        by_cases hlt : k < n
        · obtain ⟨b0, o0, d, rfl, hb0, hok, hsee⟩ := HL.out.at_ hlt
          obtain ⟨dw, df, do', dn, dv, bs⟩ := d
          obtain ⟨Ab, cb, hvb⟩ := hok.arg.form
          obtain ⟨bn, hbn⟩ : ∃ bn, bn = bs.length := ⟨_, rfl⟩
          dsimp only at hvb
          rw [← hbn] at hvb
          subst hvb
          have Hbn := Lib.hid hbn
          have HArg : Hid (Arg w (.slice Ab bn cb) bs) := hok.arg
          have Hw1 : Hid (Inn.In64 dw) := hok.i1
          have Hf1 : Hid (Inn.In64 df) := hok.i2
          have Ho : Hid (Inn.In64 do') := hok.i3
          have Hn : Hid (Inn.In64 dn) := hok.i4
          have HRg : Hid (wr.rangeAt b0 (o0 + k * 5) [.int .i64 dw, .int .i64 df, .int .i64 do', .int .i64 dn, .slice Ab bn cb]) := fun j u hu => (hsee.below HP.out.sto.below hb0) j u hu
          obtain ⟨db, hdb⟩ : ∃ db, db = wr.heap.size := ⟨_, rfl⟩
          obtain ⟨w5, hw5⟩ : ∃ w5, w5 = wr.alloc (.cells #[.int .i64 dw, .int .i64 df, .int .i64 do', .int .i64 dn, .slice Ab bn cb] 43) := ⟨_, rfl⟩
          have hb5 : Below wr.heap.size wr w5 := by rw [hw5]; exact (Below.refl _ _).alloc (Nat.le_refl _) _
          have HD5 : Hid (Row w5 db 43 [.int .i64 dw, .int .i64 df, .int .i64 do', .int .i64 dn, .slice Ab bn cb]) := by rw [hw5, hdb]; exact Row.new wr _ _
          have HP5 : Hid (PlW C w w5 (Lay14.mk gb ob lb ib m) (fun k => k = db) (Geo.mk gn gk) l fs bl) := HP.out.also X hb5 _ (fun j hj => .inr ⟨by omega, by rw [hj]; exact HD5.out.lt⟩)
          have HDw : Hid (w.heap.size ≤ db) := by show _ ≤ _; rw [hdb]; exact HP.out.sto.below.size
          obtain ⟨_, _, _, hYl, _⟩ := HP.out.sto
          have HDi : Hid (db ≠ ib) := fun e => by have := hYl ib (.inl (.inr (.inr (.inr rfl)))); omega
          have HDl : Hid (db ≠ lb) := fun e => by have := hYl lb (.inl (.inr (.inr (.inl rfl)))); omega
          have HLib : Hid (∀ j, Lay14.Y (Lay14.mk gb ob lb ib m) j → j < wr.heap.size) := fun j hj => hYl j (.inl hj)
          have Hd5 := Lib.hid hw5
          have Hdb := Lib.hid hdb
          clear hsee hok hb0 hb5 hw5 hdb hbn hYl HP
          by_cases hbig : 400 < bn
          · go_wp2_with (refine wpList_load_mid rfl 43 (.tmp 90) rfl b0 (o0 + k * 5) rfl [.int .i64 dw, .int .i64 df, .int .i64 do', .int .i64 dn, .slice Ab bn cb] _ HRg.out Try.underlying43 rfl infoFd ?_)
            rw [← Hd5.out]
            refine (HK.out w5).mono ?_
            rintro e w9 ⟨rfl, hb⟩
            have HB9 := Lib.hid (HP5.out.sto.below.trans (hb.mono HP5.out.sto.below.size))
            clear hb HP5 HK HD5 HRg Hd5
            go_wp2
            go_ret
            exact ⟨rfl, HB9.out⟩
          obtain ⟨f, hf⟩ : ∃ f, f = pk df 4 := ⟨_, rfl⟩
          have hf4 : f < 4 := by rw [hf]; exact pk_lt df 4 (by omega)
          have hfI : (f : Int) < 4 := by omega
          have HPf : Hid (∀ W, Calls Try.prog 12 #[.int .i64 df, .int .i64 4] W fun e w' => e = .returned (.int .i64 (f : Nat)) ∧ w' = W) := fun W => by rw [hf]; exact FiPick_any df Hf1.out 4 (by omega) (by omega) W
          obtain ⟨p, hp⟩ : ∃ p, p = pk dw 4 := ⟨_, rfl⟩
          have hp4 : p < 4 := by rw [hp]; exact pk_lt dw 4 (by omega)
          have HPp : Hid (∀ W, Calls Try.prog 12 #[.int .i64 dw, .int .i64 4] W fun e w' => e = .returned (.int .i64 (p : Nat)) ∧ w' = W) := fun W => by rw [hp]; exact FiPick_any dw Hw1.out 4 (by omega) (by omega) W
          clear hf hp Hf1 Hw1
          go_wp2_with (refine wpList_load_mid rfl 43 (.tmp 90) rfl b0 (o0 + k * 5) rfl [.int .i64 dw, .int .i64 df, .int .i64 do', .int .i64 dn, .slice Ab bn cb] _ HRg.out Try.underlying43 rfl infoFd ?_)
          rw [← Hd5.out, ← Hdb.out]
          refine (HPf.out w5).mono ?_
          rintro e w5' ⟨rfl, hww⟩
          rw [hww]
          clear hww w5' Hd5 HPf
          obtain ⟨x, hx⟩ : ∃ x, l[f]? = some x := ⟨_, List.getElem?_eq_getElem (by rw [HP5.out.four]; exact hf4)⟩
          have Hx := Lib.hid hx
          clear hx
          obtain ⟨xk, xb, x0, x1, x2, x3, xd⟩ := x
          have HRi : Hid (w5.rangeAt ib (f * 7) [.int .i64 xk, .int .i64 xb, .int .i64 x0, .int .i64 x1, .int .i64 x2, .int .i64 x3, .int .i64 xd]) := (HP5.out.ino f _ Hx.out).1
          obtain ⟨yb, hyb⟩ : ∃ yb, yb = w5.heap.size := ⟨_, rfl⟩
          obtain ⟨w6, hw6⟩ : ∃ W, W = w5.alloc (.cells #[.int .i64 xk, .int .i64 xb, .int .i64 x0, .int .i64 x1, .int .i64 x2, .int .i64 x3, .int .i64 xd] 40) := ⟨_, rfl⟩
          have hb6 : Below w5.heap.size w5 w6 := by rw [hw6]; exact (Below.refl _ _).alloc (Nat.le_refl _) _
          have HY6 : Hid (Row w6 yb 40 [.int .i64 xk, .int .i64 xb, .int .i64 x0, .int .i64 x1, .int .i64 x2, .int .i64 x3, .int .i64 xd]) := by rw [hw6, hyb]; exact Row.new w5 _ _
          have HD6 := Lib.hid (HD5.out.below hb6 HD5.out.lt)
          have HP6 : Hid (PlW C w w6 (Lay14.mk gb ob lb ib m) (fun k => k = db ∨ k = yb) (Geo.mk gn gk) l fs bl) := HP5.out.also X hb6 _ (fun j hj => hj.imp id fun e => ⟨by omega, by rw [e]; exact HY6.out.lt⟩)
          have hd5 : db < w5.heap.size := HD5.out.lt
          have HYw : Hid (w.heap.size ≤ yb) := by have := HDw.out; show _ ≤ _; omega
          have HDY : Hid (db ≠ yb) := by show _ ≠ _; omega
          have HYn : Hid (¬ Lay14.Y (Lay14.mk gb ob lb ib m) yb) := fun h => by have := HLib.out yb h; have := Hdb.out; omega
          have HYl : Hid (yb ≠ lb) := fun e => HYn.out (.inr (.inr (.inl e)))
          have Hyb := Lib.hid hyb
          have Hw6 := Lib.hid hw6
          have d0 := HD5.out.cell 0
          simp only [List.getElem?_cons_zero] at d0
          clear hb6 hw6 hyb HLib Hdb HP5 HD5
          go_wp2_with (refine wpList_load_mid rfl 40 (.tmp 102) rfl ib (f * 7) rfl [.int .i64 xk, .int .i64 xb, .int .i64 x0, .int .i64 x1, .int .i64 x2, .int .i64 x3, .int .i64 xd] _ HRi.out Try.underlying40 rfl infoIno ?_)
          rw [← Hw6.out, ← Hyb.out]
          refine (HPp.out w6).mono ?_
          rintro e w6' ⟨rfl, hww⟩
          rw [hww]
          clear hww w6' HPp HRi Hw6 Hyb d0 hd5
          rcases (show p = 0 ∨ p = 1 ∨ p = 2 ∨ p = 3 by omega) with rfl | rfl | rfl | rfl
          · as_aux_lemma =>
              have HPd : Hid (PlW C w w6.drew (Lay14.mk gb ob lb ib m) (fun k => k = db ∨ k = yb) (Geo.mk gn gk) l fs bl) := HP6.out.below X (below_drewN (Below.refl _ w6) 1)
              have HDd : Hid (Row w6.drew db 43 [.int .i64 dw, .int .i64 df, .int .i64 do', .int .i64 dn, .slice Ab bn cb]) := HD6.out
              have HYd : Hid (Row w6.drew yb 40 [.int .i64 xk, .int .i64 xb, .int .i64 x0, .int .i64 x1, .int .i64 x2, .int .i64 x3, .int .i64 xd]) := HY6.out
              clear HP6 HD6 HY6
              have HCall := Lib.hid (HPd.out.resize X HG.out HFl.out Hx.out dn Hn.out)
              obtain ⟨e0, he0⟩ : ∃ e, e = resizeE (Geo.mk gn gk) fs f dn := ⟨_, rfl⟩
              rw [← he0] at HCall
              have He0 := Lib.hid he0
              clear he0
              go_wp2_with fail
              refine wp_region_held_drew (S := (fun W => PlS W (Lay14.mk gb ob lb ib m) db (Geo.mk gn gk) f (Ino.mk xk xb x0 x1 x2 x3 xd) fs dw df do' dn (.slice Ab bn cb))) (by kernel_rfl) (HPd.out.s Hx.out HDd.out) (fun hHeld => ?_)
              generalize w6.drew = wd at *
              refine wpAnyH_take (i := 0) (oi := ⟨some 151, _, _, _, _, _⟩) (v := ?_) rfl (by kernel_rfl) (by kernel_rfl) (by kernel_rfl) (fun _ _ _ h => h) (Or.inl ⟨by rfl, ?_⟩) hHeld ?_
              rotate_left
              · intro w hSw
                go_simp
                with_reducible rfl
              try go_frame
              refine wpAnyH_take (i := 1) (oi := ⟨some 152, _, _, _, _, _⟩) (v := ?_) rfl (by kernel_rfl) (by kernel_rfl) (by kernel_rfl) (fun _ _ _ h => h) (Or.inl ⟨by rfl, ?_⟩) hHeld ?_
              rotate_left
              · intro w hSw
                go_simp
                with_reducible rfl
              try go_frame
              refine wpAnyH_take (i := 2) (oi := ⟨some 153, _, _, _, _, _⟩) (v := ?_) rfl (by kernel_rfl) (by kernel_rfl) (by kernel_rfl) (fun _ _ _ h => h) (Or.inl ⟨by rfl, ?_⟩) hHeld ?_
              rotate_left
              · intro w hSw
                obtain ⟨hc0, hc1, hd0, hd1, hd2, hd3, hd4⟩ := hSw.cells
                simp only at hc0 hc1 hd0 hd1 hd2 hd3 hd4
                go_simp
                with_reducible rfl
              try go_frame
              refine wpAnyH_take (i := 3) (oi := ⟨some 154, _, _, _, _, _⟩) (v := ?_) rfl (by kernel_rfl) (by kernel_rfl) (by kernel_rfl) (fun _ _ _ h => h) (Or.inl ⟨by rfl, ?_⟩) hHeld ?_
              rotate_left
              · intro w hSw
                go_simp
                with_reducible rfl
              try go_frame
              refine wpAnyH_take (i := 4) (oi := ⟨some 155, _, _, _, _, _⟩) (v := ?_) rfl (by kernel_rfl) (by kernel_rfl) (by kernel_rfl) (fun _ _ _ h => h) (Or.inl ⟨by rfl, ?_⟩) hHeld ?_
              rotate_left
              · intro w hSw
                go_simp
                with_reducible rfl
              try go_frame
              refine wpAnyH_take (i := 5) (oi := ⟨some 156, _, _, _, _, _⟩) (v := ?_) rfl (by kernel_rfl) (by kernel_rfl) (by kernel_rfl) (fun _ _ _ h => h) (Or.inl ⟨by rfl, ?_⟩) hHeld ?_
              rotate_left
              · intro w hSw
                go_simp
                with_reducible rfl
              try go_frame
              refine wpAnyH_take (i := 6) (oi := ⟨some 157, _, _, _, _, _⟩) (v := .agg ([.int .i64 xk, .int .i64 xb, .int .i64 x0, .int .i64 x1, .int .i64 x2, .int .i64 x3, .int .i64 xd]).toArray) rfl (by kernel_rfl) (by kernel_rfl) (by kernel_rfl) (fun _ _ _ h => h) (yieldsIf_load_mid (by rfl) 40 (.tmp 156) rfl ib (f * 7) rfl ([.int .i64 xk, .int .i64 xb, .int .i64 x0, .int .i64 x1, .int .i64 x2, .int .i64 x3, .int .i64 xd]) _ (fun W h => h.ino) Try.underlying40 rfl infoIno) hHeld ?_
              try go_frame
              refine wpAnyH_take (i := 7) (oi := ⟨some 158, _, _, _, _, _⟩) (v := ?_) rfl (by kernel_rfl) (by kernel_rfl) (by kernel_rfl) (fun _ _ _ h => h) (Or.inl ⟨by rfl, ?_⟩) hHeld ?_
              rotate_left
              · intro w hSw
                go_simp
                with_reducible rfl
              try go_frame
              refine wpAnyH_take (i := 8) (oi := ⟨some 159, _, _, _, _, _⟩) (v := ?_) rfl (by kernel_rfl) (by kernel_rfl) (by kernel_rfl) (fun _ _ _ h => h) (Or.inl ⟨by rfl, ?_⟩) hHeld ?_
              rotate_left
              · intro w hSw
                obtain ⟨hc0, hc1, hd0, hd1, hd2, hd3, hd4⟩ := hSw.cells
                simp only at hc0 hc1 hd0 hd1 hd2 hd3 hd4
                go_simp
                with_reducible rfl
              try go_frame
              refine wpAnyH_ready (rs := [9]) (by kernel_rfl) (by simp) ?_
              refine AllReadyH.cons (o := ⟨some 160, _, _, _, _, _⟩) rfl (fun K hK => ?_) AllReadyH.nil
              go_simp
              go_at_call 13
              refine HCall.out.mono ?_
              rintro e w7 ⟨r, bl7, rfl, hz, hF7, hP, hcg⟩
              have HD7 := Lib.hid (PlW.rowZ hcg HDd.out (.inl rfl))
              have HY7 := Lib.hid (PlW.rowZ hcg HYd.out (.inr rfl))
              have HP7 := Lib.hid hP
              have Hz := Lib.hid hz
              have HF7 := Lib.hid hF7
              clear hcg hP hz hF7 HPd HDd HYd HCall
              refine hK.out _ _ (HP7.out.s Hx.out HD7.out) (fun hHeld => ?_)
              clear hK K
              try go_frame
              refine wpAnyH_take (i := 10) (oi := ⟨some 150, _, _, _, _, _⟩) (v := ?_) rfl (by kernel_rfl) (by kernel_rfl) (by kernel_rfl) (fun _ _ _ h => h) (Or.inl ⟨by rfl, ?_⟩) hHeld ?_
              rotate_left
              · intro w hSw
                go_simp
                with_reducible rfl
              try go_frame
              refine wpAnyH_take (i := 11) (oi := ⟨some 161, _, _, _, _, _⟩) (v := ?_) rfl (by kernel_rfl) (by kernel_rfl) (by kernel_rfl) (fun _ _ _ h => h) (Or.inl ⟨by rfl, ?_⟩) hHeld ?_
              rotate_left
              · intro w hSw
                go_simp
                with_reducible rfl
              try go_frame
              refine wpAnyH_take (i := 12) (oi := ⟨some 162, _, _, _, _, _⟩) (v := ?_) rfl (by kernel_rfl) (by kernel_rfl) (by kernel_rfl) (fun _ _ _ h => h) (Or.inl ⟨by rfl, ?_⟩) hHeld ?_
              rotate_left
              · intro w hSw
                go_simp
                with_reducible rfl
              try go_frame
              refine wpAnyH_ready (rs := [13]) (by kernel_rfl) (by simp) ?_
              refine AllReadyH.cons (o := ⟨none, _, _, _, _, _⟩) rfl (fun K hK => ?_) AllReadyH.nil
              rw [if_pos (by rfl)]
              refine Go.wp_store_row 40 (.tmp 15) (.tmp 161) rfl yb (r.l.map VI).toArray rfl rfl 40 _ HY7.out (infoInoS r) (by simp [l_len]) (oneIn r.l) ?_
              have HY8 := Lib.hid (HY7.out.whole (r.l.map VI))
              have hc8 : Chg (fun k _ => k = yb) w7 (w7.setRow yb (r.l.map VI).toArray) := chg_row (by_setRow (by_refl w7 (some yb)) (.inl rfl) _) HY7.out HY8.out (by simp [l_len])
              have HP8 := Lib.hid (HP7.out.wroteZ X (.inr rfl) HYw.out HYn.out hc8)
              have HD8 := Lib.hid (HD7.out.chg hc8 fun _ e => HDY.out e)
              clear HP7 HD7 HY7
              generalize w7.setRow yb (r.l.map VI).toArray = w8 at *
              clear hc8
              refine hK.out _ _ (HP8.out.s Hx.out HD8.out) (fun hHeld => ?_)
              clear hK K
              try go_frame
              refine wpAnyH_take (i := 14) (oi := ⟨some 16, _, _, _, _, _⟩) (v := ?_) rfl (by kernel_rfl) (by kernel_rfl) (by kernel_rfl) (fun _ _ _ h => h) (Or.inl ⟨by rfl, ?_⟩) hHeld ?_
              rotate_left
              · intro w hSw
                go_simp
                with_reducible rfl
              try go_frame
              refine wpAnyH_done (by kernel_rfl) ?_ _
              clear hHeld
              have HRr := Lib.hid (HP8.out.rresize X HG.out hf4 dn Hn.out)
              rw [← He0.out] at HRr
              obtain ⟨hc0, hc1, hd0, hd1, hd2, hd3, hd4⟩ := (HP8.out.s Hx.out HD8.out).cells
              simp only at hc0 hc1 hd0 hd1 hd2 hd3 hd4
              go_wp2_with fail
              refine HRr.out.mono ?_
              rintro e w9 ⟨rfl, hP, hcg⟩
              clear hc0 hc1 hd0 hd1 hd2 hd3 hd4
              have HD := Lib.hid (HD8.out.chg hcg fun _ e => HDl.out e)
              have HY := Lib.hid (HY8.out.chg hcg fun _ e => HYl.out e)
              have HP := Lib.hid hP
              clear hP hcg HP8 HD8 HY8 HRr
              by_cases hz0 : e0 = 0
              · obtain rfl := hz0
                rw [if_pos rfl] at HP
                have HFl2 := Lib.hid (HF7.out rfl)
                have Hx2 : Hid ((l.set f r)[f]? = some r) := List.getElem?_set_self (List.getElem?_eq_some_iff.1 Hx.out).1
                obtain ⟨fs2, hfs2⟩ : ∃ fs2, fs2 = resizeF fs f dn := ⟨_, rfl⟩
                rw [← hfs2] at HP HFl2
                clear hfs2 He0 Hz HF7
                have HTh : Hid (w9.there ib (f * 7) (r.l.map VI).toArray.size) := by
                  have h := (HP.out.ino f _ Hx.out).2
                  rw [List.length_map, l_len] at h
                  show World.there _ _ _ _
                  rw [List.size_toArray, List.length_map, l_len]
                  exact h
                have hput := HP.out.put X hf4 r
                obtain ⟨wp, hwp⟩ : ∃ W, W = w9.setCells ib (f * 7) (r.l.map VI) := ⟨_, rfl⟩
                have HQ : Hid (PlW C w wp (Lay14.mk gb ob lb ib m) (fun k => k = db ∨ k = yb) (Geo.mk gn gk) (l.set f r) fs2 bl7) := by have := hput.1; dsimp only at this; rwa [← hwp] at this
                have HDQ : Hid (Row wp db 43 [.int .i64 dw, .int .i64 df, .int .i64 do', .int .i64 dn, .slice Ab bn cb]) := by have := hput.2; dsimp only at this; rw [← hwp] at this; exact HD.out.chg this fun _ e => HDi.out e
                have Hwp := Lib.hid hwp
                clear hput hwp
                have HLf := Lib.hid (HQ.out.left X HG.out HFl2.out)
                obtain ⟨hc0, hc1, hd0, hd1, hd2, hd3, hd4⟩ := (HQ.out.s Hx2.out HDQ.out).cells
                simp only at hc0 hc1 hd0 hd1 hd2 hd3 hd4
                go_wp2_with (first | (refine wpList_load_mid rfl 40 (.tmp 15) rfl yb 0 rfl (r.l.map VI) _ HY.out.here.1 Try.underlying40 rfl (infoInoL _) ?_) | (refine wpList_store_mid rfl 40 (.tmp 217) (.tmp 216) rfl ib (f * 7) (r.l.map VI).toArray rfl rfl HTh.out (infoInoS _) (oneIn _) ?_; rw [show (List.map VI (Ino.l r)).toArray.toList = List.map VI (Ino.l r) from rfl, ← Hwp.out]))
                clear HTh Hwp HP HD HY
                refine HLf.out.mono ?_
                rintro e wl ⟨rfl, hb⟩
                clear hc0 hc1 hd0 hd1 hd2 hd3 hd4
                have HP := Lib.hid (HQ.out.below X hb)
                have HD := Lib.hid (HDQ.out.below hb HDQ.out.lt)
                clear HQ HDQ HLf hb
                have HRL : Hid (∀ W, Below wl.heap.size wl W → Calls Try.prog 20 #[.pointer (some ⟨ob, 0, none⟩)] W fun e X' => e = .returned (.int .i64 (gleft (Geo.mk gn gk) fs2)) ∧ Below W.heap.size W X') := fun W hW => (HP.out.below X hW).rleft HG.out
                have HAp : Hid (∀ W, Below wl.heap.size wl W → Calls Try.prog 21 #[.pointer (some ⟨m, 0, none⟩), .agg #[.int .i64 gn, .int .i64 gk], .slice (some ⟨ib, 0, none⟩) 4 4] W fun e X' => e = .returned (.bool true) ∧ Below W.heap.size W X') := fun W hW => (HP.out.below X hW).apart X HG.out HFl2.out 4
                have HLn : Hid ((r).b = ((strB ((fs2).getD f [])).size : Int)) := by show _ = _; rw [strB_size]; exact (HFl2.out.at_ Hx2.out).2.symm
                have HKeep : Hid (∀ W, Below wl.heap.size wl W → PlS W (Lay14.mk gb ob lb ib m) db (Geo.mk gn gk) f r fs2 dw df do' dn (.slice Ab bn cb)) := fun W hW => (HP.out.below X hW).s Hx2.out (HD.out.below hW HD.out.lt)
                go_wp2_with fail
                have hC : Below wl.heap.size wl wl.drew := below_drewN (Below.refl _ _) 1
                refine wp_region_held_drew (S := (fun W => PlS W (Lay14.mk gb ob lb ib m) db (Geo.mk gn gk) f r fs2 dw df do' dn (.slice Ab bn cb))) (by kernel_rfl) (HKeep.out _ hC) (fun hHeld => ?_)
                generalize wl.drew = wld at *
                refine wpAnyH_take (i := 0) (oi := ⟨some 225, _, _, _, _, _⟩) (v := ?_) rfl (by kernel_rfl) (by kernel_rfl) (by kernel_rfl) (fun _ _ _ h => h) (Or.inl ⟨by rfl, ?_⟩) hHeld ?_
                rotate_left
                · intro w hSw
                  go_simp
                  with_reducible rfl
                try go_frame
                refine wpAnyH_take (i := 1) (oi := ⟨some 226, _, _, _, _, _⟩) (v := ?_) rfl (by kernel_rfl) (by kernel_rfl) (by kernel_rfl) (fun _ _ _ h => h) (Or.inl ⟨by rfl, ?_⟩) hHeld ?_
                rotate_left
                · intro w hSw
                  go_simp
                  with_reducible rfl
                try go_frame
                refine wpAnyH_ready (rs := [2]) (by kernel_rfl) (by simp) ?_
                refine AllReadyH.cons (o := ⟨some 227, _, _, _, _, _⟩) rfl (fun K hK => ?_) AllReadyH.nil
                go_simp
                go_at_call 20
                refine (HRL.out wld hC).mono ?_
                rintro e wld_lf ⟨rfl, hb⟩
                replace hC := hC.trans (hb.mono hC.size)
                refine hK.out _ _ (HKeep.out _ hC) (fun hHeld => ?_)
                clear hK K hb 
                try go_frame
                refine wpAnyH_take (i := 3) (oi := ⟨some 228, _, _, _, _, _⟩) (v := ?_) rfl (by kernel_rfl) (by kernel_rfl) (by kernel_rfl) (fun _ _ _ h => h) (Or.inl ⟨by rfl, ?_⟩) hHeld ?_
                rotate_left
                · intro w hSw
                  go_simp
                  with_reducible rfl
                try go_frame
                refine wpAnyH_take (i := 4) (oi := ⟨some 229, _, _, _, _, _⟩) (v := ?_) rfl (by kernel_rfl) (by kernel_rfl) (by kernel_rfl) (fun _ _ _ h => h) (Or.inl ⟨by rfl, ?_⟩) hHeld ?_
                rotate_left
                · intro w hSw
                  go_simp
                  with_reducible rfl
                try go_frame
                refine wpAnyH_take (i := 5) (oi := ⟨some 230, _, _, _, _, _⟩) (v := ?_) rfl (by kernel_rfl) (by kernel_rfl) (by kernel_rfl) (fun _ _ _ h => h) (Or.inl ⟨by rfl, ?_⟩) hHeld ?_
                rotate_left
                · intro w hSw
                  go_simp
                  with_reducible rfl
                try go_frame
                refine wpAnyH_take (i := 6) (oi := ⟨some 231, _, _, _, _, _⟩) (v := ?_) rfl (by kernel_rfl) (by kernel_rfl) (by kernel_rfl) (fun _ _ _ h => h) (Or.inl ⟨by rfl, ?_⟩) hHeld ?_
                rotate_left
                · intro w hSw
                  go_simp
                  with_reducible rfl
                try go_frame
                refine wpAnyH_take (i := 7) (oi := ⟨some 232, _, _, _, _, _⟩) (v := ?_) rfl (by kernel_rfl) (by kernel_rfl) (by kernel_rfl) (fun _ _ _ h => h) (Or.inl ⟨by rfl, ?_⟩) hHeld ?_
                rotate_left
                · intro w hSw
                  go_simp
                  with_reducible rfl
                try go_frame
                refine wpAnyH_take (i := 8) (oi := ⟨some 233, _, _, _, _, _⟩) (v := ?_) rfl (by kernel_rfl) (by kernel_rfl) (by kernel_rfl) (fun _ _ _ h => h) (Or.inl ⟨by rfl, ?_⟩) hHeld ?_
                rotate_left
                · intro w hSw
                  go_simp
                  with_reducible rfl
                try go_frame
                refine wpAnyH_take (i := 9) (oi := ⟨some 234, _, _, _, _, _⟩) (v := ?_) rfl (by kernel_rfl) (by kernel_rfl) (by kernel_rfl) (fun _ _ _ h => h) (Or.inl ⟨by rfl, ?_⟩) hHeld ?_
                rotate_left
                · intro w hSw
                  go_simp
                  with_reducible rfl
                try go_frame
                refine wpAnyH_take (i := 10) (oi := ⟨some 235, _, _, _, _, _⟩) (v := ?_) rfl (by kernel_rfl) (by kernel_rfl) (by kernel_rfl) (fun _ _ _ h => h) (Or.inl ⟨by rfl, ?_⟩) hHeld ?_
                rotate_left
                · intro w hSw
                  go_simp
                  with_reducible rfl
                try go_frame
                refine wpAnyH_take (i := 11) (oi := ⟨some 236, _, _, _, _, _⟩) (v := ?_) rfl (by kernel_rfl) (by kernel_rfl) (by kernel_rfl) (fun _ _ _ h => h) (Or.inl ⟨by rfl, ?_⟩) hHeld ?_
                rotate_left
                · intro w hSw
                  go_simp
                  with_reducible rfl
                try go_frame
                refine wpAnyH_take (i := 12) (oi := ⟨some 237, _, _, _, _, _⟩) (v := ?_) rfl (by kernel_rfl) (by kernel_rfl) (by kernel_rfl) (fun _ _ _ h => h) (Or.inl ⟨by rfl, ?_⟩) hHeld ?_
                rotate_left
                · intro w hSw
                  go_simp
                  with_reducible rfl
                try go_frame
                refine wpAnyH_take (i := 13) (oi := ⟨some 238, _, _, _, _, _⟩) (v := ?_) rfl (by kernel_rfl) (by kernel_rfl) (by kernel_rfl) (fun _ _ _ h => h) (Or.inl ⟨by rfl, ?_⟩) hHeld ?_
                rotate_left
                · intro w hSw
                  have hc := hSw.bytes
                  (try simp only at hc)
                  go_simp
                  with_reducible rfl
                try go_frame
                refine wpAnyH_take (i := 14) (oi := ⟨some 239, _, _, _, _, _⟩) (v := ?_) rfl (by kernel_rfl) (by kernel_rfl) (by kernel_rfl) (fun _ _ _ h => h) (Or.inl ⟨by rfl, ?_⟩) hHeld ?_
                rotate_left
                · intro w hSw
                  go_simp
                  with_reducible rfl
                try go_frame
                refine wpAnyH_take (i := 15) (oi := ⟨some 240, _, _, _, _, _⟩) (v := ?_) rfl (by kernel_rfl) (by kernel_rfl) (by kernel_rfl) (fun _ _ _ h => h) (Or.inl ⟨by rfl, ?_⟩) hHeld ?_
                rotate_left
                · intro w hSw
                  go_simp
                  with_reducible rfl
                try go_frame
                refine wpAnyH_take (i := 16) (oi := ⟨some 241, _, _, _, _, _⟩) (v := ?_) rfl (by kernel_rfl) (by kernel_rfl) (by kernel_rfl) (fun _ _ _ h => h) (Or.inl ⟨by rfl, ?_⟩) hHeld ?_
                rotate_left
                · intro w hSw
                  go_simp
                  with_reducible rfl
                try go_frame
                refine wpAnyH_take (i := 17) (oi := ⟨some 242, _, _, _, _, _⟩) (v := ?_) rfl (by kernel_rfl) (by kernel_rfl) (by kernel_rfl) (fun _ _ _ h => h) (Or.inl ⟨by rfl, ?_⟩) hHeld ?_
                rotate_left
                · intro w hSw
                  have hc := hSw.row
                  simp only at hc
                  go_simp
                  with_reducible rfl
                try go_frame
                refine wpAnyH_take (i := 18) (oi := ⟨some 243, _, _, _, _, _⟩) (v := ?_) rfl (by kernel_rfl) (by kernel_rfl) (by kernel_rfl) (fun _ _ _ h => h) (Or.inl ⟨by rfl, ?_⟩) hHeld ?_
                rotate_left
                · intro w hSw
                  go_simp
                  with_reducible rfl
                try go_frame
                refine wpAnyH_take (i := 19) (oi := ⟨some 244, _, _, _, _, _⟩) (v := ?_) rfl (by kernel_rfl) (by kernel_rfl) (by kernel_rfl) (fun _ _ _ h => h) (Or.inl ⟨by rfl, ?_⟩) hHeld ?_
                rotate_left
                · intro w hSw
                  go_simp
                  with_reducible rfl
                try go_frame
                refine wpAnyH_take (i := 20) (oi := ⟨some 245, _, _, _, _, _⟩) (v := ?_) rfl (by kernel_rfl) (by kernel_rfl) (by kernel_rfl) (fun _ _ _ h => h) (Or.inl ⟨by rfl, ?_⟩) hHeld ?_
                rotate_left
                · intro w hSw
                  have hc := hSw.fl.cell f hf4
                  simp only at hc
                  go_simp
                  with_reducible rfl
                try go_frame
                refine wpAnyH_take (i := 21) (oi := ⟨some 246, _, _, _, _, _⟩) (v := ?_) rfl (by kernel_rfl) (by kernel_rfl) (by kernel_rfl) (fun _ _ _ h => h) (Or.inl ⟨by rfl, ?_⟩) hHeld ?_
                rotate_left
                · intro w hSw
                  go_simp
                  with_reducible rfl
                try go_frame
                refine wpAnyH_take (i := 22) (oi := ⟨some 247, _, _, _, _, _⟩) (v := ?_) rfl (by kernel_rfl) (by kernel_rfl) (by kernel_rfl) (fun _ _ _ h => h) (Or.inl ⟨by rfl, ?_⟩) hHeld ?_
                rotate_left
                · intro w hSw
                  have hq := HLn.out
                  (try simp only at hq)
                  go_simp
                  with_reducible rfl
                try go_frame
                refine wpAnyH_take (i := 23) (oi := ⟨some 248, _, _, _, _, _⟩) (v := ?_) rfl (by kernel_rfl) (by kernel_rfl) (by kernel_rfl) (fun _ _ _ h => h) (Or.inl ⟨by rfl, ?_⟩) hHeld ?_
                rotate_left
                · intro w hSw
                  go_simp
                  with_reducible rfl
                try go_frame
                refine wpAnyH_take (i := 24) (oi := ⟨some 249, _, _, _, _, _⟩) (v := ?_) rfl (by kernel_rfl) (by kernel_rfl) (by kernel_rfl) (fun _ _ _ h => h) (Or.inl ⟨by rfl, ?_⟩) hHeld ?_
                rotate_left
                · intro w hSw
                  go_simp
                  with_reducible rfl
                try go_frame
                refine wpAnyH_take (i := 25) (oi := ⟨some 250, _, _, _, _, _⟩) (v := ?_) rfl (by kernel_rfl) (by kernel_rfl) (by kernel_rfl) (fun _ _ _ h => h) (Or.inl ⟨by rfl, ?_⟩) hHeld ?_
                rotate_left
                · intro w hSw
                  go_simp
                  with_reducible rfl
                try go_frame
                refine wpAnyH_take (i := 26) (oi := ⟨some 251, _, _, _, _, _⟩) (v := ?_) rfl (by kernel_rfl) (by kernel_rfl) (by kernel_rfl) (fun _ _ _ h => h) (Or.inl ⟨by rfl, ?_⟩) hHeld ?_
                rotate_left
                · intro w hSw
                  obtain ⟨hc0, hc1, hd0, hd1, hd2, hd3, hd4⟩ := hSw.cells
                  simp only at hc0 hc1 hd0 hd1 hd2 hd3 hd4
                  go_simp
                  with_reducible rfl
                try go_frame
                refine wpAnyH_take (i := 27) (oi := ⟨some 252, _, _, _, _, _⟩) (v := ?_) rfl (by kernel_rfl) (by kernel_rfl) (by kernel_rfl) (fun _ _ _ h => h) (Or.inl ⟨by rfl, ?_⟩) hHeld ?_
                rotate_left
                · intro w hSw
                  go_simp
                  with_reducible rfl
                try go_frame
                refine wpAnyH_ready (rs := [28]) (by kernel_rfl) (by simp) ?_
                refine AllReadyH.cons (o := ⟨some 253, _, _, _, _, _⟩) rfl (fun K hK => ?_) AllReadyH.nil
                go_simp
                go_at_call 21
                refine (HAp.out wld_lf hC).mono ?_
                rintro e wld_lf_ap ⟨rfl, hb⟩
                replace hC := hC.trans (hb.mono hC.size)
                refine hK.out _ _ (HKeep.out _ hC) (fun hHeld => ?_)
                clear hK K hb 
                try go_frame
                refine wpAnyH_take (i := 29) (oi := ⟨some 254, _, _, _, _, _⟩) (v := ?_) rfl (by kernel_rfl) (by kernel_rfl) (by kernel_rfl) (fun _ _ _ h => h) (Or.inl ⟨by rfl, ?_⟩) hHeld ?_
                rotate_left
                · intro w hSw
                  go_simp
                  with_reducible rfl
                try go_frame
                refine wpAnyH_take (i := 30) (oi := ⟨some 255, _, _, _, _, _⟩) (v := ?_) rfl (by kernel_rfl) (by kernel_rfl) (by kernel_rfl) (fun _ _ _ h => h) (Or.inl ⟨by rfl, ?_⟩) hHeld ?_
                rotate_left
                · intro w hSw
                  go_simp
                  with_reducible rfl
                try go_frame
                refine wpAnyH_done (by kernel_rfl) ?_ _
                have HPe := Lib.hid ((HP.out.below X hC).also X (Below.refl _ _) (fun _ => False) (fun _ h => h.elim))
                clear hHeld HKeep hC HP HD HRL HAp HLn
                generalize wld_lf_ap = wz at *
                go_wp2
                go_roundw
                case rel => exact ⟨k + 1, (l.set f r), fs2, bl7, by omega, by go_num, HPe, HFl2⟩
                case measure => simp [intOf]; omega
              · rw [if_neg hz0] at HP
                have hz1 : (e0 == 0) = false := by simpa using hz0
                have hz2 : (e0 != 0) = true := by simpa using hz0
                have hz3 : (e0 != e0) = false := by simp
                obtain rfl := Hz.out hz0
                have HFl2 := HFl
                have Hx2 := Hx
                clear He0 Hz HF7 HY
                have HQ : Hid (PlW C w w9 (Lay14.mk gb ob lb ib m) (fun k => k = db ∨ k = yb) (Geo.mk gn gk) l fs bl7) := HP.out
                have HDQ := HD
                have HLf := Lib.hid (HQ.out.left X HG.out HFl2.out)
                obtain ⟨hc0, hc1, hd0, hd1, hd2, hd3, hd4⟩ := (HQ.out.s Hx2.out HDQ.out).cells
                simp only at hc0 hc1 hd0 hd1 hd2 hd3 hd4
                clear HP HD
                go_wp2_with fail
                refine HLf.out.mono ?_
                rintro e wl ⟨rfl, hb⟩
                clear hc0 hc1 hd0 hd1 hd2 hd3 hd4
                have HP := Lib.hid (HQ.out.below X hb)
                have HD := Lib.hid (HDQ.out.below hb HDQ.out.lt)
                clear HQ HDQ HLf hb
                have HRL : Hid (∀ W, Below wl.heap.size wl W → Calls Try.prog 20 #[.pointer (some ⟨ob, 0, none⟩)] W fun e X' => e = .returned (.int .i64 (gleft (Geo.mk gn gk) fs)) ∧ Below W.heap.size W X') := fun W hW => (HP.out.below X hW).rleft HG.out
                have HAp : Hid (∀ W, Below wl.heap.size wl W → Calls Try.prog 21 #[.pointer (some ⟨m, 0, none⟩), .agg #[.int .i64 gn, .int .i64 gk], .slice (some ⟨ib, 0, none⟩) 4 4] W fun e X' => e = .returned (.bool true) ∧ Below W.heap.size W X') := fun W hW => (HP.out.below X hW).apart X HG.out HFl2.out 4
                have HLn : Hid (((Ino.mk xk xb x0 x1 x2 x3 xd)).b = ((strB ((fs).getD f [])).size : Int)) := by show _ = _; rw [strB_size]; exact (HFl2.out.at_ Hx2.out).2.symm
                have HKeep : Hid (∀ W, Below wl.heap.size wl W → PlS W (Lay14.mk gb ob lb ib m) db (Geo.mk gn gk) f (Ino.mk xk xb x0 x1 x2 x3 xd) fs dw df do' dn (.slice Ab bn cb)) := fun W hW => (HP.out.below X hW).s Hx2.out (HD.out.below hW HD.out.lt)
                go_wp2_with fail
                have hC : Below wl.heap.size wl wl.drew := below_drewN (Below.refl _ _) 1
                refine wp_region_held_drew (S := (fun W => PlS W (Lay14.mk gb ob lb ib m) db (Geo.mk gn gk) f (Ino.mk xk xb x0 x1 x2 x3 xd) fs dw df do' dn (.slice Ab bn cb))) (by kernel_rfl) (HKeep.out _ hC) (fun hHeld => ?_)
                generalize wl.drew = wld at *
                refine wpAnyH_take (i := 0) (oi := ⟨some 225, _, _, _, _, _⟩) (v := ?_) rfl (by kernel_rfl) (by kernel_rfl) (by kernel_rfl) (fun _ _ _ h => h) (Or.inl ⟨by rfl, ?_⟩) hHeld ?_
                rotate_left
                · intro w hSw
                  go_simp
                  with_reducible rfl
                try go_frame
                refine wpAnyH_take (i := 1) (oi := ⟨some 226, _, _, _, _, _⟩) (v := ?_) rfl (by kernel_rfl) (by kernel_rfl) (by kernel_rfl) (fun _ _ _ h => h) (Or.inl ⟨by rfl, ?_⟩) hHeld ?_
                rotate_left
                · intro w hSw
                  go_simp
                  with_reducible rfl
                try go_frame
                refine wpAnyH_ready (rs := [2]) (by kernel_rfl) (by simp) ?_
                refine AllReadyH.cons (o := ⟨some 227, _, _, _, _, _⟩) rfl (fun K hK => ?_) AllReadyH.nil
                go_simp
                go_at_call 20
                refine (HRL.out wld hC).mono ?_
                rintro e wld_lf ⟨rfl, hb⟩
                replace hC := hC.trans (hb.mono hC.size)
                refine hK.out _ _ (HKeep.out _ hC) (fun hHeld => ?_)
                clear hK K hb 
                try go_frame
                refine wpAnyH_take (i := 3) (oi := ⟨some 228, _, _, _, _, _⟩) (v := ?_) rfl (by kernel_rfl) (by kernel_rfl) (by kernel_rfl) (fun _ _ _ h => h) (Or.inl ⟨by rfl, ?_⟩) hHeld ?_
                rotate_left
                · intro w hSw
                  go_simp
                  with_reducible rfl
                try go_frame
                refine wpAnyH_take (i := 4) (oi := ⟨some 229, _, _, _, _, _⟩) (v := ?_) rfl (by kernel_rfl) (by kernel_rfl) (by kernel_rfl) (fun _ _ _ h => h) (Or.inl ⟨by rfl, ?_⟩) hHeld ?_
                rotate_left
                · intro w hSw
                  go_simp
                  with_reducible rfl
                try go_frame
                refine wpAnyH_take (i := 5) (oi := ⟨some 230, _, _, _, _, _⟩) (v := ?_) rfl (by kernel_rfl) (by kernel_rfl) (by kernel_rfl) (fun _ _ _ h => h) (Or.inl ⟨by rfl, ?_⟩) hHeld ?_
                rotate_left
                · intro w hSw
                  go_simp
                  with_reducible rfl
                try go_frame
                refine wpAnyH_take (i := 6) (oi := ⟨some 231, _, _, _, _, _⟩) (v := ?_) rfl (by kernel_rfl) (by kernel_rfl) (by kernel_rfl) (fun _ _ _ h => h) (Or.inl ⟨by rfl, ?_⟩) hHeld ?_
                rotate_left
                · intro w hSw
                  go_simp
                  with_reducible rfl
                try go_frame
                refine wpAnyH_take (i := 7) (oi := ⟨some 232, _, _, _, _, _⟩) (v := ?_) rfl (by kernel_rfl) (by kernel_rfl) (by kernel_rfl) (fun _ _ _ h => h) (Or.inl ⟨by rfl, ?_⟩) hHeld ?_
                rotate_left
                · intro w hSw
                  go_simp
                  with_reducible rfl
                try go_frame
                refine wpAnyH_take (i := 8) (oi := ⟨some 233, _, _, _, _, _⟩) (v := ?_) rfl (by kernel_rfl) (by kernel_rfl) (by kernel_rfl) (fun _ _ _ h => h) (Or.inl ⟨by rfl, ?_⟩) hHeld ?_
                rotate_left
                · intro w hSw
                  go_simp
                  with_reducible rfl
                try go_frame
                refine wpAnyH_take (i := 9) (oi := ⟨some 234, _, _, _, _, _⟩) (v := ?_) rfl (by kernel_rfl) (by kernel_rfl) (by kernel_rfl) (fun _ _ _ h => h) (Or.inl ⟨by rfl, ?_⟩) hHeld ?_
                rotate_left
                · intro w hSw
                  go_simp
                  with_reducible rfl
                try go_frame
                refine wpAnyH_take (i := 10) (oi := ⟨some 235, _, _, _, _, _⟩) (v := ?_) rfl (by kernel_rfl) (by kernel_rfl) (by kernel_rfl) (fun _ _ _ h => h) (Or.inl ⟨by rfl, ?_⟩) hHeld ?_
                rotate_left
                · intro w hSw
                  go_simp
                  with_reducible rfl
                try go_frame
                refine wpAnyH_take (i := 11) (oi := ⟨some 236, _, _, _, _, _⟩) (v := ?_) rfl (by kernel_rfl) (by kernel_rfl) (by kernel_rfl) (fun _ _ _ h => h) (Or.inl ⟨by rfl, ?_⟩) hHeld ?_
                rotate_left
                · intro w hSw
                  go_simp
                  with_reducible rfl
                try go_frame
                refine wpAnyH_take (i := 12) (oi := ⟨some 237, _, _, _, _, _⟩) (v := ?_) rfl (by kernel_rfl) (by kernel_rfl) (by kernel_rfl) (fun _ _ _ h => h) (Or.inl ⟨by rfl, ?_⟩) hHeld ?_
                rotate_left
                · intro w hSw
                  go_simp
                  with_reducible rfl
                try go_frame
                refine wpAnyH_take (i := 13) (oi := ⟨some 238, _, _, _, _, _⟩) (v := ?_) rfl (by kernel_rfl) (by kernel_rfl) (by kernel_rfl) (fun _ _ _ h => h) (Or.inl ⟨by rfl, ?_⟩) hHeld ?_
                rotate_left
                · intro w hSw
                  have hc := hSw.bytes
                  (try simp only at hc)
                  go_simp
                  with_reducible rfl
                try go_frame
                refine wpAnyH_take (i := 14) (oi := ⟨some 239, _, _, _, _, _⟩) (v := ?_) rfl (by kernel_rfl) (by kernel_rfl) (by kernel_rfl) (fun _ _ _ h => h) (Or.inl ⟨by rfl, ?_⟩) hHeld ?_
                rotate_left
                · intro w hSw
                  go_simp
                  with_reducible rfl
                try go_frame
                refine wpAnyH_take (i := 15) (oi := ⟨some 240, _, _, _, _, _⟩) (v := ?_) rfl (by kernel_rfl) (by kernel_rfl) (by kernel_rfl) (fun _ _ _ h => h) (Or.inl ⟨by rfl, ?_⟩) hHeld ?_
                rotate_left
                · intro w hSw
                  go_simp
                  with_reducible rfl
                try go_frame
                refine wpAnyH_take (i := 16) (oi := ⟨some 241, _, _, _, _, _⟩) (v := ?_) rfl (by kernel_rfl) (by kernel_rfl) (by kernel_rfl) (fun _ _ _ h => h) (Or.inl ⟨by rfl, ?_⟩) hHeld ?_
                rotate_left
                · intro w hSw
                  go_simp
                  with_reducible rfl
                try go_frame
                refine wpAnyH_take (i := 17) (oi := ⟨some 242, _, _, _, _, _⟩) (v := ?_) rfl (by kernel_rfl) (by kernel_rfl) (by kernel_rfl) (fun _ _ _ h => h) (Or.inl ⟨by rfl, ?_⟩) hHeld ?_
                rotate_left
                · intro w hSw
                  have hc := hSw.row
                  simp only at hc
                  go_simp
                  with_reducible rfl
                try go_frame
                refine wpAnyH_take (i := 18) (oi := ⟨some 243, _, _, _, _, _⟩) (v := ?_) rfl (by kernel_rfl) (by kernel_rfl) (by kernel_rfl) (fun _ _ _ h => h) (Or.inl ⟨by rfl, ?_⟩) hHeld ?_
                rotate_left
                · intro w hSw
                  go_simp
                  with_reducible rfl
                try go_frame
                refine wpAnyH_take (i := 19) (oi := ⟨some 244, _, _, _, _, _⟩) (v := ?_) rfl (by kernel_rfl) (by kernel_rfl) (by kernel_rfl) (fun _ _ _ h => h) (Or.inl ⟨by rfl, ?_⟩) hHeld ?_
                rotate_left
                · intro w hSw
                  go_simp
                  with_reducible rfl
                try go_frame
                refine wpAnyH_take (i := 20) (oi := ⟨some 245, _, _, _, _, _⟩) (v := ?_) rfl (by kernel_rfl) (by kernel_rfl) (by kernel_rfl) (fun _ _ _ h => h) (Or.inl ⟨by rfl, ?_⟩) hHeld ?_
                rotate_left
                · intro w hSw
                  have hc := hSw.fl.cell f hf4
                  simp only at hc
                  go_simp
                  with_reducible rfl
                try go_frame
                refine wpAnyH_take (i := 21) (oi := ⟨some 246, _, _, _, _, _⟩) (v := ?_) rfl (by kernel_rfl) (by kernel_rfl) (by kernel_rfl) (fun _ _ _ h => h) (Or.inl ⟨by rfl, ?_⟩) hHeld ?_
                rotate_left
                · intro w hSw
                  go_simp
                  with_reducible rfl
                try go_frame
                refine wpAnyH_take (i := 22) (oi := ⟨some 247, _, _, _, _, _⟩) (v := ?_) rfl (by kernel_rfl) (by kernel_rfl) (by kernel_rfl) (fun _ _ _ h => h) (Or.inl ⟨by rfl, ?_⟩) hHeld ?_
                rotate_left
                · intro w hSw
                  have hq := HLn.out
                  (try simp only at hq)
                  go_simp
                  with_reducible rfl
                try go_frame
                refine wpAnyH_take (i := 23) (oi := ⟨some 248, _, _, _, _, _⟩) (v := ?_) rfl (by kernel_rfl) (by kernel_rfl) (by kernel_rfl) (fun _ _ _ h => h) (Or.inl ⟨by rfl, ?_⟩) hHeld ?_
                rotate_left
                · intro w hSw
                  go_simp
                  with_reducible rfl
                try go_frame
                refine wpAnyH_take (i := 24) (oi := ⟨some 249, _, _, _, _, _⟩) (v := ?_) rfl (by kernel_rfl) (by kernel_rfl) (by kernel_rfl) (fun _ _ _ h => h) (Or.inl ⟨by rfl, ?_⟩) hHeld ?_
                rotate_left
                · intro w hSw
                  go_simp
                  with_reducible rfl
                try go_frame
                refine wpAnyH_take (i := 25) (oi := ⟨some 250, _, _, _, _, _⟩) (v := ?_) rfl (by kernel_rfl) (by kernel_rfl) (by kernel_rfl) (fun _ _ _ h => h) (Or.inl ⟨by rfl, ?_⟩) hHeld ?_
                rotate_left
                · intro w hSw
                  go_simp
                  with_reducible rfl
                try go_frame
                refine wpAnyH_take (i := 26) (oi := ⟨some 251, _, _, _, _, _⟩) (v := ?_) rfl (by kernel_rfl) (by kernel_rfl) (by kernel_rfl) (fun _ _ _ h => h) (Or.inl ⟨by rfl, ?_⟩) hHeld ?_
                rotate_left
                · intro w hSw
                  obtain ⟨hc0, hc1, hd0, hd1, hd2, hd3, hd4⟩ := hSw.cells
                  simp only at hc0 hc1 hd0 hd1 hd2 hd3 hd4
                  go_simp
                  with_reducible rfl
                try go_frame
                refine wpAnyH_take (i := 27) (oi := ⟨some 252, _, _, _, _, _⟩) (v := ?_) rfl (by kernel_rfl) (by kernel_rfl) (by kernel_rfl) (fun _ _ _ h => h) (Or.inl ⟨by rfl, ?_⟩) hHeld ?_
                rotate_left
                · intro w hSw
                  go_simp
                  with_reducible rfl
                try go_frame
                refine wpAnyH_ready (rs := [28]) (by kernel_rfl) (by simp) ?_
                refine AllReadyH.cons (o := ⟨some 253, _, _, _, _, _⟩) rfl (fun K hK => ?_) AllReadyH.nil
                go_simp
                go_at_call 21
                refine (HAp.out wld_lf hC).mono ?_
                rintro e wld_lf_ap ⟨rfl, hb⟩
                replace hC := hC.trans (hb.mono hC.size)
                refine hK.out _ _ (HKeep.out _ hC) (fun hHeld => ?_)
                clear hK K hb 
                try go_frame
                refine wpAnyH_take (i := 29) (oi := ⟨some 254, _, _, _, _, _⟩) (v := ?_) rfl (by kernel_rfl) (by kernel_rfl) (by kernel_rfl) (fun _ _ _ h => h) (Or.inl ⟨by rfl, ?_⟩) hHeld ?_
                rotate_left
                · intro w hSw
                  go_simp
                  with_reducible rfl
                try go_frame
                refine wpAnyH_take (i := 30) (oi := ⟨some 255, _, _, _, _, _⟩) (v := ?_) rfl (by kernel_rfl) (by kernel_rfl) (by kernel_rfl) (fun _ _ _ h => h) (Or.inl ⟨by rfl, ?_⟩) hHeld ?_
                rotate_left
                · intro w hSw
                  go_simp
                  with_reducible rfl
                try go_frame
                refine wpAnyH_done (by kernel_rfl) ?_ _
                have HPe := Lib.hid ((HP.out.below X hC).also X (Below.refl _ _) (fun _ => False) (fun _ h => h.elim))
                clear hHeld HKeep hC HP HD HRL HAp HLn
                generalize wld_lf_ap = wz at *
                go_wp2
                go_roundw
                case rel => exact ⟨k + 1, l, fs, bl7, by omega, by go_num, HPe, HFl2⟩
                case measure => simp [intOf]; omega
          · as_aux_lemma =>
              have HPd : Hid (PlW C w w6.drew (Lay14.mk gb ob lb ib m) (fun k => k = db ∨ k = yb) (Geo.mk gn gk) l fs bl) := HP6.out.below X (below_drewN (Below.refl _ w6) 1)
              have HDd : Hid (Row w6.drew db 43 [.int .i64 dw, .int .i64 df, .int .i64 do', .int .i64 dn, .slice Ab bn cb]) := HD6.out
              have HYd : Hid (Row w6.drew yb 40 [.int .i64 xk, .int .i64 xb, .int .i64 x0, .int .i64 x1, .int .i64 x2, .int .i64 x3, .int .i64 xd]) := HY6.out
              clear HP6 HD6 HY6
              have HCall := Lib.hid (HPd.out.write X HG.out HFl.out Hx.out do' Ho.out _ bs (by rw [← Hbn.out]; omega) HArg.out)
              obtain ⟨e0, he0⟩ : ∃ e, e = writeE (Geo.mk gn gk) fs f do' bs := ⟨_, rfl⟩
              rw [← he0] at HCall
              have He0 := Lib.hid he0
              clear he0
              go_wp2_with fail
              refine wp_region_held_drew (S := (fun W => PlS W (Lay14.mk gb ob lb ib m) db (Geo.mk gn gk) f (Ino.mk xk xb x0 x1 x2 x3 xd) fs dw df do' dn (.slice Ab bn cb))) (by kernel_rfl) (HPd.out.s Hx.out HDd.out) (fun hHeld => ?_)
              generalize w6.drew = wd at *
              refine wpAnyH_take (i := 0) (oi := ⟨some 171, _, _, _, _, _⟩) (v := ?_) rfl (by kernel_rfl) (by kernel_rfl) (by kernel_rfl) (fun _ _ _ h => h) (Or.inl ⟨by rfl, ?_⟩) hHeld ?_
              rotate_left
              · intro w hSw
                go_simp
                with_reducible rfl
              try go_frame
              refine wpAnyH_take (i := 1) (oi := ⟨some 172, _, _, _, _, _⟩) (v := ?_) rfl (by kernel_rfl) (by kernel_rfl) (by kernel_rfl) (fun _ _ _ h => h) (Or.inl ⟨by rfl, ?_⟩) hHeld ?_
              rotate_left
              · intro w hSw
                go_simp
                with_reducible rfl
              try go_frame
              refine wpAnyH_take (i := 2) (oi := ⟨some 173, _, _, _, _, _⟩) (v := ?_) rfl (by kernel_rfl) (by kernel_rfl) (by kernel_rfl) (fun _ _ _ h => h) (Or.inl ⟨by rfl, ?_⟩) hHeld ?_
              rotate_left
              · intro w hSw
                obtain ⟨hc0, hc1, hd0, hd1, hd2, hd3, hd4⟩ := hSw.cells
                simp only at hc0 hc1 hd0 hd1 hd2 hd3 hd4
                go_simp
                with_reducible rfl
              try go_frame
              refine wpAnyH_take (i := 3) (oi := ⟨some 174, _, _, _, _, _⟩) (v := ?_) rfl (by kernel_rfl) (by kernel_rfl) (by kernel_rfl) (fun _ _ _ h => h) (Or.inl ⟨by rfl, ?_⟩) hHeld ?_
              rotate_left
              · intro w hSw
                go_simp
                with_reducible rfl
              try go_frame
              refine wpAnyH_take (i := 4) (oi := ⟨some 175, _, _, _, _, _⟩) (v := ?_) rfl (by kernel_rfl) (by kernel_rfl) (by kernel_rfl) (fun _ _ _ h => h) (Or.inl ⟨by rfl, ?_⟩) hHeld ?_
              rotate_left
              · intro w hSw
                go_simp
                with_reducible rfl
              try go_frame
              refine wpAnyH_take (i := 5) (oi := ⟨some 176, _, _, _, _, _⟩) (v := ?_) rfl (by kernel_rfl) (by kernel_rfl) (by kernel_rfl) (fun _ _ _ h => h) (Or.inl ⟨by rfl, ?_⟩) hHeld ?_
              rotate_left
              · intro w hSw
                go_simp
                with_reducible rfl
              try go_frame
              refine wpAnyH_take (i := 6) (oi := ⟨some 177, _, _, _, _, _⟩) (v := .agg ([.int .i64 xk, .int .i64 xb, .int .i64 x0, .int .i64 x1, .int .i64 x2, .int .i64 x3, .int .i64 xd]).toArray) rfl (by kernel_rfl) (by kernel_rfl) (by kernel_rfl) (fun _ _ _ h => h) (yieldsIf_load_mid (by rfl) 40 (.tmp 176) rfl ib (f * 7) rfl ([.int .i64 xk, .int .i64 xb, .int .i64 x0, .int .i64 x1, .int .i64 x2, .int .i64 x3, .int .i64 xd]) _ (fun W h => h.ino) Try.underlying40 rfl infoIno) hHeld ?_
              try go_frame
              refine wpAnyH_take (i := 7) (oi := ⟨some 178, _, _, _, _, _⟩) (v := ?_) rfl (by kernel_rfl) (by kernel_rfl) (by kernel_rfl) (fun _ _ _ h => h) (Or.inl ⟨by rfl, ?_⟩) hHeld ?_
              rotate_left
              · intro w hSw
                go_simp
                with_reducible rfl
              try go_frame
              refine wpAnyH_take (i := 8) (oi := ⟨some 179, _, _, _, _, _⟩) (v := ?_) rfl (by kernel_rfl) (by kernel_rfl) (by kernel_rfl) (fun _ _ _ h => h) (Or.inl ⟨by rfl, ?_⟩) hHeld ?_
              rotate_left
              · intro w hSw
                obtain ⟨hc0, hc1, hd0, hd1, hd2, hd3, hd4⟩ := hSw.cells
                simp only at hc0 hc1 hd0 hd1 hd2 hd3 hd4
                go_simp
                with_reducible rfl
              try go_frame
              refine wpAnyH_take (i := 9) (oi := ⟨some 180, _, _, _, _, _⟩) (v := ?_) rfl (by kernel_rfl) (by kernel_rfl) (by kernel_rfl) (fun _ _ _ h => h) (Or.inl ⟨by rfl, ?_⟩) hHeld ?_
              rotate_left
              · intro w hSw
                go_simp
                with_reducible rfl
              try go_frame
              refine wpAnyH_take (i := 10) (oi := ⟨some 181, _, _, _, _, _⟩) (v := ?_) rfl (by kernel_rfl) (by kernel_rfl) (by kernel_rfl) (fun _ _ _ h => h) (Or.inl ⟨by rfl, ?_⟩) hHeld ?_
              rotate_left
              · intro w hSw
                obtain ⟨hc0, hc1, hd0, hd1, hd2, hd3, hd4⟩ := hSw.cells
                simp only at hc0 hc1 hd0 hd1 hd2 hd3 hd4
                go_simp
                with_reducible rfl
              try go_frame
              refine wpAnyH_ready (rs := [11]) (by kernel_rfl) (by simp) ?_
              refine AllReadyH.cons (o := ⟨some 182, _, _, _, _, _⟩) rfl (fun K hK => ?_) AllReadyH.nil
              go_simp
              go_at_call 15
              refine HCall.out.mono ?_
              rintro e w7 ⟨r, bl7, rfl, hz, hF7, hP, hcg⟩
              have HD7 := Lib.hid (PlW.rowZ hcg HDd.out (.inl rfl))
              have HY7 := Lib.hid (PlW.rowZ hcg HYd.out (.inr rfl))
              have HP7 := Lib.hid hP
              have Hz := Lib.hid hz
              have HF7 := Lib.hid hF7
              clear hcg hP hz hF7 HPd HDd HYd HCall
              refine hK.out _ _ (HP7.out.s Hx.out HD7.out) (fun hHeld => ?_)
              clear hK K
              try go_frame
              refine wpAnyH_take (i := 12) (oi := ⟨some 170, _, _, _, _, _⟩) (v := ?_) rfl (by kernel_rfl) (by kernel_rfl) (by kernel_rfl) (fun _ _ _ h => h) (Or.inl ⟨by rfl, ?_⟩) hHeld ?_
              rotate_left
              · intro w hSw
                go_simp
                with_reducible rfl
              try go_frame
              refine wpAnyH_take (i := 13) (oi := ⟨some 183, _, _, _, _, _⟩) (v := ?_) rfl (by kernel_rfl) (by kernel_rfl) (by kernel_rfl) (fun _ _ _ h => h) (Or.inl ⟨by rfl, ?_⟩) hHeld ?_
              rotate_left
              · intro w hSw
                go_simp
                with_reducible rfl
              try go_frame
              refine wpAnyH_take (i := 14) (oi := ⟨some 184, _, _, _, _, _⟩) (v := ?_) rfl (by kernel_rfl) (by kernel_rfl) (by kernel_rfl) (fun _ _ _ h => h) (Or.inl ⟨by rfl, ?_⟩) hHeld ?_
              rotate_left
              · intro w hSw
                go_simp
                with_reducible rfl
              try go_frame
              refine wpAnyH_ready (rs := [15]) (by kernel_rfl) (by simp) ?_
              refine AllReadyH.cons (o := ⟨none, _, _, _, _, _⟩) rfl (fun K hK => ?_) AllReadyH.nil
              rw [if_pos (by rfl)]
              refine Go.wp_store_row 40 (.tmp 15) (.tmp 183) rfl yb (r.l.map VI).toArray rfl rfl 40 _ HY7.out (infoInoS r) (by simp [l_len]) (oneIn r.l) ?_
              have HY8 := Lib.hid (HY7.out.whole (r.l.map VI))
              have hc8 : Chg (fun k _ => k = yb) w7 (w7.setRow yb (r.l.map VI).toArray) := chg_row (by_setRow (by_refl w7 (some yb)) (.inl rfl) _) HY7.out HY8.out (by simp [l_len])
              have HP8 := Lib.hid (HP7.out.wroteZ X (.inr rfl) HYw.out HYn.out hc8)
              have HD8 := Lib.hid (HD7.out.chg hc8 fun _ e => HDY.out e)
              clear HP7 HD7 HY7
              generalize w7.setRow yb (r.l.map VI).toArray = w8 at *
              clear hc8
              refine hK.out _ _ (HP8.out.s Hx.out HD8.out) (fun hHeld => ?_)
              clear hK K
              try go_frame
              refine wpAnyH_take (i := 16) (oi := ⟨some 16, _, _, _, _, _⟩) (v := ?_) rfl (by kernel_rfl) (by kernel_rfl) (by kernel_rfl) (fun _ _ _ h => h) (Or.inl ⟨by rfl, ?_⟩) hHeld ?_
              rotate_left
              · intro w hSw
                go_simp
                with_reducible rfl
              try go_frame
              refine wpAnyH_done (by kernel_rfl) ?_ _
              clear hHeld
              have hcv := conv_arg (HArg.out.below HP8.out.sto.below)
              have HRr := Lib.hid (HP8.out.rwrite X HG.out hf4 do' Ho.out bs (by rw [← Hbn.out]; omega))
              rw [← He0.out] at HRr
              obtain ⟨hc0, hc1, hd0, hd1, hd2, hd3, hd4⟩ := (HP8.out.s Hx.out HD8.out).cells
              simp only at hc0 hc1 hd0 hd1 hd2 hd3 hd4
              go_wp2_with fail
              refine HRr.out.mono ?_
              rintro e w9 ⟨rfl, hP, hcg⟩
              clear hc0 hc1 hd0 hd1 hd2 hd3 hd4
              have HD := Lib.hid (HD8.out.chg hcg fun _ e => HDl.out e)
              have HY := Lib.hid (HY8.out.chg hcg fun _ e => HYl.out e)
              have HP := Lib.hid hP
              clear hP hcg HP8 HD8 HY8 HRr
              by_cases hz0 : e0 = 0
              · obtain rfl := hz0
                rw [if_pos rfl] at HP
                have HFl2 := Lib.hid (HF7.out rfl)
                have Hx2 : Hid ((l.set f r)[f]? = some r) := List.getElem?_set_self (List.getElem?_eq_some_iff.1 Hx.out).1
                obtain ⟨fs2, hfs2⟩ : ∃ fs2, fs2 = writeF fs f do' bs := ⟨_, rfl⟩
                rw [← hfs2] at HP HFl2
                clear hfs2 He0 Hz HF7
                have HTh : Hid (w9.there ib (f * 7) (r.l.map VI).toArray.size) := by
                  have h := (HP.out.ino f _ Hx.out).2
                  rw [List.length_map, l_len] at h
                  show World.there _ _ _ _
                  rw [List.size_toArray, List.length_map, l_len]
                  exact h
                have hput := HP.out.put X hf4 r
                obtain ⟨wp, hwp⟩ : ∃ W, W = w9.setCells ib (f * 7) (r.l.map VI) := ⟨_, rfl⟩
                have HQ : Hid (PlW C w wp (Lay14.mk gb ob lb ib m) (fun k => k = db ∨ k = yb) (Geo.mk gn gk) (l.set f r) fs2 bl7) := by have := hput.1; dsimp only at this; rwa [← hwp] at this
                have HDQ : Hid (Row wp db 43 [.int .i64 dw, .int .i64 df, .int .i64 do', .int .i64 dn, .slice Ab bn cb]) := by have := hput.2; dsimp only at this; rw [← hwp] at this; exact HD.out.chg this fun _ e => HDi.out e
                have Hwp := Lib.hid hwp
                clear hput hwp
                have HLf := Lib.hid (HQ.out.left X HG.out HFl2.out)
                obtain ⟨hc0, hc1, hd0, hd1, hd2, hd3, hd4⟩ := (HQ.out.s Hx2.out HDQ.out).cells
                simp only at hc0 hc1 hd0 hd1 hd2 hd3 hd4
                go_wp2_with (first | (refine wpList_load_mid rfl 40 (.tmp 15) rfl yb 0 rfl (r.l.map VI) _ HY.out.here.1 Try.underlying40 rfl (infoInoL _) ?_) | (refine wpList_store_mid rfl 40 (.tmp 217) (.tmp 216) rfl ib (f * 7) (r.l.map VI).toArray rfl rfl HTh.out (infoInoS _) (oneIn _) ?_; rw [show (List.map VI (Ino.l r)).toArray.toList = List.map VI (Ino.l r) from rfl, ← Hwp.out]))
                clear HTh Hwp HP HD HY
                refine HLf.out.mono ?_
                rintro e wl ⟨rfl, hb⟩
                clear hc0 hc1 hd0 hd1 hd2 hd3 hd4
                have HP := Lib.hid (HQ.out.below X hb)
                have HD := Lib.hid (HDQ.out.below hb HDQ.out.lt)
                clear HQ HDQ HLf hb
                have HRL : Hid (∀ W, Below wl.heap.size wl W → Calls Try.prog 20 #[.pointer (some ⟨ob, 0, none⟩)] W fun e X' => e = .returned (.int .i64 (gleft (Geo.mk gn gk) fs2)) ∧ Below W.heap.size W X') := fun W hW => (HP.out.below X hW).rleft HG.out
                have HAp : Hid (∀ W, Below wl.heap.size wl W → Calls Try.prog 21 #[.pointer (some ⟨m, 0, none⟩), .agg #[.int .i64 gn, .int .i64 gk], .slice (some ⟨ib, 0, none⟩) 4 4] W fun e X' => e = .returned (.bool true) ∧ Below W.heap.size W X') := fun W hW => (HP.out.below X hW).apart X HG.out HFl2.out 4
                have HLn : Hid ((r).b = ((strB ((fs2).getD f [])).size : Int)) := by show _ = _; rw [strB_size]; exact (HFl2.out.at_ Hx2.out).2.symm
                have HKeep : Hid (∀ W, Below wl.heap.size wl W → PlS W (Lay14.mk gb ob lb ib m) db (Geo.mk gn gk) f r fs2 dw df do' dn (.slice Ab bn cb)) := fun W hW => (HP.out.below X hW).s Hx2.out (HD.out.below hW HD.out.lt)
                go_wp2_with fail
                have hC : Below wl.heap.size wl wl.drew := below_drewN (Below.refl _ _) 1
                refine wp_region_held_drew (S := (fun W => PlS W (Lay14.mk gb ob lb ib m) db (Geo.mk gn gk) f r fs2 dw df do' dn (.slice Ab bn cb))) (by kernel_rfl) (HKeep.out _ hC) (fun hHeld => ?_)
                generalize wl.drew = wld at *
                refine wpAnyH_take (i := 0) (oi := ⟨some 225, _, _, _, _, _⟩) (v := ?_) rfl (by kernel_rfl) (by kernel_rfl) (by kernel_rfl) (fun _ _ _ h => h) (Or.inl ⟨by rfl, ?_⟩) hHeld ?_
                rotate_left
                · intro w hSw
                  go_simp
                  with_reducible rfl
                try go_frame
                refine wpAnyH_take (i := 1) (oi := ⟨some 226, _, _, _, _, _⟩) (v := ?_) rfl (by kernel_rfl) (by kernel_rfl) (by kernel_rfl) (fun _ _ _ h => h) (Or.inl ⟨by rfl, ?_⟩) hHeld ?_
                rotate_left
                · intro w hSw
                  go_simp
                  with_reducible rfl
                try go_frame
                refine wpAnyH_ready (rs := [2]) (by kernel_rfl) (by simp) ?_
                refine AllReadyH.cons (o := ⟨some 227, _, _, _, _, _⟩) rfl (fun K hK => ?_) AllReadyH.nil
                go_simp
                go_at_call 20
                refine (HRL.out wld hC).mono ?_
                rintro e wld_lf ⟨rfl, hb⟩
                replace hC := hC.trans (hb.mono hC.size)
                refine hK.out _ _ (HKeep.out _ hC) (fun hHeld => ?_)
                clear hK K hb 
                try go_frame
                refine wpAnyH_take (i := 3) (oi := ⟨some 228, _, _, _, _, _⟩) (v := ?_) rfl (by kernel_rfl) (by kernel_rfl) (by kernel_rfl) (fun _ _ _ h => h) (Or.inl ⟨by rfl, ?_⟩) hHeld ?_
                rotate_left
                · intro w hSw
                  go_simp
                  with_reducible rfl
                try go_frame
                refine wpAnyH_take (i := 4) (oi := ⟨some 229, _, _, _, _, _⟩) (v := ?_) rfl (by kernel_rfl) (by kernel_rfl) (by kernel_rfl) (fun _ _ _ h => h) (Or.inl ⟨by rfl, ?_⟩) hHeld ?_
                rotate_left
                · intro w hSw
                  go_simp
                  with_reducible rfl
                try go_frame
                refine wpAnyH_take (i := 5) (oi := ⟨some 230, _, _, _, _, _⟩) (v := ?_) rfl (by kernel_rfl) (by kernel_rfl) (by kernel_rfl) (fun _ _ _ h => h) (Or.inl ⟨by rfl, ?_⟩) hHeld ?_
                rotate_left
                · intro w hSw
                  go_simp
                  with_reducible rfl
                try go_frame
                refine wpAnyH_take (i := 6) (oi := ⟨some 231, _, _, _, _, _⟩) (v := ?_) rfl (by kernel_rfl) (by kernel_rfl) (by kernel_rfl) (fun _ _ _ h => h) (Or.inl ⟨by rfl, ?_⟩) hHeld ?_
                rotate_left
                · intro w hSw
                  go_simp
                  with_reducible rfl
                try go_frame
                refine wpAnyH_take (i := 7) (oi := ⟨some 232, _, _, _, _, _⟩) (v := ?_) rfl (by kernel_rfl) (by kernel_rfl) (by kernel_rfl) (fun _ _ _ h => h) (Or.inl ⟨by rfl, ?_⟩) hHeld ?_
                rotate_left
                · intro w hSw
                  go_simp
                  with_reducible rfl
                try go_frame
                refine wpAnyH_take (i := 8) (oi := ⟨some 233, _, _, _, _, _⟩) (v := ?_) rfl (by kernel_rfl) (by kernel_rfl) (by kernel_rfl) (fun _ _ _ h => h) (Or.inl ⟨by rfl, ?_⟩) hHeld ?_
                rotate_left
                · intro w hSw
                  go_simp
                  with_reducible rfl
                try go_frame
                refine wpAnyH_take (i := 9) (oi := ⟨some 234, _, _, _, _, _⟩) (v := ?_) rfl (by kernel_rfl) (by kernel_rfl) (by kernel_rfl) (fun _ _ _ h => h) (Or.inl ⟨by rfl, ?_⟩) hHeld ?_
                rotate_left
                · intro w hSw
                  go_simp
                  with_reducible rfl
                try go_frame
                refine wpAnyH_take (i := 10) (oi := ⟨some 235, _, _, _, _, _⟩) (v := ?_) rfl (by kernel_rfl) (by kernel_rfl) (by kernel_rfl) (fun _ _ _ h => h) (Or.inl ⟨by rfl, ?_⟩) hHeld ?_
                rotate_left
                · intro w hSw
                  go_simp
                  with_reducible rfl
                try go_frame
                refine wpAnyH_take (i := 11) (oi := ⟨some 236, _, _, _, _, _⟩) (v := ?_) rfl (by kernel_rfl) (by kernel_rfl) (by kernel_rfl) (fun _ _ _ h => h) (Or.inl ⟨by rfl, ?_⟩) hHeld ?_
                rotate_left
                · intro w hSw
                  go_simp
                  with_reducible rfl
                try go_frame
                refine wpAnyH_take (i := 12) (oi := ⟨some 237, _, _, _, _, _⟩) (v := ?_) rfl (by kernel_rfl) (by kernel_rfl) (by kernel_rfl) (fun _ _ _ h => h) (Or.inl ⟨by rfl, ?_⟩) hHeld ?_
                rotate_left
                · intro w hSw
                  go_simp
                  with_reducible rfl
                try go_frame
                refine wpAnyH_take (i := 13) (oi := ⟨some 238, _, _, _, _, _⟩) (v := ?_) rfl (by kernel_rfl) (by kernel_rfl) (by kernel_rfl) (fun _ _ _ h => h) (Or.inl ⟨by rfl, ?_⟩) hHeld ?_
                rotate_left
                · intro w hSw
                  have hc := hSw.bytes
                  (try simp only at hc)
                  go_simp
                  with_reducible rfl
                try go_frame
                refine wpAnyH_take (i := 14) (oi := ⟨some 239, _, _, _, _, _⟩) (v := ?_) rfl (by kernel_rfl) (by kernel_rfl) (by kernel_rfl) (fun _ _ _ h => h) (Or.inl ⟨by rfl, ?_⟩) hHeld ?_
                rotate_left
                · intro w hSw
                  go_simp
                  with_reducible rfl
                try go_frame
                refine wpAnyH_take (i := 15) (oi := ⟨some 240, _, _, _, _, _⟩) (v := ?_) rfl (by kernel_rfl) (by kernel_rfl) (by kernel_rfl) (fun _ _ _ h => h) (Or.inl ⟨by rfl, ?_⟩) hHeld ?_
                rotate_left
                · intro w hSw
                  go_simp
                  with_reducible rfl
                try go_frame
                refine wpAnyH_take (i := 16) (oi := ⟨some 241, _, _, _, _, _⟩) (v := ?_) rfl (by kernel_rfl) (by kernel_rfl) (by kernel_rfl) (fun _ _ _ h => h) (Or.inl ⟨by rfl, ?_⟩) hHeld ?_
                rotate_left
                · intro w hSw
                  go_simp
                  with_reducible rfl
                try go_frame
                refine wpAnyH_take (i := 17) (oi := ⟨some 242, _, _, _, _, _⟩) (v := ?_) rfl (by kernel_rfl) (by kernel_rfl) (by kernel_rfl) (fun _ _ _ h => h) (Or.inl ⟨by rfl, ?_⟩) hHeld ?_
                rotate_left
                · intro w hSw
                  have hc := hSw.row
                  simp only at hc
                  go_simp
                  with_reducible rfl
                try go_frame
                refine wpAnyH_take (i := 18) (oi := ⟨some 243, _, _, _, _, _⟩) (v := ?_) rfl (by kernel_rfl) (by kernel_rfl) (by kernel_rfl) (fun _ _ _ h => h) (Or.inl ⟨by rfl, ?_⟩) hHeld ?_
                rotate_left
                · intro w hSw
                  go_simp
                  with_reducible rfl
                try go_frame
                refine wpAnyH_take (i := 19) (oi := ⟨some 244, _, _, _, _, _⟩) (v := ?_) rfl (by kernel_rfl) (by kernel_rfl) (by kernel_rfl) (fun _ _ _ h => h) (Or.inl ⟨by rfl, ?_⟩) hHeld ?_
                rotate_left
                · intro w hSw
                  go_simp
                  with_reducible rfl
                try go_frame
                refine wpAnyH_take (i := 20) (oi := ⟨some 245, _, _, _, _, _⟩) (v := ?_) rfl (by kernel_rfl) (by kernel_rfl) (by kernel_rfl) (fun _ _ _ h => h) (Or.inl ⟨by rfl, ?_⟩) hHeld ?_
                rotate_left
                · intro w hSw
                  have hc := hSw.fl.cell f hf4
                  simp only at hc
                  go_simp
                  with_reducible rfl
                try go_frame
                refine wpAnyH_take (i := 21) (oi := ⟨some 246, _, _, _, _, _⟩) (v := ?_) rfl (by kernel_rfl) (by kernel_rfl) (by kernel_rfl) (fun _ _ _ h => h) (Or.inl ⟨by rfl, ?_⟩) hHeld ?_
                rotate_left
                · intro w hSw
                  go_simp
                  with_reducible rfl
                try go_frame
                refine wpAnyH_take (i := 22) (oi := ⟨some 247, _, _, _, _, _⟩) (v := ?_) rfl (by kernel_rfl) (by kernel_rfl) (by kernel_rfl) (fun _ _ _ h => h) (Or.inl ⟨by rfl, ?_⟩) hHeld ?_
                rotate_left
                · intro w hSw
                  have hq := HLn.out
                  (try simp only at hq)
                  go_simp
                  with_reducible rfl
                try go_frame
                refine wpAnyH_take (i := 23) (oi := ⟨some 248, _, _, _, _, _⟩) (v := ?_) rfl (by kernel_rfl) (by kernel_rfl) (by kernel_rfl) (fun _ _ _ h => h) (Or.inl ⟨by rfl, ?_⟩) hHeld ?_
                rotate_left
                · intro w hSw
                  go_simp
                  with_reducible rfl
                try go_frame
                refine wpAnyH_take (i := 24) (oi := ⟨some 249, _, _, _, _, _⟩) (v := ?_) rfl (by kernel_rfl) (by kernel_rfl) (by kernel_rfl) (fun _ _ _ h => h) (Or.inl ⟨by rfl, ?_⟩) hHeld ?_
                rotate_left
                · intro w hSw
                  go_simp
                  with_reducible rfl
                try go_frame
                refine wpAnyH_take (i := 25) (oi := ⟨some 250, _, _, _, _, _⟩) (v := ?_) rfl (by kernel_rfl) (by kernel_rfl) (by kernel_rfl) (fun _ _ _ h => h) (Or.inl ⟨by rfl, ?_⟩) hHeld ?_
                rotate_left
                · intro w hSw
                  go_simp
                  with_reducible rfl
                try go_frame
                refine wpAnyH_take (i := 26) (oi := ⟨some 251, _, _, _, _, _⟩) (v := ?_) rfl (by kernel_rfl) (by kernel_rfl) (by kernel_rfl) (fun _ _ _ h => h) (Or.inl ⟨by rfl, ?_⟩) hHeld ?_
                rotate_left
                · intro w hSw
                  obtain ⟨hc0, hc1, hd0, hd1, hd2, hd3, hd4⟩ := hSw.cells
                  simp only at hc0 hc1 hd0 hd1 hd2 hd3 hd4
                  go_simp
                  with_reducible rfl
                try go_frame
                refine wpAnyH_take (i := 27) (oi := ⟨some 252, _, _, _, _, _⟩) (v := ?_) rfl (by kernel_rfl) (by kernel_rfl) (by kernel_rfl) (fun _ _ _ h => h) (Or.inl ⟨by rfl, ?_⟩) hHeld ?_
                rotate_left
                · intro w hSw
                  go_simp
                  with_reducible rfl
                try go_frame
                refine wpAnyH_ready (rs := [28]) (by kernel_rfl) (by simp) ?_
                refine AllReadyH.cons (o := ⟨some 253, _, _, _, _, _⟩) rfl (fun K hK => ?_) AllReadyH.nil
                go_simp
                go_at_call 21
                refine (HAp.out wld_lf hC).mono ?_
                rintro e wld_lf_ap ⟨rfl, hb⟩
                replace hC := hC.trans (hb.mono hC.size)
                refine hK.out _ _ (HKeep.out _ hC) (fun hHeld => ?_)
                clear hK K hb 
                try go_frame
                refine wpAnyH_take (i := 29) (oi := ⟨some 254, _, _, _, _, _⟩) (v := ?_) rfl (by kernel_rfl) (by kernel_rfl) (by kernel_rfl) (fun _ _ _ h => h) (Or.inl ⟨by rfl, ?_⟩) hHeld ?_
                rotate_left
                · intro w hSw
                  go_simp
                  with_reducible rfl
                try go_frame
                refine wpAnyH_take (i := 30) (oi := ⟨some 255, _, _, _, _, _⟩) (v := ?_) rfl (by kernel_rfl) (by kernel_rfl) (by kernel_rfl) (fun _ _ _ h => h) (Or.inl ⟨by rfl, ?_⟩) hHeld ?_
                rotate_left
                · intro w hSw
                  go_simp
                  with_reducible rfl
                try go_frame
                refine wpAnyH_done (by kernel_rfl) ?_ _
                have HPe := Lib.hid ((HP.out.below X hC).also X (Below.refl _ _) (fun _ => False) (fun _ h => h.elim))
                clear hHeld HKeep hC HP HD HRL HAp HLn
                generalize wld_lf_ap = wz at *
                go_wp2
                go_roundw
                case rel => exact ⟨k + 1, (l.set f r), fs2, bl7, by omega, by go_num, HPe, HFl2⟩
                case measure => simp [intOf]; omega
              · rw [if_neg hz0] at HP
                have hz1 : (e0 == 0) = false := by simpa using hz0
                have hz2 : (e0 != 0) = true := by simpa using hz0
                have hz3 : (e0 != e0) = false := by simp
                obtain rfl := Hz.out hz0
                have HFl2 := HFl
                have Hx2 := Hx
                clear He0 Hz HF7 HY
                have HQ : Hid (PlW C w w9 (Lay14.mk gb ob lb ib m) (fun k => k = db ∨ k = yb) (Geo.mk gn gk) l fs bl7) := HP.out
                have HDQ := HD
                have HLf := Lib.hid (HQ.out.left X HG.out HFl2.out)
                obtain ⟨hc0, hc1, hd0, hd1, hd2, hd3, hd4⟩ := (HQ.out.s Hx2.out HDQ.out).cells
                simp only at hc0 hc1 hd0 hd1 hd2 hd3 hd4
                clear HP HD
                go_wp2_with fail
                refine HLf.out.mono ?_
                rintro e wl ⟨rfl, hb⟩
                clear hc0 hc1 hd0 hd1 hd2 hd3 hd4
                have HP := Lib.hid (HQ.out.below X hb)
                have HD := Lib.hid (HDQ.out.below hb HDQ.out.lt)
                clear HQ HDQ HLf hb
                have HRL : Hid (∀ W, Below wl.heap.size wl W → Calls Try.prog 20 #[.pointer (some ⟨ob, 0, none⟩)] W fun e X' => e = .returned (.int .i64 (gleft (Geo.mk gn gk) fs)) ∧ Below W.heap.size W X') := fun W hW => (HP.out.below X hW).rleft HG.out
                have HAp : Hid (∀ W, Below wl.heap.size wl W → Calls Try.prog 21 #[.pointer (some ⟨m, 0, none⟩), .agg #[.int .i64 gn, .int .i64 gk], .slice (some ⟨ib, 0, none⟩) 4 4] W fun e X' => e = .returned (.bool true) ∧ Below W.heap.size W X') := fun W hW => (HP.out.below X hW).apart X HG.out HFl2.out 4
                have HLn : Hid (((Ino.mk xk xb x0 x1 x2 x3 xd)).b = ((strB ((fs).getD f [])).size : Int)) := by show _ = _; rw [strB_size]; exact (HFl2.out.at_ Hx2.out).2.symm
                have HKeep : Hid (∀ W, Below wl.heap.size wl W → PlS W (Lay14.mk gb ob lb ib m) db (Geo.mk gn gk) f (Ino.mk xk xb x0 x1 x2 x3 xd) fs dw df do' dn (.slice Ab bn cb)) := fun W hW => (HP.out.below X hW).s Hx2.out (HD.out.below hW HD.out.lt)
                go_wp2_with fail
                have hC : Below wl.heap.size wl wl.drew := below_drewN (Below.refl _ _) 1
                refine wp_region_held_drew (S := (fun W => PlS W (Lay14.mk gb ob lb ib m) db (Geo.mk gn gk) f (Ino.mk xk xb x0 x1 x2 x3 xd) fs dw df do' dn (.slice Ab bn cb))) (by kernel_rfl) (HKeep.out _ hC) (fun hHeld => ?_)
                generalize wl.drew = wld at *
                refine wpAnyH_take (i := 0) (oi := ⟨some 225, _, _, _, _, _⟩) (v := ?_) rfl (by kernel_rfl) (by kernel_rfl) (by kernel_rfl) (fun _ _ _ h => h) (Or.inl ⟨by rfl, ?_⟩) hHeld ?_
                rotate_left
                · intro w hSw
                  go_simp
                  with_reducible rfl
                try go_frame
                refine wpAnyH_take (i := 1) (oi := ⟨some 226, _, _, _, _, _⟩) (v := ?_) rfl (by kernel_rfl) (by kernel_rfl) (by kernel_rfl) (fun _ _ _ h => h) (Or.inl ⟨by rfl, ?_⟩) hHeld ?_
                rotate_left
                · intro w hSw
                  go_simp
                  with_reducible rfl
                try go_frame
                refine wpAnyH_ready (rs := [2]) (by kernel_rfl) (by simp) ?_
                refine AllReadyH.cons (o := ⟨some 227, _, _, _, _, _⟩) rfl (fun K hK => ?_) AllReadyH.nil
                go_simp
                go_at_call 20
                refine (HRL.out wld hC).mono ?_
                rintro e wld_lf ⟨rfl, hb⟩
                replace hC := hC.trans (hb.mono hC.size)
                refine hK.out _ _ (HKeep.out _ hC) (fun hHeld => ?_)
                clear hK K hb 
                try go_frame
                refine wpAnyH_take (i := 3) (oi := ⟨some 228, _, _, _, _, _⟩) (v := ?_) rfl (by kernel_rfl) (by kernel_rfl) (by kernel_rfl) (fun _ _ _ h => h) (Or.inl ⟨by rfl, ?_⟩) hHeld ?_
                rotate_left
                · intro w hSw
                  go_simp
                  with_reducible rfl
                try go_frame
                refine wpAnyH_take (i := 4) (oi := ⟨some 229, _, _, _, _, _⟩) (v := ?_) rfl (by kernel_rfl) (by kernel_rfl) (by kernel_rfl) (fun _ _ _ h => h) (Or.inl ⟨by rfl, ?_⟩) hHeld ?_
                rotate_left
                · intro w hSw
                  go_simp
                  with_reducible rfl
                try go_frame
                refine wpAnyH_take (i := 5) (oi := ⟨some 230, _, _, _, _, _⟩) (v := ?_) rfl (by kernel_rfl) (by kernel_rfl) (by kernel_rfl) (fun _ _ _ h => h) (Or.inl ⟨by rfl, ?_⟩) hHeld ?_
                rotate_left
                · intro w hSw
                  go_simp
                  with_reducible rfl
                try go_frame
                refine wpAnyH_take (i := 6) (oi := ⟨some 231, _, _, _, _, _⟩) (v := ?_) rfl (by kernel_rfl) (by kernel_rfl) (by kernel_rfl) (fun _ _ _ h => h) (Or.inl ⟨by rfl, ?_⟩) hHeld ?_
                rotate_left
                · intro w hSw
                  go_simp
                  with_reducible rfl
                try go_frame
                refine wpAnyH_take (i := 7) (oi := ⟨some 232, _, _, _, _, _⟩) (v := ?_) rfl (by kernel_rfl) (by kernel_rfl) (by kernel_rfl) (fun _ _ _ h => h) (Or.inl ⟨by rfl, ?_⟩) hHeld ?_
                rotate_left
                · intro w hSw
                  go_simp
                  with_reducible rfl
                try go_frame
                refine wpAnyH_take (i := 8) (oi := ⟨some 233, _, _, _, _, _⟩) (v := ?_) rfl (by kernel_rfl) (by kernel_rfl) (by kernel_rfl) (fun _ _ _ h => h) (Or.inl ⟨by rfl, ?_⟩) hHeld ?_
                rotate_left
                · intro w hSw
                  go_simp
                  with_reducible rfl
                try go_frame
                refine wpAnyH_take (i := 9) (oi := ⟨some 234, _, _, _, _, _⟩) (v := ?_) rfl (by kernel_rfl) (by kernel_rfl) (by kernel_rfl) (fun _ _ _ h => h) (Or.inl ⟨by rfl, ?_⟩) hHeld ?_
                rotate_left
                · intro w hSw
                  go_simp
                  with_reducible rfl
                try go_frame
                refine wpAnyH_take (i := 10) (oi := ⟨some 235, _, _, _, _, _⟩) (v := ?_) rfl (by kernel_rfl) (by kernel_rfl) (by kernel_rfl) (fun _ _ _ h => h) (Or.inl ⟨by rfl, ?_⟩) hHeld ?_
                rotate_left
                · intro w hSw
                  go_simp
                  with_reducible rfl
                try go_frame
                refine wpAnyH_take (i := 11) (oi := ⟨some 236, _, _, _, _, _⟩) (v := ?_) rfl (by kernel_rfl) (by kernel_rfl) (by kernel_rfl) (fun _ _ _ h => h) (Or.inl ⟨by rfl, ?_⟩) hHeld ?_
                rotate_left
                · intro w hSw
                  go_simp
                  with_reducible rfl
                try go_frame
                refine wpAnyH_take (i := 12) (oi := ⟨some 237, _, _, _, _, _⟩) (v := ?_) rfl (by kernel_rfl) (by kernel_rfl) (by kernel_rfl) (fun _ _ _ h => h) (Or.inl ⟨by rfl, ?_⟩) hHeld ?_
                rotate_left
                · intro w hSw
                  go_simp
                  with_reducible rfl
                try go_frame
                refine wpAnyH_take (i := 13) (oi := ⟨some 238, _, _, _, _, _⟩) (v := ?_) rfl (by kernel_rfl) (by kernel_rfl) (by kernel_rfl) (fun _ _ _ h => h) (Or.inl ⟨by rfl, ?_⟩) hHeld ?_
                rotate_left
                · intro w hSw
                  have hc := hSw.bytes
                  (try simp only at hc)
                  go_simp
                  with_reducible rfl
                try go_frame
                refine wpAnyH_take (i := 14) (oi := ⟨some 239, _, _, _, _, _⟩) (v := ?_) rfl (by kernel_rfl) (by kernel_rfl) (by kernel_rfl) (fun _ _ _ h => h) (Or.inl ⟨by rfl, ?_⟩) hHeld ?_
                rotate_left
                · intro w hSw
                  go_simp
                  with_reducible rfl
                try go_frame
                refine wpAnyH_take (i := 15) (oi := ⟨some 240, _, _, _, _, _⟩) (v := ?_) rfl (by kernel_rfl) (by kernel_rfl) (by kernel_rfl) (fun _ _ _ h => h) (Or.inl ⟨by rfl, ?_⟩) hHeld ?_
                rotate_left
                · intro w hSw
                  go_simp
                  with_reducible rfl
                try go_frame
                refine wpAnyH_take (i := 16) (oi := ⟨some 241, _, _, _, _, _⟩) (v := ?_) rfl (by kernel_rfl) (by kernel_rfl) (by kernel_rfl) (fun _ _ _ h => h) (Or.inl ⟨by rfl, ?_⟩) hHeld ?_
                rotate_left
                · intro w hSw
                  go_simp
                  with_reducible rfl
                try go_frame
                refine wpAnyH_take (i := 17) (oi := ⟨some 242, _, _, _, _, _⟩) (v := ?_) rfl (by kernel_rfl) (by kernel_rfl) (by kernel_rfl) (fun _ _ _ h => h) (Or.inl ⟨by rfl, ?_⟩) hHeld ?_
                rotate_left
                · intro w hSw
                  have hc := hSw.row
                  simp only at hc
                  go_simp
                  with_reducible rfl
                try go_frame
                refine wpAnyH_take (i := 18) (oi := ⟨some 243, _, _, _, _, _⟩) (v := ?_) rfl (by kernel_rfl) (by kernel_rfl) (by kernel_rfl) (fun _ _ _ h => h) (Or.inl ⟨by rfl, ?_⟩) hHeld ?_
                rotate_left
                · intro w hSw
                  go_simp
                  with_reducible rfl
                try go_frame
                refine wpAnyH_take (i := 19) (oi := ⟨some 244, _, _, _, _, _⟩) (v := ?_) rfl (by kernel_rfl) (by kernel_rfl) (by kernel_rfl) (fun _ _ _ h => h) (Or.inl ⟨by rfl, ?_⟩) hHeld ?_
                rotate_left
                · intro w hSw
                  go_simp
                  with_reducible rfl
                try go_frame
                refine wpAnyH_take (i := 20) (oi := ⟨some 245, _, _, _, _, _⟩) (v := ?_) rfl (by kernel_rfl) (by kernel_rfl) (by kernel_rfl) (fun _ _ _ h => h) (Or.inl ⟨by rfl, ?_⟩) hHeld ?_
                rotate_left
                · intro w hSw
                  have hc := hSw.fl.cell f hf4
                  simp only at hc
                  go_simp
                  with_reducible rfl
                try go_frame
                refine wpAnyH_take (i := 21) (oi := ⟨some 246, _, _, _, _, _⟩) (v := ?_) rfl (by kernel_rfl) (by kernel_rfl) (by kernel_rfl) (fun _ _ _ h => h) (Or.inl ⟨by rfl, ?_⟩) hHeld ?_
                rotate_left
                · intro w hSw
                  go_simp
                  with_reducible rfl
                try go_frame
                refine wpAnyH_take (i := 22) (oi := ⟨some 247, _, _, _, _, _⟩) (v := ?_) rfl (by kernel_rfl) (by kernel_rfl) (by kernel_rfl) (fun _ _ _ h => h) (Or.inl ⟨by rfl, ?_⟩) hHeld ?_
                rotate_left
                · intro w hSw
                  have hq := HLn.out
                  (try simp only at hq)
                  go_simp
                  with_reducible rfl
                try go_frame
                refine wpAnyH_take (i := 23) (oi := ⟨some 248, _, _, _, _, _⟩) (v := ?_) rfl (by kernel_rfl) (by kernel_rfl) (by kernel_rfl) (fun _ _ _ h => h) (Or.inl ⟨by rfl, ?_⟩) hHeld ?_
                rotate_left
                · intro w hSw
                  go_simp
                  with_reducible rfl
                try go_frame
                refine wpAnyH_take (i := 24) (oi := ⟨some 249, _, _, _, _, _⟩) (v := ?_) rfl (by kernel_rfl) (by kernel_rfl) (by kernel_rfl) (fun _ _ _ h => h) (Or.inl ⟨by rfl, ?_⟩) hHeld ?_
                rotate_left
                · intro w hSw
                  go_simp
                  with_reducible rfl
                try go_frame
                refine wpAnyH_take (i := 25) (oi := ⟨some 250, _, _, _, _, _⟩) (v := ?_) rfl (by kernel_rfl) (by kernel_rfl) (by kernel_rfl) (fun _ _ _ h => h) (Or.inl ⟨by rfl, ?_⟩) hHeld ?_
                rotate_left
                · intro w hSw
                  go_simp
                  with_reducible rfl
                try go_frame
                refine wpAnyH_take (i := 26) (oi := ⟨some 251, _, _, _, _, _⟩) (v := ?_) rfl (by kernel_rfl) (by kernel_rfl) (by kernel_rfl) (fun _ _ _ h => h) (Or.inl ⟨by rfl, ?_⟩) hHeld ?_
                rotate_left
                · intro w hSw
                  obtain ⟨hc0, hc1, hd0, hd1, hd2, hd3, hd4⟩ := hSw.cells
                  simp only at hc0 hc1 hd0 hd1 hd2 hd3 hd4
                  go_simp
                  with_reducible rfl
                try go_frame
                refine wpAnyH_take (i := 27) (oi := ⟨some 252, _, _, _, _, _⟩) (v := ?_) rfl (by kernel_rfl) (by kernel_rfl) (by kernel_rfl) (fun _ _ _ h => h) (Or.inl ⟨by rfl, ?_⟩) hHeld ?_
                rotate_left
                · intro w hSw
                  go_simp
                  with_reducible rfl
                try go_frame
                refine wpAnyH_ready (rs := [28]) (by kernel_rfl) (by simp) ?_
                refine AllReadyH.cons (o := ⟨some 253, _, _, _, _, _⟩) rfl (fun K hK => ?_) AllReadyH.nil
                go_simp
                go_at_call 21
                refine (HAp.out wld_lf hC).mono ?_
                rintro e wld_lf_ap ⟨rfl, hb⟩
                replace hC := hC.trans (hb.mono hC.size)
                refine hK.out _ _ (HKeep.out _ hC) (fun hHeld => ?_)
                clear hK K hb 
                try go_frame
                refine wpAnyH_take (i := 29) (oi := ⟨some 254, _, _, _, _, _⟩) (v := ?_) rfl (by kernel_rfl) (by kernel_rfl) (by kernel_rfl) (fun _ _ _ h => h) (Or.inl ⟨by rfl, ?_⟩) hHeld ?_
                rotate_left
                · intro w hSw
                  go_simp
                  with_reducible rfl
                try go_frame
                refine wpAnyH_take (i := 30) (oi := ⟨some 255, _, _, _, _, _⟩) (v := ?_) rfl (by kernel_rfl) (by kernel_rfl) (by kernel_rfl) (fun _ _ _ h => h) (Or.inl ⟨by rfl, ?_⟩) hHeld ?_
                rotate_left
                · intro w hSw
                  go_simp
                  with_reducible rfl
                try go_frame
                refine wpAnyH_done (by kernel_rfl) ?_ _
                have HPe := Lib.hid ((HP.out.below X hC).also X (Below.refl _ _) (fun _ => False) (fun _ h => h.elim))
                clear hHeld HKeep hC HP HD HRL HAp HLn
                generalize wld_lf_ap = wz at *
                go_wp2
                go_roundw
                case rel => exact ⟨k + 1, l, fs, bl7, by omega, by go_num, HPe, HFl2⟩
                case measure => simp [intOf]; omega
          · as_aux_lemma =>
              have HPd : Hid (PlW C w w6.drew (Lay14.mk gb ob lb ib m) (fun k => k = db ∨ k = yb) (Geo.mk gn gk) l fs bl) := HP6.out.below X (below_drewN (Below.refl _ w6) 1)
              have HDd : Hid (Row w6.drew db 43 [.int .i64 dw, .int .i64 df, .int .i64 do', .int .i64 dn, .slice Ab bn cb]) := HD6.out
              have HYd : Hid (Row w6.drew yb 40 [.int .i64 xk, .int .i64 xb, .int .i64 x0, .int .i64 x1, .int .i64 x2, .int .i64 x3, .int .i64 xd]) := HY6.out
              clear HP6 HD6 HY6
              have HCall := Lib.hid (HPd.out.resize X HG.out HFl.out Hx.out 0 H0.out)
              obtain ⟨e0, he0⟩ : ∃ e, e = resizeE (Geo.mk gn gk) fs f 0 := ⟨_, rfl⟩
              rw [← he0] at HCall
              have He0 := Lib.hid he0
              clear he0
              go_wp2_with fail
              refine wp_region_held_drew (S := (fun W => PlS W (Lay14.mk gb ob lb ib m) db (Geo.mk gn gk) f (Ino.mk xk xb x0 x1 x2 x3 xd) fs dw df do' dn (.slice Ab bn cb))) (by kernel_rfl) (HPd.out.s Hx.out HDd.out) (fun hHeld => ?_)
              generalize w6.drew = wd at *
              refine wpAnyH_take (i := 0) (oi := ⟨some 196, _, _, _, _, _⟩) (v := ?_) rfl (by kernel_rfl) (by kernel_rfl) (by kernel_rfl) (fun _ _ _ h => h) (Or.inl ⟨by rfl, ?_⟩) hHeld ?_
              rotate_left
              · intro w hSw
                go_simp
                with_reducible rfl
              try go_frame
              refine wpAnyH_take (i := 1) (oi := ⟨some 197, _, _, _, _, _⟩) (v := ?_) rfl (by kernel_rfl) (by kernel_rfl) (by kernel_rfl) (fun _ _ _ h => h) (Or.inl ⟨by rfl, ?_⟩) hHeld ?_
              rotate_left
              · intro w hSw
                go_simp
                with_reducible rfl
              try go_frame
              refine wpAnyH_take (i := 2) (oi := ⟨some 198, _, _, _, _, _⟩) (v := ?_) rfl (by kernel_rfl) (by kernel_rfl) (by kernel_rfl) (fun _ _ _ h => h) (Or.inl ⟨by rfl, ?_⟩) hHeld ?_
              rotate_left
              · intro w hSw
                obtain ⟨hc0, hc1, hd0, hd1, hd2, hd3, hd4⟩ := hSw.cells
                simp only at hc0 hc1 hd0 hd1 hd2 hd3 hd4
                go_simp
                with_reducible rfl
              try go_frame
              refine wpAnyH_take (i := 3) (oi := ⟨some 199, _, _, _, _, _⟩) (v := ?_) rfl (by kernel_rfl) (by kernel_rfl) (by kernel_rfl) (fun _ _ _ h => h) (Or.inl ⟨by rfl, ?_⟩) hHeld ?_
              rotate_left
              · intro w hSw
                go_simp
                with_reducible rfl
              try go_frame
              refine wpAnyH_take (i := 4) (oi := ⟨some 200, _, _, _, _, _⟩) (v := ?_) rfl (by kernel_rfl) (by kernel_rfl) (by kernel_rfl) (fun _ _ _ h => h) (Or.inl ⟨by rfl, ?_⟩) hHeld ?_
              rotate_left
              · intro w hSw
                go_simp
                with_reducible rfl
              try go_frame
              refine wpAnyH_take (i := 5) (oi := ⟨some 201, _, _, _, _, _⟩) (v := ?_) rfl (by kernel_rfl) (by kernel_rfl) (by kernel_rfl) (fun _ _ _ h => h) (Or.inl ⟨by rfl, ?_⟩) hHeld ?_
              rotate_left
              · intro w hSw
                go_simp
                with_reducible rfl
              try go_frame
              refine wpAnyH_take (i := 6) (oi := ⟨some 202, _, _, _, _, _⟩) (v := .agg ([.int .i64 xk, .int .i64 xb, .int .i64 x0, .int .i64 x1, .int .i64 x2, .int .i64 x3, .int .i64 xd]).toArray) rfl (by kernel_rfl) (by kernel_rfl) (by kernel_rfl) (fun _ _ _ h => h) (yieldsIf_load_mid (by rfl) 40 (.tmp 201) rfl ib (f * 7) rfl ([.int .i64 xk, .int .i64 xb, .int .i64 x0, .int .i64 x1, .int .i64 x2, .int .i64 x3, .int .i64 xd]) _ (fun W h => h.ino) Try.underlying40 rfl infoIno) hHeld ?_
              try go_frame
              refine wpAnyH_ready (rs := [7]) (by kernel_rfl) (by simp) ?_
              refine AllReadyH.cons (o := ⟨some 203, _, _, _, _, _⟩) rfl (fun K hK => ?_) AllReadyH.nil
              go_simp
              go_at_call 13
              refine HCall.out.mono ?_
              rintro e w7 ⟨r, bl7, rfl, hz, hF7, hP, hcg⟩
              have HD7 := Lib.hid (PlW.rowZ hcg HDd.out (.inl rfl))
              have HY7 := Lib.hid (PlW.rowZ hcg HYd.out (.inr rfl))
              have HP7 := Lib.hid hP
              have Hz := Lib.hid hz
              have HF7 := Lib.hid hF7
              clear hcg hP hz hF7 HPd HDd HYd HCall
              refine hK.out _ _ (HP7.out.s Hx.out HD7.out) (fun hHeld => ?_)
              clear hK K
              try go_frame
              refine wpAnyH_take (i := 8) (oi := ⟨some 195, _, _, _, _, _⟩) (v := ?_) rfl (by kernel_rfl) (by kernel_rfl) (by kernel_rfl) (fun _ _ _ h => h) (Or.inl ⟨by rfl, ?_⟩) hHeld ?_
              rotate_left
              · intro w hSw
                go_simp
                with_reducible rfl
              try go_frame
              refine wpAnyH_take (i := 9) (oi := ⟨some 204, _, _, _, _, _⟩) (v := ?_) rfl (by kernel_rfl) (by kernel_rfl) (by kernel_rfl) (fun _ _ _ h => h) (Or.inl ⟨by rfl, ?_⟩) hHeld ?_
              rotate_left
              · intro w hSw
                go_simp
                with_reducible rfl
              try go_frame
              refine wpAnyH_take (i := 10) (oi := ⟨some 205, _, _, _, _, _⟩) (v := ?_) rfl (by kernel_rfl) (by kernel_rfl) (by kernel_rfl) (fun _ _ _ h => h) (Or.inl ⟨by rfl, ?_⟩) hHeld ?_
              rotate_left
              · intro w hSw
                go_simp
                with_reducible rfl
              try go_frame
              refine wpAnyH_ready (rs := [11]) (by kernel_rfl) (by simp) ?_
              refine AllReadyH.cons (o := ⟨none, _, _, _, _, _⟩) rfl (fun K hK => ?_) AllReadyH.nil
              rw [if_pos (by rfl)]
              refine Go.wp_store_row 40 (.tmp 15) (.tmp 204) rfl yb (r.l.map VI).toArray rfl rfl 40 _ HY7.out (infoInoS r) (by simp [l_len]) (oneIn r.l) ?_
              have HY8 := Lib.hid (HY7.out.whole (r.l.map VI))
              have hc8 : Chg (fun k _ => k = yb) w7 (w7.setRow yb (r.l.map VI).toArray) := chg_row (by_setRow (by_refl w7 (some yb)) (.inl rfl) _) HY7.out HY8.out (by simp [l_len])
              have HP8 := Lib.hid (HP7.out.wroteZ X (.inr rfl) HYw.out HYn.out hc8)
              have HD8 := Lib.hid (HD7.out.chg hc8 fun _ e => HDY.out e)
              clear HP7 HD7 HY7
              generalize w7.setRow yb (r.l.map VI).toArray = w8 at *
              clear hc8
              refine hK.out _ _ (HP8.out.s Hx.out HD8.out) (fun hHeld => ?_)
              clear hK K
              try go_frame
              refine wpAnyH_take (i := 12) (oi := ⟨some 16, _, _, _, _, _⟩) (v := ?_) rfl (by kernel_rfl) (by kernel_rfl) (by kernel_rfl) (fun _ _ _ h => h) (Or.inl ⟨by rfl, ?_⟩) hHeld ?_
              rotate_left
              · intro w hSw
                go_simp
                with_reducible rfl
              try go_frame
              refine wpAnyH_done (by kernel_rfl) ?_ _
              clear hHeld
              have HRr := Lib.hid (HP8.out.rresize X HG.out hf4 0 H0.out)
              rw [← He0.out] at HRr
              obtain ⟨hc0, hc1, hd0, hd1, hd2, hd3, hd4⟩ := (HP8.out.s Hx.out HD8.out).cells
              simp only at hc0 hc1 hd0 hd1 hd2 hd3 hd4
              go_wp2_with fail
              refine HRr.out.mono ?_
              rintro e w9 ⟨rfl, hP, hcg⟩
              clear hc0 hc1 hd0 hd1 hd2 hd3 hd4
              have HD := Lib.hid (HD8.out.chg hcg fun _ e => HDl.out e)
              have HY := Lib.hid (HY8.out.chg hcg fun _ e => HYl.out e)
              have HP := Lib.hid hP
              clear hP hcg HP8 HD8 HY8 HRr
              by_cases hz0 : e0 = 0
              · obtain rfl := hz0
                rw [if_pos rfl] at HP
                have HFl2 := Lib.hid (HF7.out rfl)
                have Hx2 : Hid ((l.set f r)[f]? = some r) := List.getElem?_set_self (List.getElem?_eq_some_iff.1 Hx.out).1
                obtain ⟨fs2, hfs2⟩ : ∃ fs2, fs2 = resizeF fs f 0 := ⟨_, rfl⟩
                rw [← hfs2] at HP HFl2
                clear hfs2 He0 Hz HF7
                have HTh : Hid (w9.there ib (f * 7) (r.l.map VI).toArray.size) := by
                  have h := (HP.out.ino f _ Hx.out).2
                  rw [List.length_map, l_len] at h
                  show World.there _ _ _ _
                  rw [List.size_toArray, List.length_map, l_len]
                  exact h
                have hput := HP.out.put X hf4 r
                obtain ⟨wp, hwp⟩ : ∃ W, W = w9.setCells ib (f * 7) (r.l.map VI) := ⟨_, rfl⟩
                have HQ : Hid (PlW C w wp (Lay14.mk gb ob lb ib m) (fun k => k = db ∨ k = yb) (Geo.mk gn gk) (l.set f r) fs2 bl7) := by have := hput.1; dsimp only at this; rwa [← hwp] at this
                have HDQ : Hid (Row wp db 43 [.int .i64 dw, .int .i64 df, .int .i64 do', .int .i64 dn, .slice Ab bn cb]) := by have := hput.2; dsimp only at this; rw [← hwp] at this; exact HD.out.chg this fun _ e => HDi.out e
                have Hwp := Lib.hid hwp
                clear hput hwp
                have HLf := Lib.hid (HQ.out.left X HG.out HFl2.out)
                obtain ⟨hc0, hc1, hd0, hd1, hd2, hd3, hd4⟩ := (HQ.out.s Hx2.out HDQ.out).cells
                simp only at hc0 hc1 hd0 hd1 hd2 hd3 hd4
                go_wp2_with (first | (refine wpList_load_mid rfl 40 (.tmp 15) rfl yb 0 rfl (r.l.map VI) _ HY.out.here.1 Try.underlying40 rfl (infoInoL _) ?_) | (refine wpList_store_mid rfl 40 (.tmp 217) (.tmp 216) rfl ib (f * 7) (r.l.map VI).toArray rfl rfl HTh.out (infoInoS _) (oneIn _) ?_; rw [show (List.map VI (Ino.l r)).toArray.toList = List.map VI (Ino.l r) from rfl, ← Hwp.out]))
                clear HTh Hwp HP HD HY
                refine HLf.out.mono ?_
                rintro e wl ⟨rfl, hb⟩
                clear hc0 hc1 hd0 hd1 hd2 hd3 hd4
                have HP := Lib.hid (HQ.out.below X hb)
                have HD := Lib.hid (HDQ.out.below hb HDQ.out.lt)
                clear HQ HDQ HLf hb
                have HRL : Hid (∀ W, Below wl.heap.size wl W → Calls Try.prog 20 #[.pointer (some ⟨ob, 0, none⟩)] W fun e X' => e = .returned (.int .i64 (gleft (Geo.mk gn gk) fs2)) ∧ Below W.heap.size W X') := fun W hW => (HP.out.below X hW).rleft HG.out
                have HAp : Hid (∀ W, Below wl.heap.size wl W → Calls Try.prog 21 #[.pointer (some ⟨m, 0, none⟩), .agg #[.int .i64 gn, .int .i64 gk], .slice (some ⟨ib, 0, none⟩) 4 4] W fun e X' => e = .returned (.bool true) ∧ Below W.heap.size W X') := fun W hW => (HP.out.below X hW).apart X HG.out HFl2.out 4
                have HLn : Hid ((r).b = ((strB ((fs2).getD f [])).size : Int)) := by show _ = _; rw [strB_size]; exact (HFl2.out.at_ Hx2.out).2.symm
                have HKeep : Hid (∀ W, Below wl.heap.size wl W → PlS W (Lay14.mk gb ob lb ib m) db (Geo.mk gn gk) f r fs2 dw df do' dn (.slice Ab bn cb)) := fun W hW => (HP.out.below X hW).s Hx2.out (HD.out.below hW HD.out.lt)
                go_wp2_with fail
                have hC : Below wl.heap.size wl wl.drew := below_drewN (Below.refl _ _) 1
                refine wp_region_held_drew (S := (fun W => PlS W (Lay14.mk gb ob lb ib m) db (Geo.mk gn gk) f r fs2 dw df do' dn (.slice Ab bn cb))) (by kernel_rfl) (HKeep.out _ hC) (fun hHeld => ?_)
                generalize wl.drew = wld at *
                refine wpAnyH_take (i := 0) (oi := ⟨some 225, _, _, _, _, _⟩) (v := ?_) rfl (by kernel_rfl) (by kernel_rfl) (by kernel_rfl) (fun _ _ _ h => h) (Or.inl ⟨by rfl, ?_⟩) hHeld ?_
                rotate_left
                · intro w hSw
                  go_simp
                  with_reducible rfl
                try go_frame
                refine wpAnyH_take (i := 1) (oi := ⟨some 226, _, _, _, _, _⟩) (v := ?_) rfl (by kernel_rfl) (by kernel_rfl) (by kernel_rfl) (fun _ _ _ h => h) (Or.inl ⟨by rfl, ?_⟩) hHeld ?_
                rotate_left
                · intro w hSw
                  go_simp
                  with_reducible rfl
                try go_frame
                refine wpAnyH_ready (rs := [2]) (by kernel_rfl) (by simp) ?_
                refine AllReadyH.cons (o := ⟨some 227, _, _, _, _, _⟩) rfl (fun K hK => ?_) AllReadyH.nil
                go_simp
                go_at_call 20
                refine (HRL.out wld hC).mono ?_
                rintro e wld_lf ⟨rfl, hb⟩
                replace hC := hC.trans (hb.mono hC.size)
                refine hK.out _ _ (HKeep.out _ hC) (fun hHeld => ?_)
                clear hK K hb 
                try go_frame
                refine wpAnyH_take (i := 3) (oi := ⟨some 228, _, _, _, _, _⟩) (v := ?_) rfl (by kernel_rfl) (by kernel_rfl) (by kernel_rfl) (fun _ _ _ h => h) (Or.inl ⟨by rfl, ?_⟩) hHeld ?_
                rotate_left
                · intro w hSw
                  go_simp
                  with_reducible rfl
                try go_frame
                refine wpAnyH_take (i := 4) (oi := ⟨some 229, _, _, _, _, _⟩) (v := ?_) rfl (by kernel_rfl) (by kernel_rfl) (by kernel_rfl) (fun _ _ _ h => h) (Or.inl ⟨by rfl, ?_⟩) hHeld ?_
                rotate_left
                · intro w hSw
                  go_simp
                  with_reducible rfl
                try go_frame
                refine wpAnyH_take (i := 5) (oi := ⟨some 230, _, _, _, _, _⟩) (v := ?_) rfl (by kernel_rfl) (by kernel_rfl) (by kernel_rfl) (fun _ _ _ h => h) (Or.inl ⟨by rfl, ?_⟩) hHeld ?_
                rotate_left
                · intro w hSw
                  go_simp
                  with_reducible rfl
                try go_frame
                refine wpAnyH_take (i := 6) (oi := ⟨some 231, _, _, _, _, _⟩) (v := ?_) rfl (by kernel_rfl) (by kernel_rfl) (by kernel_rfl) (fun _ _ _ h => h) (Or.inl ⟨by rfl, ?_⟩) hHeld ?_
                rotate_left
                · intro w hSw
                  go_simp
                  with_reducible rfl
                try go_frame
                refine wpAnyH_take (i := 7) (oi := ⟨some 232, _, _, _, _, _⟩) (v := ?_) rfl (by kernel_rfl) (by kernel_rfl) (by kernel_rfl) (fun _ _ _ h => h) (Or.inl ⟨by rfl, ?_⟩) hHeld ?_
                rotate_left
                · intro w hSw
                  go_simp
                  with_reducible rfl
                try go_frame
                refine wpAnyH_take (i := 8) (oi := ⟨some 233, _, _, _, _, _⟩) (v := ?_) rfl (by kernel_rfl) (by kernel_rfl) (by kernel_rfl) (fun _ _ _ h => h) (Or.inl ⟨by rfl, ?_⟩) hHeld ?_
                rotate_left
                · intro w hSw
                  go_simp
                  with_reducible rfl
                try go_frame
                refine wpAnyH_take (i := 9) (oi := ⟨some 234, _, _, _, _, _⟩) (v := ?_) rfl (by kernel_rfl) (by kernel_rfl) (by kernel_rfl) (fun _ _ _ h => h) (Or.inl ⟨by rfl, ?_⟩) hHeld ?_
                rotate_left
                · intro w hSw
                  go_simp
                  with_reducible rfl
                try go_frame
                refine wpAnyH_take (i := 10) (oi := ⟨some 235, _, _, _, _, _⟩) (v := ?_) rfl (by kernel_rfl) (by kernel_rfl) (by kernel_rfl) (fun _ _ _ h => h) (Or.inl ⟨by rfl, ?_⟩) hHeld ?_
                rotate_left
                · intro w hSw
                  go_simp
                  with_reducible rfl
                try go_frame
                refine wpAnyH_take (i := 11) (oi := ⟨some 236, _, _, _, _, _⟩) (v := ?_) rfl (by kernel_rfl) (by kernel_rfl) (by kernel_rfl) (fun _ _ _ h => h) (Or.inl ⟨by rfl, ?_⟩) hHeld ?_
                rotate_left
                · intro w hSw
                  go_simp
                  with_reducible rfl
                try go_frame
                refine wpAnyH_take (i := 12) (oi := ⟨some 237, _, _, _, _, _⟩) (v := ?_) rfl (by kernel_rfl) (by kernel_rfl) (by kernel_rfl) (fun _ _ _ h => h) (Or.inl ⟨by rfl, ?_⟩) hHeld ?_
                rotate_left
                · intro w hSw
                  go_simp
                  with_reducible rfl
                try go_frame
                refine wpAnyH_take (i := 13) (oi := ⟨some 238, _, _, _, _, _⟩) (v := ?_) rfl (by kernel_rfl) (by kernel_rfl) (by kernel_rfl) (fun _ _ _ h => h) (Or.inl ⟨by rfl, ?_⟩) hHeld ?_
                rotate_left
                · intro w hSw
                  have hc := hSw.bytes
                  (try simp only at hc)
                  go_simp
                  with_reducible rfl
                try go_frame
                refine wpAnyH_take (i := 14) (oi := ⟨some 239, _, _, _, _, _⟩) (v := ?_) rfl (by kernel_rfl) (by kernel_rfl) (by kernel_rfl) (fun _ _ _ h => h) (Or.inl ⟨by rfl, ?_⟩) hHeld ?_
                rotate_left
                · intro w hSw
                  go_simp
                  with_reducible rfl
                try go_frame
                refine wpAnyH_take (i := 15) (oi := ⟨some 240, _, _, _, _, _⟩) (v := ?_) rfl (by kernel_rfl) (by kernel_rfl) (by kernel_rfl) (fun _ _ _ h => h) (Or.inl ⟨by rfl, ?_⟩) hHeld ?_
                rotate_left
                · intro w hSw
                  go_simp
                  with_reducible rfl
                try go_frame
                refine wpAnyH_take (i := 16) (oi := ⟨some 241, _, _, _, _, _⟩) (v := ?_) rfl (by kernel_rfl) (by kernel_rfl) (by kernel_rfl) (fun _ _ _ h => h) (Or.inl ⟨by rfl, ?_⟩) hHeld ?_
                rotate_left
                · intro w hSw
                  go_simp
                  with_reducible rfl
                try go_frame
                refine wpAnyH_take (i := 17) (oi := ⟨some 242, _, _, _, _, _⟩) (v := ?_) rfl (by kernel_rfl) (by kernel_rfl) (by kernel_rfl) (fun _ _ _ h => h) (Or.inl ⟨by rfl, ?_⟩) hHeld ?_
                rotate_left
                · intro w hSw
                  have hc := hSw.row
                  simp only at hc
                  go_simp
                  with_reducible rfl
                try go_frame
                refine wpAnyH_take (i := 18) (oi := ⟨some 243, _, _, _, _, _⟩) (v := ?_) rfl (by kernel_rfl) (by kernel_rfl) (by kernel_rfl) (fun _ _ _ h => h) (Or.inl ⟨by rfl, ?_⟩) hHeld ?_
                rotate_left
                · intro w hSw
                  go_simp
                  with_reducible rfl
                try go_frame
                refine wpAnyH_take (i := 19) (oi := ⟨some 244, _, _, _, _, _⟩) (v := ?_) rfl (by kernel_rfl) (by kernel_rfl) (by kernel_rfl) (fun _ _ _ h => h) (Or.inl ⟨by rfl, ?_⟩) hHeld ?_
                rotate_left
                · intro w hSw
                  go_simp
                  with_reducible rfl
                try go_frame
                refine wpAnyH_take (i := 20) (oi := ⟨some 245, _, _, _, _, _⟩) (v := ?_) rfl (by kernel_rfl) (by kernel_rfl) (by kernel_rfl) (fun _ _ _ h => h) (Or.inl ⟨by rfl, ?_⟩) hHeld ?_
                rotate_left
                · intro w hSw
                  have hc := hSw.fl.cell f hf4
                  simp only at hc
                  go_simp
                  with_reducible rfl
                try go_frame
                refine wpAnyH_take (i := 21) (oi := ⟨some 246, _, _, _, _, _⟩) (v := ?_) rfl (by kernel_rfl) (by kernel_rfl) (by kernel_rfl) (fun _ _ _ h => h) (Or.inl ⟨by rfl, ?_⟩) hHeld ?_
                rotate_left
                · intro w hSw
                  go_simp
                  with_reducible rfl
                try go_frame
                refine wpAnyH_take (i := 22) (oi := ⟨some 247, _, _, _, _, _⟩) (v := ?_) rfl (by kernel_rfl) (by kernel_rfl) (by kernel_rfl) (fun _ _ _ h => h) (Or.inl ⟨by rfl, ?_⟩) hHeld ?_
                rotate_left
                · intro w hSw
                  have hq := HLn.out
                  (try simp only at hq)
                  go_simp
                  with_reducible rfl
                try go_frame
                refine wpAnyH_take (i := 23) (oi := ⟨some 248, _, _, _, _, _⟩) (v := ?_) rfl (by kernel_rfl) (by kernel_rfl) (by kernel_rfl) (fun _ _ _ h => h) (Or.inl ⟨by rfl, ?_⟩) hHeld ?_
                rotate_left
                · intro w hSw
                  go_simp
                  with_reducible rfl
                try go_frame
                refine wpAnyH_take (i := 24) (oi := ⟨some 249, _, _, _, _, _⟩) (v := ?_) rfl (by kernel_rfl) (by kernel_rfl) (by kernel_rfl) (fun _ _ _ h => h) (Or.inl ⟨by rfl, ?_⟩) hHeld ?_
                rotate_left
                · intro w hSw
                  go_simp
                  with_reducible rfl
                try go_frame
                refine wpAnyH_take (i := 25) (oi := ⟨some 250, _, _, _, _, _⟩) (v := ?_) rfl (by kernel_rfl) (by kernel_rfl) (by kernel_rfl) (fun _ _ _ h => h) (Or.inl ⟨by rfl, ?_⟩) hHeld ?_
                rotate_left
                · intro w hSw
                  go_simp
                  with_reducible rfl
                try go_frame
                refine wpAnyH_take (i := 26) (oi := ⟨some 251, _, _, _, _, _⟩) (v := ?_) rfl (by kernel_rfl) (by kernel_rfl) (by kernel_rfl) (fun _ _ _ h => h) (Or.inl ⟨by rfl, ?_⟩) hHeld ?_
                rotate_left
                · intro w hSw
                  obtain ⟨hc0, hc1, hd0, hd1, hd2, hd3, hd4⟩ := hSw.cells
                  simp only at hc0 hc1 hd0 hd1 hd2 hd3 hd4
                  go_simp
                  with_reducible rfl
                try go_frame
                refine wpAnyH_take (i := 27) (oi := ⟨some 252, _, _, _, _, _⟩) (v := ?_) rfl (by kernel_rfl) (by kernel_rfl) (by kernel_rfl) (fun _ _ _ h => h) (Or.inl ⟨by rfl, ?_⟩) hHeld ?_
                rotate_left
                · intro w hSw
                  go_simp
                  with_reducible rfl
                try go_frame
                refine wpAnyH_ready (rs := [28]) (by kernel_rfl) (by simp) ?_
                refine AllReadyH.cons (o := ⟨some 253, _, _, _, _, _⟩) rfl (fun K hK => ?_) AllReadyH.nil
                go_simp
                go_at_call 21
                refine (HAp.out wld_lf hC).mono ?_
                rintro e wld_lf_ap ⟨rfl, hb⟩
                replace hC := hC.trans (hb.mono hC.size)
                refine hK.out _ _ (HKeep.out _ hC) (fun hHeld => ?_)
                clear hK K hb 
                try go_frame
                refine wpAnyH_take (i := 29) (oi := ⟨some 254, _, _, _, _, _⟩) (v := ?_) rfl (by kernel_rfl) (by kernel_rfl) (by kernel_rfl) (fun _ _ _ h => h) (Or.inl ⟨by rfl, ?_⟩) hHeld ?_
                rotate_left
                · intro w hSw
                  go_simp
                  with_reducible rfl
                try go_frame
                refine wpAnyH_take (i := 30) (oi := ⟨some 255, _, _, _, _, _⟩) (v := ?_) rfl (by kernel_rfl) (by kernel_rfl) (by kernel_rfl) (fun _ _ _ h => h) (Or.inl ⟨by rfl, ?_⟩) hHeld ?_
                rotate_left
                · intro w hSw
                  go_simp
                  with_reducible rfl
                try go_frame
                refine wpAnyH_done (by kernel_rfl) ?_ _
                have HPe := Lib.hid ((HP.out.below X hC).also X (Below.refl _ _) (fun _ => False) (fun _ h => h.elim))
                clear hHeld HKeep hC HP HD HRL HAp HLn
                generalize wld_lf_ap = wz at *
                go_wp2
                go_roundw
                case rel => exact ⟨k + 1, (l.set f r), fs2, bl7, by omega, by go_num, HPe, HFl2⟩
                case measure => simp [intOf]; omega
              · rw [if_neg hz0] at HP
                have hz1 : (e0 == 0) = false := by simpa using hz0
                have hz2 : (e0 != 0) = true := by simpa using hz0
                have hz3 : (e0 != e0) = false := by simp
                obtain rfl := Hz.out hz0
                have HFl2 := HFl
                have Hx2 := Hx
                clear He0 Hz HF7 HY
                have HQ : Hid (PlW C w w9 (Lay14.mk gb ob lb ib m) (fun k => k = db ∨ k = yb) (Geo.mk gn gk) l fs bl7) := HP.out
                have HDQ := HD
                have HLf := Lib.hid (HQ.out.left X HG.out HFl2.out)
                obtain ⟨hc0, hc1, hd0, hd1, hd2, hd3, hd4⟩ := (HQ.out.s Hx2.out HDQ.out).cells
                simp only at hc0 hc1 hd0 hd1 hd2 hd3 hd4
                clear HP HD
                go_wp2_with fail
                refine HLf.out.mono ?_
                rintro e wl ⟨rfl, hb⟩
                clear hc0 hc1 hd0 hd1 hd2 hd3 hd4
                have HP := Lib.hid (HQ.out.below X hb)
                have HD := Lib.hid (HDQ.out.below hb HDQ.out.lt)
                clear HQ HDQ HLf hb
                have HRL : Hid (∀ W, Below wl.heap.size wl W → Calls Try.prog 20 #[.pointer (some ⟨ob, 0, none⟩)] W fun e X' => e = .returned (.int .i64 (gleft (Geo.mk gn gk) fs)) ∧ Below W.heap.size W X') := fun W hW => (HP.out.below X hW).rleft HG.out
                have HAp : Hid (∀ W, Below wl.heap.size wl W → Calls Try.prog 21 #[.pointer (some ⟨m, 0, none⟩), .agg #[.int .i64 gn, .int .i64 gk], .slice (some ⟨ib, 0, none⟩) 4 4] W fun e X' => e = .returned (.bool true) ∧ Below W.heap.size W X') := fun W hW => (HP.out.below X hW).apart X HG.out HFl2.out 4
                have HLn : Hid (((Ino.mk xk xb x0 x1 x2 x3 xd)).b = ((strB ((fs).getD f [])).size : Int)) := by show _ = _; rw [strB_size]; exact (HFl2.out.at_ Hx2.out).2.symm
                have HKeep : Hid (∀ W, Below wl.heap.size wl W → PlS W (Lay14.mk gb ob lb ib m) db (Geo.mk gn gk) f (Ino.mk xk xb x0 x1 x2 x3 xd) fs dw df do' dn (.slice Ab bn cb)) := fun W hW => (HP.out.below X hW).s Hx2.out (HD.out.below hW HD.out.lt)
                go_wp2_with fail
                have hC : Below wl.heap.size wl wl.drew := below_drewN (Below.refl _ _) 1
                refine wp_region_held_drew (S := (fun W => PlS W (Lay14.mk gb ob lb ib m) db (Geo.mk gn gk) f (Ino.mk xk xb x0 x1 x2 x3 xd) fs dw df do' dn (.slice Ab bn cb))) (by kernel_rfl) (HKeep.out _ hC) (fun hHeld => ?_)
                generalize wl.drew = wld at *
                refine wpAnyH_take (i := 0) (oi := ⟨some 225, _, _, _, _, _⟩) (v := ?_) rfl (by kernel_rfl) (by kernel_rfl) (by kernel_rfl) (fun _ _ _ h => h) (Or.inl ⟨by rfl, ?_⟩) hHeld ?_
                rotate_left
                · intro w hSw
                  go_simp
                  with_reducible rfl
                try go_frame
                refine wpAnyH_take (i := 1) (oi := ⟨some 226, _, _, _, _, _⟩) (v := ?_) rfl (by kernel_rfl) (by kernel_rfl) (by kernel_rfl) (fun _ _ _ h => h) (Or.inl ⟨by rfl, ?_⟩) hHeld ?_
                rotate_left
                · intro w hSw
                  go_simp
                  with_reducible rfl
                try go_frame
                refine wpAnyH_ready (rs := [2]) (by kernel_rfl) (by simp) ?_
                refine AllReadyH.cons (o := ⟨some 227, _, _, _, _, _⟩) rfl (fun K hK => ?_) AllReadyH.nil
                go_simp
                go_at_call 20
                refine (HRL.out wld hC).mono ?_
                rintro e wld_lf ⟨rfl, hb⟩
                replace hC := hC.trans (hb.mono hC.size)
                refine hK.out _ _ (HKeep.out _ hC) (fun hHeld => ?_)
                clear hK K hb 
                try go_frame
                refine wpAnyH_take (i := 3) (oi := ⟨some 228, _, _, _, _, _⟩) (v := ?_) rfl (by kernel_rfl) (by kernel_rfl) (by kernel_rfl) (fun _ _ _ h => h) (Or.inl ⟨by rfl, ?_⟩) hHeld ?_
                rotate_left
                · intro w hSw
                  go_simp
                  with_reducible rfl
                try go_frame
                refine wpAnyH_take (i := 4) (oi := ⟨some 229, _, _, _, _, _⟩) (v := ?_) rfl (by kernel_rfl) (by kernel_rfl) (by kernel_rfl) (fun _ _ _ h => h) (Or.inl ⟨by rfl, ?_⟩) hHeld ?_
                rotate_left
                · intro w hSw
                  go_simp
                  with_reducible rfl
                try go_frame
                refine wpAnyH_take (i := 5) (oi := ⟨some 230, _, _, _, _, _⟩) (v := ?_) rfl (by kernel_rfl) (by kernel_rfl) (by kernel_rfl) (fun _ _ _ h => h) (Or.inl ⟨by rfl, ?_⟩) hHeld ?_
                rotate_left
                · intro w hSw
                  go_simp
                  with_reducible rfl
                try go_frame
                refine wpAnyH_take (i := 6) (oi := ⟨some 231, _, _, _, _, _⟩) (v := ?_) rfl (by kernel_rfl) (by kernel_rfl) (by kernel_rfl) (fun _ _ _ h => h) (Or.inl ⟨by rfl, ?_⟩) hHeld ?_
                rotate_left
                · intro w hSw
                  go_simp
                  with_reducible rfl
                try go_frame
                refine wpAnyH_take (i := 7) (oi := ⟨some 232, _, _, _, _, _⟩) (v := ?_) rfl (by kernel_rfl) (by kernel_rfl) (by kernel_rfl) (fun _ _ _ h => h) (Or.inl ⟨by rfl, ?_⟩) hHeld ?_
                rotate_left
                · intro w hSw
                  go_simp
                  with_reducible rfl
                try go_frame
                refine wpAnyH_take (i := 8) (oi := ⟨some 233, _, _, _, _, _⟩) (v := ?_) rfl (by kernel_rfl) (by kernel_rfl) (by kernel_rfl) (fun _ _ _ h => h) (Or.inl ⟨by rfl, ?_⟩) hHeld ?_
                rotate_left
                · intro w hSw
                  go_simp
                  with_reducible rfl
                try go_frame
                refine wpAnyH_take (i := 9) (oi := ⟨some 234, _, _, _, _, _⟩) (v := ?_) rfl (by kernel_rfl) (by kernel_rfl) (by kernel_rfl) (fun _ _ _ h => h) (Or.inl ⟨by rfl, ?_⟩) hHeld ?_
                rotate_left
                · intro w hSw
                  go_simp
                  with_reducible rfl
                try go_frame
                refine wpAnyH_take (i := 10) (oi := ⟨some 235, _, _, _, _, _⟩) (v := ?_) rfl (by kernel_rfl) (by kernel_rfl) (by kernel_rfl) (fun _ _ _ h => h) (Or.inl ⟨by rfl, ?_⟩) hHeld ?_
                rotate_left
                · intro w hSw
                  go_simp
                  with_reducible rfl
                try go_frame
                refine wpAnyH_take (i := 11) (oi := ⟨some 236, _, _, _, _, _⟩) (v := ?_) rfl (by kernel_rfl) (by kernel_rfl) (by kernel_rfl) (fun _ _ _ h => h) (Or.inl ⟨by rfl, ?_⟩) hHeld ?_
                rotate_left
                · intro w hSw
                  go_simp
                  with_reducible rfl
                try go_frame
                refine wpAnyH_take (i := 12) (oi := ⟨some 237, _, _, _, _, _⟩) (v := ?_) rfl (by kernel_rfl) (by kernel_rfl) (by kernel_rfl) (fun _ _ _ h => h) (Or.inl ⟨by rfl, ?_⟩) hHeld ?_
                rotate_left
                · intro w hSw
                  go_simp
                  with_reducible rfl
                try go_frame
                refine wpAnyH_take (i := 13) (oi := ⟨some 238, _, _, _, _, _⟩) (v := ?_) rfl (by kernel_rfl) (by kernel_rfl) (by kernel_rfl) (fun _ _ _ h => h) (Or.inl ⟨by rfl, ?_⟩) hHeld ?_
                rotate_left
                · intro w hSw
                  have hc := hSw.bytes
                  (try simp only at hc)
                  go_simp
                  with_reducible rfl
                try go_frame
                refine wpAnyH_take (i := 14) (oi := ⟨some 239, _, _, _, _, _⟩) (v := ?_) rfl (by kernel_rfl) (by kernel_rfl) (by kernel_rfl) (fun _ _ _ h => h) (Or.inl ⟨by rfl, ?_⟩) hHeld ?_
                rotate_left
                · intro w hSw
                  go_simp
                  with_reducible rfl
                try go_frame
                refine wpAnyH_take (i := 15) (oi := ⟨some 240, _, _, _, _, _⟩) (v := ?_) rfl (by kernel_rfl) (by kernel_rfl) (by kernel_rfl) (fun _ _ _ h => h) (Or.inl ⟨by rfl, ?_⟩) hHeld ?_
                rotate_left
                · intro w hSw
                  go_simp
                  with_reducible rfl
                try go_frame
                refine wpAnyH_take (i := 16) (oi := ⟨some 241, _, _, _, _, _⟩) (v := ?_) rfl (by kernel_rfl) (by kernel_rfl) (by kernel_rfl) (fun _ _ _ h => h) (Or.inl ⟨by rfl, ?_⟩) hHeld ?_
                rotate_left
                · intro w hSw
                  go_simp
                  with_reducible rfl
                try go_frame
                refine wpAnyH_take (i := 17) (oi := ⟨some 242, _, _, _, _, _⟩) (v := ?_) rfl (by kernel_rfl) (by kernel_rfl) (by kernel_rfl) (fun _ _ _ h => h) (Or.inl ⟨by rfl, ?_⟩) hHeld ?_
                rotate_left
                · intro w hSw
                  have hc := hSw.row
                  simp only at hc
                  go_simp
                  with_reducible rfl
                try go_frame
                refine wpAnyH_take (i := 18) (oi := ⟨some 243, _, _, _, _, _⟩) (v := ?_) rfl (by kernel_rfl) (by kernel_rfl) (by kernel_rfl) (fun _ _ _ h => h) (Or.inl ⟨by rfl, ?_⟩) hHeld ?_
                rotate_left
                · intro w hSw
                  go_simp
                  with_reducible rfl
                try go_frame
                refine wpAnyH_take (i := 19) (oi := ⟨some 244, _, _, _, _, _⟩) (v := ?_) rfl (by kernel_rfl) (by kernel_rfl) (by kernel_rfl) (fun _ _ _ h => h) (Or.inl ⟨by rfl, ?_⟩) hHeld ?_
                rotate_left
                · intro w hSw
                  go_simp
                  with_reducible rfl
                try go_frame
                refine wpAnyH_take (i := 20) (oi := ⟨some 245, _, _, _, _, _⟩) (v := ?_) rfl (by kernel_rfl) (by kernel_rfl) (by kernel_rfl) (fun _ _ _ h => h) (Or.inl ⟨by rfl, ?_⟩) hHeld ?_
                rotate_left
                · intro w hSw
                  have hc := hSw.fl.cell f hf4
                  simp only at hc
                  go_simp
                  with_reducible rfl
                try go_frame
                refine wpAnyH_take (i := 21) (oi := ⟨some 246, _, _, _, _, _⟩) (v := ?_) rfl (by kernel_rfl) (by kernel_rfl) (by kernel_rfl) (fun _ _ _ h => h) (Or.inl ⟨by rfl, ?_⟩) hHeld ?_
                rotate_left
                · intro w hSw
                  go_simp
                  with_reducible rfl
                try go_frame
                refine wpAnyH_take (i := 22) (oi := ⟨some 247, _, _, _, _, _⟩) (v := ?_) rfl (by kernel_rfl) (by kernel_rfl) (by kernel_rfl) (fun _ _ _ h => h) (Or.inl ⟨by rfl, ?_⟩) hHeld ?_
                rotate_left
                · intro w hSw
                  have hq := HLn.out
                  (try simp only at hq)
                  go_simp
                  with_reducible rfl
                try go_frame
                refine wpAnyH_take (i := 23) (oi := ⟨some 248, _, _, _, _, _⟩) (v := ?_) rfl (by kernel_rfl) (by kernel_rfl) (by kernel_rfl) (fun _ _ _ h => h) (Or.inl ⟨by rfl, ?_⟩) hHeld ?_
                rotate_left
                · intro w hSw
                  go_simp
                  with_reducible rfl
                try go_frame
                refine wpAnyH_take (i := 24) (oi := ⟨some 249, _, _, _, _, _⟩) (v := ?_) rfl (by kernel_rfl) (by kernel_rfl) (by kernel_rfl) (fun _ _ _ h => h) (Or.inl ⟨by rfl, ?_⟩) hHeld ?_
                rotate_left
                · intro w hSw
                  go_simp
                  with_reducible rfl
                try go_frame
                refine wpAnyH_take (i := 25) (oi := ⟨some 250, _, _, _, _, _⟩) (v := ?_) rfl (by kernel_rfl) (by kernel_rfl) (by kernel_rfl) (fun _ _ _ h => h) (Or.inl ⟨by rfl, ?_⟩) hHeld ?_
                rotate_left
                · intro w hSw
                  go_simp
                  with_reducible rfl
                try go_frame
                refine wpAnyH_take (i := 26) (oi := ⟨some 251, _, _, _, _, _⟩) (v := ?_) rfl (by kernel_rfl) (by kernel_rfl) (by kernel_rfl) (fun _ _ _ h => h) (Or.inl ⟨by rfl, ?_⟩) hHeld ?_
                rotate_left
                · intro w hSw
                  obtain ⟨hc0, hc1, hd0, hd1, hd2, hd3, hd4⟩ := hSw.cells
                  simp only at hc0 hc1 hd0 hd1 hd2 hd3 hd4
                  go_simp
                  with_reducible rfl
                try go_frame
                refine wpAnyH_take (i := 27) (oi := ⟨some 252, _, _, _, _, _⟩) (v := ?_) rfl (by kernel_rfl) (by kernel_rfl) (by kernel_rfl) (fun _ _ _ h => h) (Or.inl ⟨by rfl, ?_⟩) hHeld ?_
                rotate_left
                · intro w hSw
                  go_simp
                  with_reducible rfl
                try go_frame
                refine wpAnyH_ready (rs := [28]) (by kernel_rfl) (by simp) ?_
                refine AllReadyH.cons (o := ⟨some 253, _, _, _, _, _⟩) rfl (fun K hK => ?_) AllReadyH.nil
                go_simp
                go_at_call 21
                refine (HAp.out wld_lf hC).mono ?_
                rintro e wld_lf_ap ⟨rfl, hb⟩
                replace hC := hC.trans (hb.mono hC.size)
                refine hK.out _ _ (HKeep.out _ hC) (fun hHeld => ?_)
                clear hK K hb 
                try go_frame
                refine wpAnyH_take (i := 29) (oi := ⟨some 254, _, _, _, _, _⟩) (v := ?_) rfl (by kernel_rfl) (by kernel_rfl) (by kernel_rfl) (fun _ _ _ h => h) (Or.inl ⟨by rfl, ?_⟩) hHeld ?_
                rotate_left
                · intro w hSw
                  go_simp
                  with_reducible rfl
                try go_frame
                refine wpAnyH_take (i := 30) (oi := ⟨some 255, _, _, _, _, _⟩) (v := ?_) rfl (by kernel_rfl) (by kernel_rfl) (by kernel_rfl) (fun _ _ _ h => h) (Or.inl ⟨by rfl, ?_⟩) hHeld ?_
                rotate_left
                · intro w hSw
                  go_simp
                  with_reducible rfl
                try go_frame
                refine wpAnyH_done (by kernel_rfl) ?_ _
                have HPe := Lib.hid ((HP.out.below X hC).also X (Below.refl _ _) (fun _ => False) (fun _ h => h.elim))
                clear hHeld HKeep hC HP HD HRL HAp HLn
                generalize wld_lf_ap = wz at *
                go_wp2
                go_roundw
                case rel => exact ⟨k + 1, l, fs, bl7, by omega, by go_num, HPe, HFl2⟩
                case measure => simp [intOf]; omega
          · as_aux_lemma =>
              have HPd : Hid (PlW C w w6.drew (Lay14.mk gb ob lb ib m) (fun k => k = db ∨ k = yb) (Geo.mk gn gk) l fs bl) := HP6.out.below X (below_drewN (Below.refl _ w6) 1)
              have HDd : Hid (Row w6.drew db 43 [.int .i64 dw, .int .i64 df, .int .i64 do', .int .i64 dn, .slice Ab bn cb]) := HD6.out
              have HYd : Hid (Row w6.drew yb 40 [.int .i64 xk, .int .i64 xb, .int .i64 x0, .int .i64 x1, .int .i64 x2, .int .i64 x3, .int .i64 xd]) := HY6.out
              clear HP6 HD6 HY6
              have HCall := Lib.hid (HPd.out.read X HFl.out Hx.out do' dn Ho.out Hn.out)
              go_wp2_with fail
              refine wp_region_held_drew (S := (fun W => PlS W (Lay14.mk gb ob lb ib m) db (Geo.mk gn gk) f (Ino.mk xk xb x0 x1 x2 x3 xd) fs dw df do' dn (.slice Ab bn cb))) (by kernel_rfl) (HPd.out.s Hx.out HDd.out) (fun hHeld => ?_)
              generalize w6.drew = wd at *
              refine wpAnyH_take (i := 0) (oi := ⟨some 108, _, _, _, _, _⟩) (v := ?_) rfl (by kernel_rfl) (by kernel_rfl) (by kernel_rfl) (fun _ _ _ h => h) (Or.inl ⟨by rfl, ?_⟩) hHeld ?_
              rotate_left
              · intro w hSw
                go_simp
                with_reducible rfl
              try go_frame
              refine wpAnyH_take (i := 1) (oi := ⟨some 109, _, _, _, _, _⟩) (v := ?_) rfl (by kernel_rfl) (by kernel_rfl) (by kernel_rfl) (fun _ _ _ h => h) (Or.inl ⟨by rfl, ?_⟩) hHeld ?_
              rotate_left
              · intro w hSw
                go_simp
                with_reducible rfl
              try go_frame
              refine wpAnyH_take (i := 2) (oi := ⟨some 110, _, _, _, _, _⟩) (v := ?_) rfl (by kernel_rfl) (by kernel_rfl) (by kernel_rfl) (fun _ _ _ h => h) (Or.inl ⟨by rfl, ?_⟩) hHeld ?_
              rotate_left
              · intro w hSw
                go_simp
                with_reducible rfl
              try go_frame
              refine wpAnyH_take (i := 3) (oi := ⟨some 111, _, _, _, _, _⟩) (v := ?_) rfl (by kernel_rfl) (by kernel_rfl) (by kernel_rfl) (fun _ _ _ h => h) (Or.inl ⟨by rfl, ?_⟩) hHeld ?_
              rotate_left
              · intro w hSw
                go_simp
                with_reducible rfl
              try go_frame
              refine wpAnyH_take (i := 4) (oi := ⟨some 112, _, _, _, _, _⟩) (v := ?_) rfl (by kernel_rfl) (by kernel_rfl) (by kernel_rfl) (fun _ _ _ h => h) (Or.inl ⟨by rfl, ?_⟩) hHeld ?_
              rotate_left
              · intro w hSw
                go_simp
                with_reducible rfl
              try go_frame
              refine wpAnyH_take (i := 5) (oi := ⟨some 113, _, _, _, _, _⟩) (v := .agg ([.int .i64 xk, .int .i64 xb, .int .i64 x0, .int .i64 x1, .int .i64 x2, .int .i64 x3, .int .i64 xd]).toArray) rfl (by kernel_rfl) (by kernel_rfl) (by kernel_rfl) (fun _ _ _ h => h) (yieldsIf_load_mid (by rfl) 40 (.tmp 112) rfl ib (f * 7) rfl ([.int .i64 xk, .int .i64 xb, .int .i64 x0, .int .i64 x1, .int .i64 x2, .int .i64 x3, .int .i64 xd]) _ (fun W h => h.ino) Try.underlying40 rfl infoIno) hHeld ?_
              try go_frame
              refine wpAnyH_take (i := 6) (oi := ⟨some 114, _, _, _, _, _⟩) (v := ?_) rfl (by kernel_rfl) (by kernel_rfl) (by kernel_rfl) (fun _ _ _ h => h) (Or.inl ⟨by rfl, ?_⟩) hHeld ?_
              rotate_left
              · intro w hSw
                go_simp
                with_reducible rfl
              try go_frame
              refine wpAnyH_take (i := 7) (oi := ⟨some 115, _, _, _, _, _⟩) (v := ?_) rfl (by kernel_rfl) (by kernel_rfl) (by kernel_rfl) (fun _ _ _ h => h) (Or.inl ⟨by rfl, ?_⟩) hHeld ?_
              rotate_left
              · intro w hSw
                obtain ⟨hc0, hc1, hd0, hd1, hd2, hd3, hd4⟩ := hSw.cells
                simp only at hc0 hc1 hd0 hd1 hd2 hd3 hd4
                go_simp
                with_reducible rfl
              try go_frame
              refine wpAnyH_take (i := 8) (oi := ⟨some 116, _, _, _, _, _⟩) (v := ?_) rfl (by kernel_rfl) (by kernel_rfl) (by kernel_rfl) (fun _ _ _ h => h) (Or.inl ⟨by rfl, ?_⟩) hHeld ?_
              rotate_left
              · intro w hSw
                go_simp
                with_reducible rfl
              try go_frame
              refine wpAnyH_take (i := 9) (oi := ⟨some 117, _, _, _, _, _⟩) (v := ?_) rfl (by kernel_rfl) (by kernel_rfl) (by kernel_rfl) (fun _ _ _ h => h) (Or.inl ⟨by rfl, ?_⟩) hHeld ?_
              rotate_left
              · intro w hSw
                obtain ⟨hc0, hc1, hd0, hd1, hd2, hd3, hd4⟩ := hSw.cells
                simp only at hc0 hc1 hd0 hd1 hd2 hd3 hd4
                go_simp
                with_reducible rfl
              try go_frame
              refine wpAnyH_ready (rs := [10]) (by kernel_rfl) (by simp) ?_
              refine AllReadyH.cons (o := ⟨some 118, _, _, _, _, _⟩) rfl (fun K hK => ?_) AllReadyH.nil
              go_simp
              go_at_call 17
              refine HCall.out.mono ?_
              rintro e w9 ⟨v7, bs7, h7, rfl, hneg, hpos, hv, hb⟩
              obtain ⟨A7, c7, rfl⟩ := hv.out.arg.form
              have HV := Lib.hid hv.out.arg
              have HD := Lib.hid (HDd.out.below hb HDd.out.lt)
              have HY := Lib.hid (HYd.out.below hb HYd.out.lt)
              have HP := Lib.hid (HPd.out.below X hb)
              have Hneg := Lib.hid hneg
              have Hpos := Lib.hid hpos
              clear hneg hpos hv hb HPd HDd HYd HCall
              refine hK.out _ _ (HP.out.s Hx.out HD.out) (fun hHeld => ?_)
              clear hK K
              try go_frame
              refine wpAnyH_take (i := 11) (oi := ⟨some 107, _, _, _, _, _⟩) (v := ?_) rfl (by kernel_rfl) (by kernel_rfl) (by kernel_rfl) (fun _ _ _ h => h) (Or.inl ⟨by rfl, ?_⟩) hHeld ?_
              rotate_left
              · intro w hSw
                go_simp
                with_reducible rfl
              try go_frame
              refine wpAnyH_take (i := 12) (oi := ⟨some 119, _, _, _, _, _⟩) (v := ?_) rfl (by kernel_rfl) (by kernel_rfl) (by kernel_rfl) (fun _ _ _ h => h) (Or.inl ⟨by rfl, ?_⟩) hHeld ?_
              rotate_left
              · intro w hSw
                go_simp
                with_reducible rfl
              try go_frame
              refine wpAnyH_take (i := 13) (oi := ⟨some 120, _, _, _, _, _⟩) (v := ?_) rfl (by kernel_rfl) (by kernel_rfl) (by kernel_rfl) (fun _ _ _ h => h) (Or.inl ⟨by rfl, ?_⟩) hHeld ?_
              rotate_left
              · intro w hSw
                go_simp
                with_reducible rfl
              try go_frame
              refine wpAnyH_take (i := 14) (oi := ⟨some 17, _, _, _, _, _⟩) (v := ?_) rfl (by kernel_rfl) (by kernel_rfl) (by kernel_rfl) (fun _ _ _ h => h) (Or.inl ⟨by rfl, ?_⟩) hHeld ?_
              rotate_left
              · intro w hSw
                go_simp
                with_reducible rfl
              try go_frame
              refine wpAnyH_take (i := 15) (oi := ⟨some 18, _, _, _, _, _⟩) (v := ?_) rfl (by kernel_rfl) (by kernel_rfl) (by kernel_rfl) (fun _ _ _ h => h) (Or.inl ⟨by rfl, ?_⟩) hHeld ?_
              rotate_left
              · intro w hSw
                go_simp
                with_reducible rfl
              try go_frame
              refine wpAnyH_done (by kernel_rfl) ?_ _
              clear hHeld
              by_cases hn1 : do' < 0
              · obtain ⟨rfl, rfl⟩ := Hneg.out (.inl hn1)
                have HFl2 := HFl
                have Hx2 := Hx
                clear Hneg Hpos HV HY
                have HQ : Hid (PlW C w w9 (Lay14.mk gb ob lb ib m) (fun k => k = db ∨ k = yb) (Geo.mk gn gk) l fs bl) := HP.out
                have HDQ := HD
                have HLf := Lib.hid (HQ.out.left X HG.out HFl2.out)
                obtain ⟨hc0, hc1, hd0, hd1, hd2, hd3, hd4⟩ := (HQ.out.s Hx2.out HDQ.out).cells
                simp only at hc0 hc1 hd0 hd1 hd2 hd3 hd4
                clear HP HD
                go_wp2_with fail
                refine HLf.out.mono ?_
                rintro e wl ⟨rfl, hb⟩
                clear hc0 hc1 hd0 hd1 hd2 hd3 hd4
                have HP := Lib.hid (HQ.out.below X hb)
                have HD := Lib.hid (HDQ.out.below hb HDQ.out.lt)
                clear HQ HDQ HLf hb
                have HRL : Hid (∀ W, Below wl.heap.size wl W → Calls Try.prog 20 #[.pointer (some ⟨ob, 0, none⟩)] W fun e X' => e = .returned (.int .i64 (gleft (Geo.mk gn gk) fs)) ∧ Below W.heap.size W X') := fun W hW => (HP.out.below X hW).rleft HG.out
                have HAp : Hid (∀ W, Below wl.heap.size wl W → Calls Try.prog 21 #[.pointer (some ⟨m, 0, none⟩), .agg #[.int .i64 gn, .int .i64 gk], .slice (some ⟨ib, 0, none⟩) 4 4] W fun e X' => e = .returned (.bool true) ∧ Below W.heap.size W X') := fun W hW => (HP.out.below X hW).apart X HG.out HFl2.out 4
                have HLn : Hid (((Ino.mk xk xb x0 x1 x2 x3 xd)).b = ((strB ((fs).getD f [])).size : Int)) := by show _ = _; rw [strB_size]; exact (HFl2.out.at_ Hx2.out).2.symm
                have HKeep : Hid (∀ W, Below wl.heap.size wl W → PlS W (Lay14.mk gb ob lb ib m) db (Geo.mk gn gk) f (Ino.mk xk xb x0 x1 x2 x3 xd) fs dw df do' dn (.slice Ab bn cb)) := fun W hW => (HP.out.below X hW).s Hx2.out (HD.out.below hW HD.out.lt)
                go_wp2_with fail
                have hC : Below wl.heap.size wl wl.drew := below_drewN (Below.refl _ _) 1
                refine wp_region_held_drew (S := (fun W => PlS W (Lay14.mk gb ob lb ib m) db (Geo.mk gn gk) f (Ino.mk xk xb x0 x1 x2 x3 xd) fs dw df do' dn (.slice Ab bn cb))) (by kernel_rfl) (HKeep.out _ hC) (fun hHeld => ?_)
                generalize wl.drew = wld at *
                refine wpAnyH_take (i := 0) (oi := ⟨some 225, _, _, _, _, _⟩) (v := ?_) rfl (by kernel_rfl) (by kernel_rfl) (by kernel_rfl) (fun _ _ _ h => h) (Or.inl ⟨by rfl, ?_⟩) hHeld ?_
                rotate_left
                · intro w hSw
                  go_simp
                  with_reducible rfl
                try go_frame
                refine wpAnyH_take (i := 1) (oi := ⟨some 226, _, _, _, _, _⟩) (v := ?_) rfl (by kernel_rfl) (by kernel_rfl) (by kernel_rfl) (fun _ _ _ h => h) (Or.inl ⟨by rfl, ?_⟩) hHeld ?_
                rotate_left
                · intro w hSw
                  go_simp
                  with_reducible rfl
                try go_frame
                refine wpAnyH_ready (rs := [2]) (by kernel_rfl) (by simp) ?_
                refine AllReadyH.cons (o := ⟨some 227, _, _, _, _, _⟩) rfl (fun K hK => ?_) AllReadyH.nil
                go_simp
                go_at_call 20
                refine (HRL.out wld hC).mono ?_
                rintro e wld_lf ⟨rfl, hb⟩
                replace hC := hC.trans (hb.mono hC.size)
                refine hK.out _ _ (HKeep.out _ hC) (fun hHeld => ?_)
                clear hK K hb 
                try go_frame
                refine wpAnyH_take (i := 3) (oi := ⟨some 228, _, _, _, _, _⟩) (v := ?_) rfl (by kernel_rfl) (by kernel_rfl) (by kernel_rfl) (fun _ _ _ h => h) (Or.inl ⟨by rfl, ?_⟩) hHeld ?_
                rotate_left
                · intro w hSw
                  go_simp
                  with_reducible rfl
                try go_frame
                refine wpAnyH_take (i := 4) (oi := ⟨some 229, _, _, _, _, _⟩) (v := ?_) rfl (by kernel_rfl) (by kernel_rfl) (by kernel_rfl) (fun _ _ _ h => h) (Or.inl ⟨by rfl, ?_⟩) hHeld ?_
                rotate_left
                · intro w hSw
                  go_simp
                  with_reducible rfl
                try go_frame
                refine wpAnyH_take (i := 5) (oi := ⟨some 230, _, _, _, _, _⟩) (v := ?_) rfl (by kernel_rfl) (by kernel_rfl) (by kernel_rfl) (fun _ _ _ h => h) (Or.inl ⟨by rfl, ?_⟩) hHeld ?_
                rotate_left
                · intro w hSw
                  go_simp
                  with_reducible rfl
                try go_frame
                refine wpAnyH_take (i := 6) (oi := ⟨some 231, _, _, _, _, _⟩) (v := ?_) rfl (by kernel_rfl) (by kernel_rfl) (by kernel_rfl) (fun _ _ _ h => h) (Or.inl ⟨by rfl, ?_⟩) hHeld ?_
                rotate_left
                · intro w hSw
                  go_simp
                  with_reducible rfl
                try go_frame
                refine wpAnyH_take (i := 7) (oi := ⟨some 232, _, _, _, _, _⟩) (v := ?_) rfl (by kernel_rfl) (by kernel_rfl) (by kernel_rfl) (fun _ _ _ h => h) (Or.inl ⟨by rfl, ?_⟩) hHeld ?_
                rotate_left
                · intro w hSw
                  go_simp
                  with_reducible rfl
                try go_frame
                refine wpAnyH_take (i := 8) (oi := ⟨some 233, _, _, _, _, _⟩) (v := ?_) rfl (by kernel_rfl) (by kernel_rfl) (by kernel_rfl) (fun _ _ _ h => h) (Or.inl ⟨by rfl, ?_⟩) hHeld ?_
                rotate_left
                · intro w hSw
                  go_simp
                  with_reducible rfl
                try go_frame
                refine wpAnyH_take (i := 9) (oi := ⟨some 234, _, _, _, _, _⟩) (v := ?_) rfl (by kernel_rfl) (by kernel_rfl) (by kernel_rfl) (fun _ _ _ h => h) (Or.inl ⟨by rfl, ?_⟩) hHeld ?_
                rotate_left
                · intro w hSw
                  go_simp
                  with_reducible rfl
                try go_frame
                refine wpAnyH_take (i := 10) (oi := ⟨some 235, _, _, _, _, _⟩) (v := ?_) rfl (by kernel_rfl) (by kernel_rfl) (by kernel_rfl) (fun _ _ _ h => h) (Or.inl ⟨by rfl, ?_⟩) hHeld ?_
                rotate_left
                · intro w hSw
                  go_simp
                  with_reducible rfl
                try go_frame
                refine wpAnyH_take (i := 11) (oi := ⟨some 236, _, _, _, _, _⟩) (v := ?_) rfl (by kernel_rfl) (by kernel_rfl) (by kernel_rfl) (fun _ _ _ h => h) (Or.inl ⟨by rfl, ?_⟩) hHeld ?_
                rotate_left
                · intro w hSw
                  go_simp
                  with_reducible rfl
                try go_frame
                refine wpAnyH_take (i := 12) (oi := ⟨some 237, _, _, _, _, _⟩) (v := ?_) rfl (by kernel_rfl) (by kernel_rfl) (by kernel_rfl) (fun _ _ _ h => h) (Or.inl ⟨by rfl, ?_⟩) hHeld ?_
                rotate_left
                · intro w hSw
                  go_simp
                  with_reducible rfl
                try go_frame
                refine wpAnyH_take (i := 13) (oi := ⟨some 238, _, _, _, _, _⟩) (v := ?_) rfl (by kernel_rfl) (by kernel_rfl) (by kernel_rfl) (fun _ _ _ h => h) (Or.inl ⟨by rfl, ?_⟩) hHeld ?_
                rotate_left
                · intro w hSw
                  have hc := hSw.bytes
                  (try simp only at hc)
                  go_simp
                  with_reducible rfl
                try go_frame
                refine wpAnyH_take (i := 14) (oi := ⟨some 239, _, _, _, _, _⟩) (v := ?_) rfl (by kernel_rfl) (by kernel_rfl) (by kernel_rfl) (fun _ _ _ h => h) (Or.inl ⟨by rfl, ?_⟩) hHeld ?_
                rotate_left
                · intro w hSw
                  go_simp
                  with_reducible rfl
                try go_frame
                refine wpAnyH_take (i := 15) (oi := ⟨some 240, _, _, _, _, _⟩) (v := ?_) rfl (by kernel_rfl) (by kernel_rfl) (by kernel_rfl) (fun _ _ _ h => h) (Or.inl ⟨by rfl, ?_⟩) hHeld ?_
                rotate_left
                · intro w hSw
                  go_simp
                  with_reducible rfl
                try go_frame
                refine wpAnyH_take (i := 16) (oi := ⟨some 241, _, _, _, _, _⟩) (v := ?_) rfl (by kernel_rfl) (by kernel_rfl) (by kernel_rfl) (fun _ _ _ h => h) (Or.inl ⟨by rfl, ?_⟩) hHeld ?_
                rotate_left
                · intro w hSw
                  go_simp
                  with_reducible rfl
                try go_frame
                refine wpAnyH_take (i := 17) (oi := ⟨some 242, _, _, _, _, _⟩) (v := ?_) rfl (by kernel_rfl) (by kernel_rfl) (by kernel_rfl) (fun _ _ _ h => h) (Or.inl ⟨by rfl, ?_⟩) hHeld ?_
                rotate_left
                · intro w hSw
                  have hc := hSw.row
                  simp only at hc
                  go_simp
                  with_reducible rfl
                try go_frame
                refine wpAnyH_take (i := 18) (oi := ⟨some 243, _, _, _, _, _⟩) (v := ?_) rfl (by kernel_rfl) (by kernel_rfl) (by kernel_rfl) (fun _ _ _ h => h) (Or.inl ⟨by rfl, ?_⟩) hHeld ?_
                rotate_left
                · intro w hSw
                  go_simp
                  with_reducible rfl
                try go_frame
                refine wpAnyH_take (i := 19) (oi := ⟨some 244, _, _, _, _, _⟩) (v := ?_) rfl (by kernel_rfl) (by kernel_rfl) (by kernel_rfl) (fun _ _ _ h => h) (Or.inl ⟨by rfl, ?_⟩) hHeld ?_
                rotate_left
                · intro w hSw
                  go_simp
                  with_reducible rfl
                try go_frame
                refine wpAnyH_take (i := 20) (oi := ⟨some 245, _, _, _, _, _⟩) (v := ?_) rfl (by kernel_rfl) (by kernel_rfl) (by kernel_rfl) (fun _ _ _ h => h) (Or.inl ⟨by rfl, ?_⟩) hHeld ?_
                rotate_left
                · intro w hSw
                  have hc := hSw.fl.cell f hf4
                  simp only at hc
                  go_simp
                  with_reducible rfl
                try go_frame
                refine wpAnyH_take (i := 21) (oi := ⟨some 246, _, _, _, _, _⟩) (v := ?_) rfl (by kernel_rfl) (by kernel_rfl) (by kernel_rfl) (fun _ _ _ h => h) (Or.inl ⟨by rfl, ?_⟩) hHeld ?_
                rotate_left
                · intro w hSw
                  go_simp
                  with_reducible rfl
                try go_frame
                refine wpAnyH_take (i := 22) (oi := ⟨some 247, _, _, _, _, _⟩) (v := ?_) rfl (by kernel_rfl) (by kernel_rfl) (by kernel_rfl) (fun _ _ _ h => h) (Or.inl ⟨by rfl, ?_⟩) hHeld ?_
                rotate_left
                · intro w hSw
                  have hq := HLn.out
                  (try simp only at hq)
                  go_simp
                  with_reducible rfl
                try go_frame
                refine wpAnyH_take (i := 23) (oi := ⟨some 248, _, _, _, _, _⟩) (v := ?_) rfl (by kernel_rfl) (by kernel_rfl) (by kernel_rfl) (fun _ _ _ h => h) (Or.inl ⟨by rfl, ?_⟩) hHeld ?_
                rotate_left
                · intro w hSw
                  go_simp
                  with_reducible rfl
                try go_frame
                refine wpAnyH_take (i := 24) (oi := ⟨some 249, _, _, _, _, _⟩) (v := ?_) rfl (by kernel_rfl) (by kernel_rfl) (by kernel_rfl) (fun _ _ _ h => h) (Or.inl ⟨by rfl, ?_⟩) hHeld ?_
                rotate_left
                · intro w hSw
                  go_simp
                  with_reducible rfl
                try go_frame
                refine wpAnyH_take (i := 25) (oi := ⟨some 250, _, _, _, _, _⟩) (v := ?_) rfl (by kernel_rfl) (by kernel_rfl) (by kernel_rfl) (fun _ _ _ h => h) (Or.inl ⟨by rfl, ?_⟩) hHeld ?_
                rotate_left
                · intro w hSw
                  go_simp
                  with_reducible rfl
                try go_frame
                refine wpAnyH_take (i := 26) (oi := ⟨some 251, _, _, _, _, _⟩) (v := ?_) rfl (by kernel_rfl) (by kernel_rfl) (by kernel_rfl) (fun _ _ _ h => h) (Or.inl ⟨by rfl, ?_⟩) hHeld ?_
                rotate_left
                · intro w hSw
                  obtain ⟨hc0, hc1, hd0, hd1, hd2, hd3, hd4⟩ := hSw.cells
                  simp only at hc0 hc1 hd0 hd1 hd2 hd3 hd4
                  go_simp
                  with_reducible rfl
                try go_frame
                refine wpAnyH_take (i := 27) (oi := ⟨some 252, _, _, _, _, _⟩) (v := ?_) rfl (by kernel_rfl) (by kernel_rfl) (by kernel_rfl) (fun _ _ _ h => h) (Or.inl ⟨by rfl, ?_⟩) hHeld ?_
                rotate_left
                · intro w hSw
                  go_simp
                  with_reducible rfl
                try go_frame
                refine wpAnyH_ready (rs := [28]) (by kernel_rfl) (by simp) ?_
                refine AllReadyH.cons (o := ⟨some 253, _, _, _, _, _⟩) rfl (fun K hK => ?_) AllReadyH.nil
                go_simp
                go_at_call 21
                refine (HAp.out wld_lf hC).mono ?_
                rintro e wld_lf_ap ⟨rfl, hb⟩
                replace hC := hC.trans (hb.mono hC.size)
                refine hK.out _ _ (HKeep.out _ hC) (fun hHeld => ?_)
                clear hK K hb 
                try go_frame
                refine wpAnyH_take (i := 29) (oi := ⟨some 254, _, _, _, _, _⟩) (v := ?_) rfl (by kernel_rfl) (by kernel_rfl) (by kernel_rfl) (fun _ _ _ h => h) (Or.inl ⟨by rfl, ?_⟩) hHeld ?_
                rotate_left
                · intro w hSw
                  go_simp
                  with_reducible rfl
                try go_frame
                refine wpAnyH_take (i := 30) (oi := ⟨some 255, _, _, _, _, _⟩) (v := ?_) rfl (by kernel_rfl) (by kernel_rfl) (by kernel_rfl) (fun _ _ _ h => h) (Or.inl ⟨by rfl, ?_⟩) hHeld ?_
                rotate_left
                · intro w hSw
                  go_simp
                  with_reducible rfl
                try go_frame
                refine wpAnyH_done (by kernel_rfl) ?_ _
                have HPe := Lib.hid ((HP.out.below X hC).also X (Below.refl _ _) (fun _ => False) (fun _ h => h.elim))
                clear hHeld HKeep hC HP HD HRL HAp HLn
                generalize wld_lf_ap = wz at *
                go_wp2
                go_roundw
                case rel => exact ⟨k + 1, l, fs, bl, by omega, by go_num, HPe, HFl2⟩
                case measure => simp [intOf]; omega
              · by_cases hn2 : dn < 0
                · obtain ⟨rfl, rfl⟩ := Hneg.out (.inr hn2)
                  have HFl2 := HFl
                  have Hx2 := Hx
                  clear Hneg Hpos HV HY
                  have HQ : Hid (PlW C w w9 (Lay14.mk gb ob lb ib m) (fun k => k = db ∨ k = yb) (Geo.mk gn gk) l fs bl) := HP.out
                  have HDQ := HD
                  have HLf := Lib.hid (HQ.out.left X HG.out HFl2.out)
                  obtain ⟨hc0, hc1, hd0, hd1, hd2, hd3, hd4⟩ := (HQ.out.s Hx2.out HDQ.out).cells
                  simp only at hc0 hc1 hd0 hd1 hd2 hd3 hd4
                  clear HP HD
                  go_wp2_with fail
                  refine HLf.out.mono ?_
                  rintro e wl ⟨rfl, hb⟩
                  clear hc0 hc1 hd0 hd1 hd2 hd3 hd4
                  have HP := Lib.hid (HQ.out.below X hb)
                  have HD := Lib.hid (HDQ.out.below hb HDQ.out.lt)
                  clear HQ HDQ HLf hb
                  have HRL : Hid (∀ W, Below wl.heap.size wl W → Calls Try.prog 20 #[.pointer (some ⟨ob, 0, none⟩)] W fun e X' => e = .returned (.int .i64 (gleft (Geo.mk gn gk) fs)) ∧ Below W.heap.size W X') := fun W hW => (HP.out.below X hW).rleft HG.out
                  have HAp : Hid (∀ W, Below wl.heap.size wl W → Calls Try.prog 21 #[.pointer (some ⟨m, 0, none⟩), .agg #[.int .i64 gn, .int .i64 gk], .slice (some ⟨ib, 0, none⟩) 4 4] W fun e X' => e = .returned (.bool true) ∧ Below W.heap.size W X') := fun W hW => (HP.out.below X hW).apart X HG.out HFl2.out 4
                  have HLn : Hid (((Ino.mk xk xb x0 x1 x2 x3 xd)).b = ((strB ((fs).getD f [])).size : Int)) := by show _ = _; rw [strB_size]; exact (HFl2.out.at_ Hx2.out).2.symm
                  have HKeep : Hid (∀ W, Below wl.heap.size wl W → PlS W (Lay14.mk gb ob lb ib m) db (Geo.mk gn gk) f (Ino.mk xk xb x0 x1 x2 x3 xd) fs dw df do' dn (.slice Ab bn cb)) := fun W hW => (HP.out.below X hW).s Hx2.out (HD.out.below hW HD.out.lt)
                  go_wp2_with fail
                  have hC : Below wl.heap.size wl wl.drew := below_drewN (Below.refl _ _) 1
                  refine wp_region_held_drew (S := (fun W => PlS W (Lay14.mk gb ob lb ib m) db (Geo.mk gn gk) f (Ino.mk xk xb x0 x1 x2 x3 xd) fs dw df do' dn (.slice Ab bn cb))) (by kernel_rfl) (HKeep.out _ hC) (fun hHeld => ?_)
                  generalize wl.drew = wld at *
                  refine wpAnyH_take (i := 0) (oi := ⟨some 225, _, _, _, _, _⟩) (v := ?_) rfl (by kernel_rfl) (by kernel_rfl) (by kernel_rfl) (fun _ _ _ h => h) (Or.inl ⟨by rfl, ?_⟩) hHeld ?_
                  rotate_left
                  · intro w hSw
                    go_simp
                    with_reducible rfl
                  try go_frame
                  refine wpAnyH_take (i := 1) (oi := ⟨some 226, _, _, _, _, _⟩) (v := ?_) rfl (by kernel_rfl) (by kernel_rfl) (by kernel_rfl) (fun _ _ _ h => h) (Or.inl ⟨by rfl, ?_⟩) hHeld ?_
                  rotate_left
                  · intro w hSw
                    go_simp
                    with_reducible rfl
                  try go_frame
                  refine wpAnyH_ready (rs := [2]) (by kernel_rfl) (by simp) ?_
                  refine AllReadyH.cons (o := ⟨some 227, _, _, _, _, _⟩) rfl (fun K hK => ?_) AllReadyH.nil
                  go_simp
                  go_at_call 20
                  refine (HRL.out wld hC).mono ?_
                  rintro e wld_lf ⟨rfl, hb⟩
                  replace hC := hC.trans (hb.mono hC.size)
                  refine hK.out _ _ (HKeep.out _ hC) (fun hHeld => ?_)
                  clear hK K hb 
                  try go_frame
                  refine wpAnyH_take (i := 3) (oi := ⟨some 228, _, _, _, _, _⟩) (v := ?_) rfl (by kernel_rfl) (by kernel_rfl) (by kernel_rfl) (fun _ _ _ h => h) (Or.inl ⟨by rfl, ?_⟩) hHeld ?_
                  rotate_left
                  · intro w hSw
                    go_simp
                    with_reducible rfl
                  try go_frame
                  refine wpAnyH_take (i := 4) (oi := ⟨some 229, _, _, _, _, _⟩) (v := ?_) rfl (by kernel_rfl) (by kernel_rfl) (by kernel_rfl) (fun _ _ _ h => h) (Or.inl ⟨by rfl, ?_⟩) hHeld ?_
                  rotate_left
                  · intro w hSw
                    go_simp
                    with_reducible rfl
                  try go_frame
                  refine wpAnyH_take (i := 5) (oi := ⟨some 230, _, _, _, _, _⟩) (v := ?_) rfl (by kernel_rfl) (by kernel_rfl) (by kernel_rfl) (fun _ _ _ h => h) (Or.inl ⟨by rfl, ?_⟩) hHeld ?_
                  rotate_left
                  · intro w hSw
                    go_simp
                    with_reducible rfl
                  try go_frame
                  refine wpAnyH_take (i := 6) (oi := ⟨some 231, _, _, _, _, _⟩) (v := ?_) rfl (by kernel_rfl) (by kernel_rfl) (by kernel_rfl) (fun _ _ _ h => h) (Or.inl ⟨by rfl, ?_⟩) hHeld ?_
                  rotate_left
                  · intro w hSw
                    go_simp
                    with_reducible rfl
                  try go_frame
                  refine wpAnyH_take (i := 7) (oi := ⟨some 232, _, _, _, _, _⟩) (v := ?_) rfl (by kernel_rfl) (by kernel_rfl) (by kernel_rfl) (fun _ _ _ h => h) (Or.inl ⟨by rfl, ?_⟩) hHeld ?_
                  rotate_left
                  · intro w hSw
                    go_simp
                    with_reducible rfl
                  try go_frame
                  refine wpAnyH_take (i := 8) (oi := ⟨some 233, _, _, _, _, _⟩) (v := ?_) rfl (by kernel_rfl) (by kernel_rfl) (by kernel_rfl) (fun _ _ _ h => h) (Or.inl ⟨by rfl, ?_⟩) hHeld ?_
                  rotate_left
                  · intro w hSw
                    go_simp
                    with_reducible rfl
                  try go_frame
                  refine wpAnyH_take (i := 9) (oi := ⟨some 234, _, _, _, _, _⟩) (v := ?_) rfl (by kernel_rfl) (by kernel_rfl) (by kernel_rfl) (fun _ _ _ h => h) (Or.inl ⟨by rfl, ?_⟩) hHeld ?_
                  rotate_left
                  · intro w hSw
                    go_simp
                    with_reducible rfl
                  try go_frame
                  refine wpAnyH_take (i := 10) (oi := ⟨some 235, _, _, _, _, _⟩) (v := ?_) rfl (by kernel_rfl) (by kernel_rfl) (by kernel_rfl) (fun _ _ _ h => h) (Or.inl ⟨by rfl, ?_⟩) hHeld ?_
                  rotate_left
                  · intro w hSw
                    go_simp
                    with_reducible rfl
                  try go_frame
                  refine wpAnyH_take (i := 11) (oi := ⟨some 236, _, _, _, _, _⟩) (v := ?_) rfl (by kernel_rfl) (by kernel_rfl) (by kernel_rfl) (fun _ _ _ h => h) (Or.inl ⟨by rfl, ?_⟩) hHeld ?_
                  rotate_left
                  · intro w hSw
                    go_simp
                    with_reducible rfl
                  try go_frame
                  refine wpAnyH_take (i := 12) (oi := ⟨some 237, _, _, _, _, _⟩) (v := ?_) rfl (by kernel_rfl) (by kernel_rfl) (by kernel_rfl) (fun _ _ _ h => h) (Or.inl ⟨by rfl, ?_⟩) hHeld ?_
                  rotate_left
                  · intro w hSw
                    go_simp
                    with_reducible rfl
                  try go_frame
                  refine wpAnyH_take (i := 13) (oi := ⟨some 238, _, _, _, _, _⟩) (v := ?_) rfl (by kernel_rfl) (by kernel_rfl) (by kernel_rfl) (fun _ _ _ h => h) (Or.inl ⟨by rfl, ?_⟩) hHeld ?_
                  rotate_left
                  · intro w hSw
                    have hc := hSw.bytes
                    (try simp only at hc)
                    go_simp
                    with_reducible rfl
                  try go_frame
                  refine wpAnyH_take (i := 14) (oi := ⟨some 239, _, _, _, _, _⟩) (v := ?_) rfl (by kernel_rfl) (by kernel_rfl) (by kernel_rfl) (fun _ _ _ h => h) (Or.inl ⟨by rfl, ?_⟩) hHeld ?_
                  rotate_left
                  · intro w hSw
                    go_simp
                    with_reducible rfl
                  try go_frame
                  refine wpAnyH_take (i := 15) (oi := ⟨some 240, _, _, _, _, _⟩) (v := ?_) rfl (by kernel_rfl) (by kernel_rfl) (by kernel_rfl) (fun _ _ _ h => h) (Or.inl ⟨by rfl, ?_⟩) hHeld ?_
                  rotate_left
                  · intro w hSw
                    go_simp
                    with_reducible rfl
                  try go_frame
                  refine wpAnyH_take (i := 16) (oi := ⟨some 241, _, _, _, _, _⟩) (v := ?_) rfl (by kernel_rfl) (by kernel_rfl) (by kernel_rfl) (fun _ _ _ h => h) (Or.inl ⟨by rfl, ?_⟩) hHeld ?_
                  rotate_left
                  · intro w hSw
                    go_simp
                    with_reducible rfl
                  try go_frame
                  refine wpAnyH_take (i := 17) (oi := ⟨some 242, _, _, _, _, _⟩) (v := ?_) rfl (by kernel_rfl) (by kernel_rfl) (by kernel_rfl) (fun _ _ _ h => h) (Or.inl ⟨by rfl, ?_⟩) hHeld ?_
                  rotate_left
                  · intro w hSw
                    have hc := hSw.row
                    simp only at hc
                    go_simp
                    with_reducible rfl
                  try go_frame
                  refine wpAnyH_take (i := 18) (oi := ⟨some 243, _, _, _, _, _⟩) (v := ?_) rfl (by kernel_rfl) (by kernel_rfl) (by kernel_rfl) (fun _ _ _ h => h) (Or.inl ⟨by rfl, ?_⟩) hHeld ?_
                  rotate_left
                  · intro w hSw
                    go_simp
                    with_reducible rfl
                  try go_frame
                  refine wpAnyH_take (i := 19) (oi := ⟨some 244, _, _, _, _, _⟩) (v := ?_) rfl (by kernel_rfl) (by kernel_rfl) (by kernel_rfl) (fun _ _ _ h => h) (Or.inl ⟨by rfl, ?_⟩) hHeld ?_
                  rotate_left
                  · intro w hSw
                    go_simp
                    with_reducible rfl
                  try go_frame
                  refine wpAnyH_take (i := 20) (oi := ⟨some 245, _, _, _, _, _⟩) (v := ?_) rfl (by kernel_rfl) (by kernel_rfl) (by kernel_rfl) (fun _ _ _ h => h) (Or.inl ⟨by rfl, ?_⟩) hHeld ?_
                  rotate_left
                  · intro w hSw
                    have hc := hSw.fl.cell f hf4
                    simp only at hc
                    go_simp
                    with_reducible rfl
                  try go_frame
                  refine wpAnyH_take (i := 21) (oi := ⟨some 246, _, _, _, _, _⟩) (v := ?_) rfl (by kernel_rfl) (by kernel_rfl) (by kernel_rfl) (fun _ _ _ h => h) (Or.inl ⟨by rfl, ?_⟩) hHeld ?_
                  rotate_left
                  · intro w hSw
                    go_simp
                    with_reducible rfl
                  try go_frame
                  refine wpAnyH_take (i := 22) (oi := ⟨some 247, _, _, _, _, _⟩) (v := ?_) rfl (by kernel_rfl) (by kernel_rfl) (by kernel_rfl) (fun _ _ _ h => h) (Or.inl ⟨by rfl, ?_⟩) hHeld ?_
                  rotate_left
                  · intro w hSw
                    have hq := HLn.out
                    (try simp only at hq)
                    go_simp
                    with_reducible rfl
                  try go_frame
                  refine wpAnyH_take (i := 23) (oi := ⟨some 248, _, _, _, _, _⟩) (v := ?_) rfl (by kernel_rfl) (by kernel_rfl) (by kernel_rfl) (fun _ _ _ h => h) (Or.inl ⟨by rfl, ?_⟩) hHeld ?_
                  rotate_left
                  · intro w hSw
                    go_simp
                    with_reducible rfl
                  try go_frame
                  refine wpAnyH_take (i := 24) (oi := ⟨some 249, _, _, _, _, _⟩) (v := ?_) rfl (by kernel_rfl) (by kernel_rfl) (by kernel_rfl) (fun _ _ _ h => h) (Or.inl ⟨by rfl, ?_⟩) hHeld ?_
                  rotate_left
                  · intro w hSw
                    go_simp
                    with_reducible rfl
                  try go_frame
                  refine wpAnyH_take (i := 25) (oi := ⟨some 250, _, _, _, _, _⟩) (v := ?_) rfl (by kernel_rfl) (by kernel_rfl) (by kernel_rfl) (fun _ _ _ h => h) (Or.inl ⟨by rfl, ?_⟩) hHeld ?_
                  rotate_left
                  · intro w hSw
                    go_simp
                    with_reducible rfl
                  try go_frame
                  refine wpAnyH_take (i := 26) (oi := ⟨some 251, _, _, _, _, _⟩) (v := ?_) rfl (by kernel_rfl) (by kernel_rfl) (by kernel_rfl) (fun _ _ _ h => h) (Or.inl ⟨by rfl, ?_⟩) hHeld ?_
                  rotate_left
                  · intro w hSw
                    obtain ⟨hc0, hc1, hd0, hd1, hd2, hd3, hd4⟩ := hSw.cells
                    simp only at hc0 hc1 hd0 hd1 hd2 hd3 hd4
                    go_simp
                    with_reducible rfl
                  try go_frame
                  refine wpAnyH_take (i := 27) (oi := ⟨some 252, _, _, _, _, _⟩) (v := ?_) rfl (by kernel_rfl) (by kernel_rfl) (by kernel_rfl) (fun _ _ _ h => h) (Or.inl ⟨by rfl, ?_⟩) hHeld ?_
                  rotate_left
                  · intro w hSw
                    go_simp
                    with_reducible rfl
                  try go_frame
                  refine wpAnyH_ready (rs := [28]) (by kernel_rfl) (by simp) ?_
                  refine AllReadyH.cons (o := ⟨some 253, _, _, _, _, _⟩) rfl (fun K hK => ?_) AllReadyH.nil
                  go_simp
                  go_at_call 21
                  refine (HAp.out wld_lf hC).mono ?_
                  rintro e wld_lf_ap ⟨rfl, hb⟩
                  replace hC := hC.trans (hb.mono hC.size)
                  refine hK.out _ _ (HKeep.out _ hC) (fun hHeld => ?_)
                  clear hK K hb 
                  try go_frame
                  refine wpAnyH_take (i := 29) (oi := ⟨some 254, _, _, _, _, _⟩) (v := ?_) rfl (by kernel_rfl) (by kernel_rfl) (by kernel_rfl) (fun _ _ _ h => h) (Or.inl ⟨by rfl, ?_⟩) hHeld ?_
                  rotate_left
                  · intro w hSw
                    go_simp
                    with_reducible rfl
                  try go_frame
                  refine wpAnyH_take (i := 30) (oi := ⟨some 255, _, _, _, _, _⟩) (v := ?_) rfl (by kernel_rfl) (by kernel_rfl) (by kernel_rfl) (fun _ _ _ h => h) (Or.inl ⟨by rfl, ?_⟩) hHeld ?_
                  rotate_left
                  · intro w hSw
                    go_simp
                    with_reducible rfl
                  try go_frame
                  refine wpAnyH_done (by kernel_rfl) ?_ _
                  have HPe := Lib.hid ((HP.out.below X hC).also X (Below.refl _ _) (fun _ => False) (fun _ h => h.elim))
                  clear hHeld HKeep hC HP HD HRL HAp HLn
                  generalize wld_lf_ap = wz at *
                  go_wp2
                  go_roundw
                  case rel => exact ⟨k + 1, l, fs, bl, by omega, by go_num, HPe, HFl2⟩
                  case measure => simp [intOf]; omega
                · obtain ⟨rfl, hpb⟩ := Hpos.out (by omega) (by omega)
                  have Hpb := Lib.hid hpb
                  clear Hneg Hpos hpb
                  obtain ⟨sf, hsf⟩ : ∃ sf, sf = fs.getD f [] := ⟨_, rfl⟩
                  have Hsf := Lib.hid hsf
                  clear hsf
                  have HKeep : Hid (∀ W, Below w9.heap.size w9 W → (fun W => PlS W (Lay14.mk gb ob lb ib m) db (Geo.mk gn gk) f (Ino.mk xk xb x0 x1 x2 x3 xd) fs dw df do' dn (.slice Ab bn cb) ∧ W.cell? ⟨lb, f, none⟩ = some (.string (strB sf)) ∧ (convert 41 9 (.slice A7 bs7.length c7)).run Try.prog W = .ok (.string (strB bs7)) W) W) := fun W hW => ⟨(HP.out.below X hW).s Hx.out (HD.out.below hW HD.out.lt), by rw [Hsf.out]; exact (HP.out.below X hW).fl.cell f hf4, conv_arg (HV.out.below hW)⟩
                  have HPt : Hid (∀ W, Calls Try.prog 18 #[.string (strB sf), .int .i64 do', .int .i64 dn] W fun e w' => e = .returned (.string (strB bs7)) ∧ w' = W) := fun W => by rw [Hpb.out, Hsf.out]; exact RFiPart_any _ do' dn (by omega) (by omega) W
                  obtain ⟨hc0, hc1, hd0, hd1, hd2, hd3, hd4⟩ := (HP.out.s Hx.out HD.out).cells
                  simp only at hc0 hc1 hd0 hd1 hd2 hd3 hd4
                  go_wp2_with fail
                  clear hc0 hc1 hd0 hd1 hd2 hd3 hd4
                  have hC : Below w9.heap.size w9 w9.drew := below_drewN (Below.refl _ _) 1
                  refine wp_region_held_drew (S := (fun W => PlS W (Lay14.mk gb ob lb ib m) db (Geo.mk gn gk) f (Ino.mk xk xb x0 x1 x2 x3 xd) fs dw df do' dn (.slice Ab bn cb) ∧ W.cell? ⟨lb, f, none⟩ = some (.string (strB sf)) ∧ (convert 41 9 (.slice A7 bs7.length c7)).run Try.prog W = .ok (.string (strB bs7)) W)) (by kernel_rfl) (HKeep.out _ hC) (fun hHeld => ?_)
                  generalize w9.drew = w9d at *
                  refine wpAnyH_take (i := 0) (oi := ⟨some 133, _, _, _, _, _⟩) (v := ?_) rfl (by kernel_rfl) (by kernel_rfl) (by kernel_rfl) (fun _ _ _ h => h) (Or.inl ⟨by rfl, ?_⟩) hHeld ?_
                  rotate_left
                  · intro w hSw
                    go_simp
                    with_reducible rfl
                  try go_frame
                  refine wpAnyH_take (i := 1) (oi := ⟨some 134, _, _, _, _, _⟩) (v := ?_) rfl (by kernel_rfl) (by kernel_rfl) (by kernel_rfl) (fun _ _ _ h => h) (Or.inl ⟨by rfl, ?_⟩) hHeld ?_
                  rotate_left
                  · intro w hSw
                    have hcv := hSw.2.2
                    go_simp
                    with_reducible rfl
                  try go_frame
                  refine wpAnyH_take (i := 2) (oi := ⟨some 135, _, _, _, _, _⟩) (v := ?_) rfl (by kernel_rfl) (by kernel_rfl) (by kernel_rfl) (fun _ _ _ h => h) (Or.inl ⟨by rfl, ?_⟩) hHeld ?_
                  rotate_left
                  · intro w hSw
                    go_simp
                    with_reducible rfl
                  try go_frame
                  refine wpAnyH_take (i := 3) (oi := ⟨some 136, _, _, _, _, _⟩) (v := ?_) rfl (by kernel_rfl) (by kernel_rfl) (by kernel_rfl) (fun _ _ _ h => h) (Or.inl ⟨by rfl, ?_⟩) hHeld ?_
                  rotate_left
                  · intro w hSw
                    go_simp
                    with_reducible rfl
                  try go_frame
                  refine wpAnyH_take (i := 4) (oi := ⟨some 137, _, _, _, _, _⟩) (v := ?_) rfl (by kernel_rfl) (by kernel_rfl) (by kernel_rfl) (fun _ _ _ h => h) (Or.inl ⟨by rfl, ?_⟩) hHeld ?_
                  rotate_left
                  · intro w hSw
                    go_simp
                    with_reducible rfl
                  try go_frame
                  refine wpAnyH_take (i := 5) (oi := ⟨some 138, _, _, _, _, _⟩) (v := ?_) rfl (by kernel_rfl) (by kernel_rfl) (by kernel_rfl) (fun _ _ _ h => h) (Or.inl ⟨by rfl, ?_⟩) hHeld ?_
                  rotate_left
                  · intro w hSw
                    have hc := hSw.1.row
                    simp only at hc
                    go_simp
                    with_reducible rfl
                  try go_frame
                  refine wpAnyH_take (i := 6) (oi := ⟨some 139, _, _, _, _, _⟩) (v := ?_) rfl (by kernel_rfl) (by kernel_rfl) (by kernel_rfl) (fun _ _ _ h => h) (Or.inl ⟨by rfl, ?_⟩) hHeld ?_
                  rotate_left
                  · intro w hSw
                    go_simp
                    with_reducible rfl
                  try go_frame
                  refine wpAnyH_take (i := 7) (oi := ⟨some 140, _, _, _, _, _⟩) (v := ?_) rfl (by kernel_rfl) (by kernel_rfl) (by kernel_rfl) (fun _ _ _ h => h) (Or.inl ⟨by rfl, ?_⟩) hHeld ?_
                  rotate_left
                  · intro w hSw
                    go_simp
                    with_reducible rfl
                  try go_frame
                  refine wpAnyH_take (i := 8) (oi := ⟨some 141, _, _, _, _, _⟩) (v := ?_) rfl (by kernel_rfl) (by kernel_rfl) (by kernel_rfl) (fun _ _ _ h => h) (Or.inl ⟨by rfl, ?_⟩) hHeld ?_
                  rotate_left
                  · intro w hSw
                    have hc := hSw.2.1
                    go_simp
                    with_reducible rfl
                  try go_frame
                  refine wpAnyH_take (i := 9) (oi := ⟨some 142, _, _, _, _, _⟩) (v := ?_) rfl (by kernel_rfl) (by kernel_rfl) (by kernel_rfl) (fun _ _ _ h => h) (Or.inl ⟨by rfl, ?_⟩) hHeld ?_
                  rotate_left
                  · intro w hSw
                    go_simp
                    with_reducible rfl
                  try go_frame
                  refine wpAnyH_take (i := 10) (oi := ⟨some 143, _, _, _, _, _⟩) (v := ?_) rfl (by kernel_rfl) (by kernel_rfl) (by kernel_rfl) (fun _ _ _ h => h) (Or.inl ⟨by rfl, ?_⟩) hHeld ?_
                  rotate_left
                  · intro w hSw
                    obtain ⟨hS1, -, -⟩ := hSw
                    obtain ⟨hc0, hc1, hd0, hd1, hd2, hd3, hd4⟩ := hS1.cells
                    simp only at hc0 hc1 hd0 hd1 hd2 hd3 hd4
                    go_simp
                    with_reducible rfl
                  try go_frame
                  refine wpAnyH_take (i := 11) (oi := ⟨some 144, _, _, _, _, _⟩) (v := ?_) rfl (by kernel_rfl) (by kernel_rfl) (by kernel_rfl) (fun _ _ _ h => h) (Or.inl ⟨by rfl, ?_⟩) hHeld ?_
                  rotate_left
                  · intro w hSw
                    go_simp
                    with_reducible rfl
                  try go_frame
                  refine wpAnyH_take (i := 12) (oi := ⟨some 145, _, _, _, _, _⟩) (v := ?_) rfl (by kernel_rfl) (by kernel_rfl) (by kernel_rfl) (fun _ _ _ h => h) (Or.inl ⟨by rfl, ?_⟩) hHeld ?_
                  rotate_left
                  · intro w hSw
                    obtain ⟨hS1, -, -⟩ := hSw
                    obtain ⟨hc0, hc1, hd0, hd1, hd2, hd3, hd4⟩ := hS1.cells
                    simp only at hc0 hc1 hd0 hd1 hd2 hd3 hd4
                    go_simp
                    with_reducible rfl
                  try go_frame
                  refine wpAnyH_ready (rs := [13]) (by kernel_rfl) (by simp) ?_
                  refine AllReadyH.cons (o := ⟨some 146, _, _, _, _, _⟩) rfl (fun K hK => ?_) AllReadyH.nil
                  go_simp
                  go_at_call 18
                  refine (HPt.out _).mono ?_
                  rintro e wq ⟨rfl, hwq⟩
                  rw [hwq]
                  clear hwq wq
                  refine hK.out _ _ (HKeep.out _ hC) (fun hHeld => ?_)
                  clear hK K
                  try go_frame
                  refine wpAnyH_take (i := 14) (oi := ⟨some 147, _, _, _, _, _⟩) (v := ?_) rfl (by kernel_rfl) (by kernel_rfl) (by kernel_rfl) (fun _ _ _ h => h) (Or.inl ⟨by rfl, ?_⟩) hHeld ?_
                  rotate_left
                  · intro w hSw
                    go_simp
                    with_reducible rfl
                  try go_frame
                  refine wpAnyH_done (by kernel_rfl) ?_ _
                  have HP' := Lib.hid (HP.out.below X hC)
                  have HD' := Lib.hid (HD.out.below hC HD.out.lt)
                  have HY' := Lib.hid (HY.out.below hC HY.out.lt)
                  clear hHeld HKeep HP HD HY HV HPt Hpb Hsf
                  have HP := HP'
                  have HD := HD'
                  have HY := HY'
                  clear HP' HD' HY' hC
                  generalize w9d = w10 at *
                  have HFl2 := Lib.hid (Files.same HFl.out Hx.out)
                  have Hx2 : Hid ((l.set f (Ino.mk xk xb x0 x1 x2 x3 xd))[f]? = some (Ino.mk xk xb x0 x1 x2 x3 xd)) := List.getElem?_set_self (List.getElem?_eq_some_iff.1 Hx.out).1
                  have HTh : Hid (w10.there ib (f * 7) ((Ino.mk xk xb x0 x1 x2 x3 xd).l.map VI).toArray.size) := by
                    have h := (HP.out.ino f _ Hx.out).2
                    rw [List.length_map, l_len] at h
                    show World.there _ _ _ _
                    rw [List.size_toArray, List.length_map, l_len]
                    exact h
                  have hput := HP.out.put X hf4 (Ino.mk xk xb x0 x1 x2 x3 xd)
                  obtain ⟨wp, hwp⟩ : ∃ W, W = w10.setCells ib (f * 7) ((Ino.mk xk xb x0 x1 x2 x3 xd).l.map VI) := ⟨_, rfl⟩
                  have HQ : Hid (PlW C w wp (Lay14.mk gb ob lb ib m) (fun k => k = db ∨ k = yb) (Geo.mk gn gk) (l.set f (Ino.mk xk xb x0 x1 x2 x3 xd)) fs bl) := by have := hput.1; dsimp only at this; rwa [← hwp] at this
                  have HDQ : Hid (Row wp db 43 [.int .i64 dw, .int .i64 df, .int .i64 do', .int .i64 dn, .slice Ab bn cb]) := by have := hput.2; dsimp only at this; rw [← hwp] at this; exact HD.out.chg this fun _ e => HDi.out e
                  have Hwp := Lib.hid hwp
                  clear hput hwp
                  have HLf := Lib.hid (HQ.out.left X HG.out HFl2.out)
                  obtain ⟨hc0, hc1, hd0, hd1, hd2, hd3, hd4⟩ := (HQ.out.s Hx2.out HDQ.out).cells
                  simp only at hc0 hc1 hd0 hd1 hd2 hd3 hd4
                  go_wp2_with (first | (refine wpList_load_mid rfl 40 (.tmp 15) rfl yb 0 rfl ((Ino.mk xk xb x0 x1 x2 x3 xd).l.map VI) _ HY.out.here.1 Try.underlying40 rfl (infoInoL _) ?_) | (refine wpList_store_mid rfl 40 (.tmp 217) (.tmp 216) rfl ib (f * 7) ((Ino.mk xk xb x0 x1 x2 x3 xd).l.map VI).toArray rfl rfl HTh.out (infoInoS _) (oneIn _) ?_; rw [show (List.map VI (Ino.l (Ino.mk xk xb x0 x1 x2 x3 xd))).toArray.toList = List.map VI (Ino.l (Ino.mk xk xb x0 x1 x2 x3 xd)) from rfl, ← Hwp.out]))
                  clear HTh Hwp HP HD HY
                  refine HLf.out.mono ?_
                  rintro e wl ⟨rfl, hb⟩
                  clear hc0 hc1 hd0 hd1 hd2 hd3 hd4
                  have HP := Lib.hid (HQ.out.below X hb)
                  have HD := Lib.hid (HDQ.out.below hb HDQ.out.lt)
                  clear HQ HDQ HLf hb
                  have HRL : Hid (∀ W, Below wl.heap.size wl W → Calls Try.prog 20 #[.pointer (some ⟨ob, 0, none⟩)] W fun e X' => e = .returned (.int .i64 (gleft (Geo.mk gn gk) fs)) ∧ Below W.heap.size W X') := fun W hW => (HP.out.below X hW).rleft HG.out
                  have HAp : Hid (∀ W, Below wl.heap.size wl W → Calls Try.prog 21 #[.pointer (some ⟨m, 0, none⟩), .agg #[.int .i64 gn, .int .i64 gk], .slice (some ⟨ib, 0, none⟩) 4 4] W fun e X' => e = .returned (.bool true) ∧ Below W.heap.size W X') := fun W hW => (HP.out.below X hW).apart X HG.out HFl2.out 4
                  have HLn : Hid (((Ino.mk xk xb x0 x1 x2 x3 xd)).b = ((strB ((fs).getD f [])).size : Int)) := by show _ = _; rw [strB_size]; exact (HFl2.out.at_ Hx2.out).2.symm
                  have HKeep : Hid (∀ W, Below wl.heap.size wl W → PlS W (Lay14.mk gb ob lb ib m) db (Geo.mk gn gk) f (Ino.mk xk xb x0 x1 x2 x3 xd) fs dw df do' dn (.slice Ab bn cb)) := fun W hW => (HP.out.below X hW).s Hx2.out (HD.out.below hW HD.out.lt)
                  go_wp2_with fail
                  have hC : Below wl.heap.size wl wl.drew := below_drewN (Below.refl _ _) 1
                  refine wp_region_held_drew (S := (fun W => PlS W (Lay14.mk gb ob lb ib m) db (Geo.mk gn gk) f (Ino.mk xk xb x0 x1 x2 x3 xd) fs dw df do' dn (.slice Ab bn cb))) (by kernel_rfl) (HKeep.out _ hC) (fun hHeld => ?_)
                  generalize wl.drew = wld at *
                  refine wpAnyH_take (i := 0) (oi := ⟨some 225, _, _, _, _, _⟩) (v := ?_) rfl (by kernel_rfl) (by kernel_rfl) (by kernel_rfl) (fun _ _ _ h => h) (Or.inl ⟨by rfl, ?_⟩) hHeld ?_
                  rotate_left
                  · intro w hSw
                    go_simp
                    with_reducible rfl
                  try go_frame
                  refine wpAnyH_take (i := 1) (oi := ⟨some 226, _, _, _, _, _⟩) (v := ?_) rfl (by kernel_rfl) (by kernel_rfl) (by kernel_rfl) (fun _ _ _ h => h) (Or.inl ⟨by rfl, ?_⟩) hHeld ?_
                  rotate_left
                  · intro w hSw
                    go_simp
                    with_reducible rfl
                  try go_frame
                  refine wpAnyH_ready (rs := [2]) (by kernel_rfl) (by simp) ?_
                  refine AllReadyH.cons (o := ⟨some 227, _, _, _, _, _⟩) rfl (fun K hK => ?_) AllReadyH.nil
                  go_simp
                  go_at_call 20
                  refine (HRL.out wld hC).mono ?_
                  rintro e wld_lf ⟨rfl, hb⟩
                  replace hC := hC.trans (hb.mono hC.size)
                  refine hK.out _ _ (HKeep.out _ hC) (fun hHeld => ?_)
                  clear hK K hb 
                  try go_frame
                  refine wpAnyH_take (i := 3) (oi := ⟨some 228, _, _, _, _, _⟩) (v := ?_) rfl (by kernel_rfl) (by kernel_rfl) (by kernel_rfl) (fun _ _ _ h => h) (Or.inl ⟨by rfl, ?_⟩) hHeld ?_
                  rotate_left
                  · intro w hSw
                    go_simp
                    with_reducible rfl
                  try go_frame
                  refine wpAnyH_take (i := 4) (oi := ⟨some 229, _, _, _, _, _⟩) (v := ?_) rfl (by kernel_rfl) (by kernel_rfl) (by kernel_rfl) (fun _ _ _ h => h) (Or.inl ⟨by rfl, ?_⟩) hHeld ?_
                  rotate_left
                  · intro w hSw
                    go_simp
                    with_reducible rfl
                  try go_frame
                  refine wpAnyH_take (i := 5) (oi := ⟨some 230, _, _, _, _, _⟩) (v := ?_) rfl (by kernel_rfl) (by kernel_rfl) (by kernel_rfl) (fun _ _ _ h => h) (Or.inl ⟨by rfl, ?_⟩) hHeld ?_
                  rotate_left
                  · intro w hSw
                    go_simp
                    with_reducible rfl
                  try go_frame
                  refine wpAnyH_take (i := 6) (oi := ⟨some 231, _, _, _, _, _⟩) (v := ?_) rfl (by kernel_rfl) (by kernel_rfl) (by kernel_rfl) (fun _ _ _ h => h) (Or.inl ⟨by rfl, ?_⟩) hHeld ?_
                  rotate_left
                  · intro w hSw
                    go_simp
                    with_reducible rfl
                  try go_frame
                  refine wpAnyH_take (i := 7) (oi := ⟨some 232, _, _, _, _, _⟩) (v := ?_) rfl (by kernel_rfl) (by kernel_rfl) (by kernel_rfl) (fun _ _ _ h => h) (Or.inl ⟨by rfl, ?_⟩) hHeld ?_
                  rotate_left
                  · intro w hSw
                    go_simp
                    with_reducible rfl
                  try go_frame
                  refine wpAnyH_take (i := 8) (oi := ⟨some 233, _, _, _, _, _⟩) (v := ?_) rfl (by kernel_rfl) (by kernel_rfl) (by kernel_rfl) (fun _ _ _ h => h) (Or.inl ⟨by rfl, ?_⟩) hHeld ?_
                  rotate_left
                  · intro w hSw
                    go_simp
                    with_reducible rfl
                  try go_frame
                  refine wpAnyH_take (i := 9) (oi := ⟨some 234, _, _, _, _, _⟩) (v := ?_) rfl (by kernel_rfl) (by kernel_rfl) (by kernel_rfl) (fun _ _ _ h => h) (Or.inl ⟨by rfl, ?_⟩) hHeld ?_
                  rotate_left
                  · intro w hSw
                    go_simp
                    with_reducible rfl
                  try go_frame
                  refine wpAnyH_take (i := 10) (oi := ⟨some 235, _, _, _, _, _⟩) (v := ?_) rfl (by kernel_rfl) (by kernel_rfl) (by kernel_rfl) (fun _ _ _ h => h) (Or.inl ⟨by rfl, ?_⟩) hHeld ?_
                  rotate_left
                  · intro w hSw
                    go_simp
                    with_reducible rfl
                  try go_frame
                  refine wpAnyH_take (i := 11) (oi := ⟨some 236, _, _, _, _, _⟩) (v := ?_) rfl (by kernel_rfl) (by kernel_rfl) (by kernel_rfl) (fun _ _ _ h => h) (Or.inl ⟨by rfl, ?_⟩) hHeld ?_
                  rotate_left
                  · intro w hSw
                    go_simp
                    with_reducible rfl
                  try go_frame
                  refine wpAnyH_take (i := 12) (oi := ⟨some 237, _, _, _, _, _⟩) (v := ?_) rfl (by kernel_rfl) (by kernel_rfl) (by kernel_rfl) (fun _ _ _ h => h) (Or.inl ⟨by rfl, ?_⟩) hHeld ?_
                  rotate_left
                  · intro w hSw
                    go_simp
                    with_reducible rfl
                  try go_frame
                  refine wpAnyH_take (i := 13) (oi := ⟨some 238, _, _, _, _, _⟩) (v := ?_) rfl (by kernel_rfl) (by kernel_rfl) (by kernel_rfl) (fun _ _ _ h => h) (Or.inl ⟨by rfl, ?_⟩) hHeld ?_
                  rotate_left
                  · intro w hSw
                    have hc := hSw.bytes
                    (try simp only at hc)
                    go_simp
                    with_reducible rfl
                  try go_frame
                  refine wpAnyH_take (i := 14) (oi := ⟨some 239, _, _, _, _, _⟩) (v := ?_) rfl (by kernel_rfl) (by kernel_rfl) (by kernel_rfl) (fun _ _ _ h => h) (Or.inl ⟨by rfl, ?_⟩) hHeld ?_
                  rotate_left
                  · intro w hSw
                    go_simp
                    with_reducible rfl
                  try go_frame
                  refine wpAnyH_take (i := 15) (oi := ⟨some 240, _, _, _, _, _⟩) (v := ?_) rfl (by kernel_rfl) (by kernel_rfl) (by kernel_rfl) (fun _ _ _ h => h) (Or.inl ⟨by rfl, ?_⟩) hHeld ?_
                  rotate_left
                  · intro w hSw
                    go_simp
                    with_reducible rfl
                  try go_frame
                  refine wpAnyH_take (i := 16) (oi := ⟨some 241, _, _, _, _, _⟩) (v := ?_) rfl (by kernel_rfl) (by kernel_rfl) (by kernel_rfl) (fun _ _ _ h => h) (Or.inl ⟨by rfl, ?_⟩) hHeld ?_
                  rotate_left
                  · intro w hSw
                    go_simp
                    with_reducible rfl
                  try go_frame
                  refine wpAnyH_take (i := 17) (oi := ⟨some 242, _, _, _, _, _⟩) (v := ?_) rfl (by kernel_rfl) (by kernel_rfl) (by kernel_rfl) (fun _ _ _ h => h) (Or.inl ⟨by rfl, ?_⟩) hHeld ?_
                  rotate_left
                  · intro w hSw
                    have hc := hSw.row
                    simp only at hc
                    go_simp
                    with_reducible rfl
                  try go_frame
                  refine wpAnyH_take (i := 18) (oi := ⟨some 243, _, _, _, _, _⟩) (v := ?_) rfl (by kernel_rfl) (by kernel_rfl) (by kernel_rfl) (fun _ _ _ h => h) (Or.inl ⟨by rfl, ?_⟩) hHeld ?_
                  rotate_left
                  · intro w hSw
                    go_simp
                    with_reducible rfl
                  try go_frame
                  refine wpAnyH_take (i := 19) (oi := ⟨some 244, _, _, _, _, _⟩) (v := ?_) rfl (by kernel_rfl) (by kernel_rfl) (by kernel_rfl) (fun _ _ _ h => h) (Or.inl ⟨by rfl, ?_⟩) hHeld ?_
                  rotate_left
                  · intro w hSw
                    go_simp
                    with_reducible rfl
                  try go_frame
                  refine wpAnyH_take (i := 20) (oi := ⟨some 245, _, _, _, _, _⟩) (v := ?_) rfl (by kernel_rfl) (by kernel_rfl) (by kernel_rfl) (fun _ _ _ h => h) (Or.inl ⟨by rfl, ?_⟩) hHeld ?_
                  rotate_left
                  · intro w hSw
                    have hc := hSw.fl.cell f hf4
                    simp only at hc
                    go_simp
                    with_reducible rfl
                  try go_frame
                  refine wpAnyH_take (i := 21) (oi := ⟨some 246, _, _, _, _, _⟩) (v := ?_) rfl (by kernel_rfl) (by kernel_rfl) (by kernel_rfl) (fun _ _ _ h => h) (Or.inl ⟨by rfl, ?_⟩) hHeld ?_
                  rotate_left
                  · intro w hSw
                    go_simp
                    with_reducible rfl
                  try go_frame
                  refine wpAnyH_take (i := 22) (oi := ⟨some 247, _, _, _, _, _⟩) (v := ?_) rfl (by kernel_rfl) (by kernel_rfl) (by kernel_rfl) (fun _ _ _ h => h) (Or.inl ⟨by rfl, ?_⟩) hHeld ?_
                  rotate_left
                  · intro w hSw
                    have hq := HLn.out
                    (try simp only at hq)
                    go_simp
                    with_reducible rfl
                  try go_frame
                  refine wpAnyH_take (i := 23) (oi := ⟨some 248, _, _, _, _, _⟩) (v := ?_) rfl (by kernel_rfl) (by kernel_rfl) (by kernel_rfl) (fun _ _ _ h => h) (Or.inl ⟨by rfl, ?_⟩) hHeld ?_
                  rotate_left
                  · intro w hSw
                    go_simp
                    with_reducible rfl
                  try go_frame
                  refine wpAnyH_take (i := 24) (oi := ⟨some 249, _, _, _, _, _⟩) (v := ?_) rfl (by kernel_rfl) (by kernel_rfl) (by kernel_rfl) (fun _ _ _ h => h) (Or.inl ⟨by rfl, ?_⟩) hHeld ?_
                  rotate_left
                  · intro w hSw
                    go_simp
                    with_reducible rfl
                  try go_frame
                  refine wpAnyH_take (i := 25) (oi := ⟨some 250, _, _, _, _, _⟩) (v := ?_) rfl (by kernel_rfl) (by kernel_rfl) (by kernel_rfl) (fun _ _ _ h => h) (Or.inl ⟨by rfl, ?_⟩) hHeld ?_
                  rotate_left
                  · intro w hSw
                    go_simp
                    with_reducible rfl
                  try go_frame
                  refine wpAnyH_take (i := 26) (oi := ⟨some 251, _, _, _, _, _⟩) (v := ?_) rfl (by kernel_rfl) (by kernel_rfl) (by kernel_rfl) (fun _ _ _ h => h) (Or.inl ⟨by rfl, ?_⟩) hHeld ?_
                  rotate_left
                  · intro w hSw
                    obtain ⟨hc0, hc1, hd0, hd1, hd2, hd3, hd4⟩ := hSw.cells
                    simp only at hc0 hc1 hd0 hd1 hd2 hd3 hd4
                    go_simp
                    with_reducible rfl
                  try go_frame
                  refine wpAnyH_take (i := 27) (oi := ⟨some 252, _, _, _, _, _⟩) (v := ?_) rfl (by kernel_rfl) (by kernel_rfl) (by kernel_rfl) (fun _ _ _ h => h) (Or.inl ⟨by rfl, ?_⟩) hHeld ?_
                  rotate_left
                  · intro w hSw
                    go_simp
                    with_reducible rfl
                  try go_frame
                  refine wpAnyH_ready (rs := [28]) (by kernel_rfl) (by simp) ?_
                  refine AllReadyH.cons (o := ⟨some 253, _, _, _, _, _⟩) rfl (fun K hK => ?_) AllReadyH.nil
                  go_simp
                  go_at_call 21
                  refine (HAp.out wld_lf hC).mono ?_
                  rintro e wld_lf_ap ⟨rfl, hb⟩
                  replace hC := hC.trans (hb.mono hC.size)
                  refine hK.out _ _ (HKeep.out _ hC) (fun hHeld => ?_)
                  clear hK K hb 
                  try go_frame
                  refine wpAnyH_take (i := 29) (oi := ⟨some 254, _, _, _, _, _⟩) (v := ?_) rfl (by kernel_rfl) (by kernel_rfl) (by kernel_rfl) (fun _ _ _ h => h) (Or.inl ⟨by rfl, ?_⟩) hHeld ?_
                  rotate_left
                  · intro w hSw
                    go_simp
                    with_reducible rfl
                  try go_frame
                  refine wpAnyH_take (i := 30) (oi := ⟨some 255, _, _, _, _, _⟩) (v := ?_) rfl (by kernel_rfl) (by kernel_rfl) (by kernel_rfl) (fun _ _ _ h => h) (Or.inl ⟨by rfl, ?_⟩) hHeld ?_
                  rotate_left
                  · intro w hSw
                    go_simp
                    with_reducible rfl
                  try go_frame
                  refine wpAnyH_done (by kernel_rfl) ?_ _
                  have HPe := Lib.hid ((HP.out.below X hC).also X (Below.refl _ _) (fun _ => False) (fun _ h => h.elim))
                  clear hHeld HKeep hC HP HD HRL HAp HLn
                  generalize wld_lf_ap = wz at *
                  go_wp2
                  go_roundw
                  case rel => exact ⟨k + 1, (l.set f (Ino.mk xk xb x0 x1 x2 x3 xd)), fs, bl, by omega, by go_num, HPe, HFl2⟩
                  case measure => simp [intOf]; omega
        · obtain rfl : k = n := by omega
          as_aux_lemma =>
            clear HL
            have hk4 : (4 : Nat) ≤ 4 := Nat.le_refl _
            go_wp2
            go_loopw [21] (fun i wr => ∃ f : Nat, f ≤ 4 ∧ i = .int .i64 f ∧ Hid (PlW C w wr (Lay14.mk gb ob lb ib m) (fun _ => False) (Geo.mk gn gk) l fs bl)) (fun i _ => 4 - (intOf i).toNat)
            case atStart => exact ⟨0, by omega, rfl, HP⟩
            case round =>
              rename World => wr
              clear HP
              obtain ⟨f, hf, rfl, HP⟩ := hrel
              by_cases hf4 : f < 4
              · obtain ⟨x, hx⟩ : ∃ x, l[f]? = some x := ⟨_, List.getElem?_eq_getElem (by rw [HP.out.four]; exact hf4)⟩
                have Hx := Lib.hid hx
                clear hx
                obtain ⟨xk, xb, x0, x1, x2, x3, xd⟩ := x
                have HRg : Hid (wr.rangeAt ib (f * 7) [.int .i64 xk, .int .i64 xb, .int .i64 x0, .int .i64 x1, .int .i64 x2, .int .i64 x3, .int .i64 xd]) := (HP.out.ino f _ Hx.out).1
                have HRd := Lib.hid (HP.out.read X HFl.out Hx.out 0 3000 H0.out H3.out)
                go_wp2_with (refine wpList_load_mid rfl 40 (.tmp 265) rfl ib (f * 7) rfl [.int .i64 xk, .int .i64 xb, .int .i64 x0, .int .i64 x1, .int .i64 x2, .int .i64 x3, .int .i64 xd] _ HRg.out Try.underlying40 rfl infoIno ?_)
                refine HRd.out.mono ?_
                rintro e w9 ⟨v7, bs7, h7, rfl, -, hpos, hv, hb⟩
                obtain ⟨A7, c7, rfl⟩ := hv.out.arg.form
                obtain ⟨rfl, hbs⟩ := hpos (by omega) (by omega)
                rw [piece_all (HP.out.fl.at_ f hf4)] at hbs
                have Hbs := Lib.hid hbs
                clear hbs
                have HV := Lib.hid hv.out.arg
                have HP9 := Lib.hid (HP.out.below X hb)
                clear hpos hv hb HP HRd HRg
                have HKeep : Hid (∀ W, Below w9.heap.size w9 W → (fun W => FlAt W ob lb (Geo.mk gn gk) fs ∧ W.cell? ⟨lb, f, none⟩ = some (.string (strB bs7)) ∧ (convert 41 9 (.slice A7 bs7.length c7)).run Try.prog W = .ok (.string (strB bs7)) W) W) := fun W hW => ⟨(HP9.out.below X hW).fl, by rw [Hbs.out]; exact (HP9.out.below X hW).fl.cell f hf4, conv_arg (HV.out.below hW)⟩
                go_wp2_with fail
                have hC : Below w9.heap.size w9 w9.drew := below_drewN (Below.refl _ _) 1
                refine wp_region_held_drew (S := (fun W => FlAt W ob lb (Geo.mk gn gk) fs ∧ W.cell? ⟨lb, f, none⟩ = some (.string (strB bs7)) ∧ (convert 41 9 (.slice A7 bs7.length c7)).run Try.prog W = .ok (.string (strB bs7)) W)) (by kernel_rfl) (HKeep.out _ hC) (fun hHeld => ?_)
                generalize w9.drew = w9d at *
                refine wpAnyH_take (i := 0) (oi := ⟨some 270, _, _, _, _, _⟩) (v := ?_) rfl (by kernel_rfl) (by kernel_rfl) (by kernel_rfl) (fun _ _ _ h => h) (Or.inl ⟨by rfl, ?_⟩) hHeld ?_
                rotate_left
                · intro w hSw
                  go_simp
                  with_reducible rfl
                try go_frame
                refine wpAnyH_take (i := 1) (oi := ⟨some 271, _, _, _, _, _⟩) (v := ?_) rfl (by kernel_rfl) (by kernel_rfl) (by kernel_rfl) (fun _ _ _ h => h) (Or.inl ⟨by rfl, ?_⟩) hHeld ?_
                rotate_left
                · intro w hSw
                  have hcv := hSw.2.2
                  go_simp
                  with_reducible rfl
                try go_frame
                refine wpAnyH_take (i := 2) (oi := ⟨some 272, _, _, _, _, _⟩) (v := ?_) rfl (by kernel_rfl) (by kernel_rfl) (by kernel_rfl) (fun _ _ _ h => h) (Or.inl ⟨by rfl, ?_⟩) hHeld ?_
                rotate_left
                · intro w hSw
                  go_simp
                  with_reducible rfl
                try go_frame
                refine wpAnyH_take (i := 3) (oi := ⟨some 273, _, _, _, _, _⟩) (v := ?_) rfl (by kernel_rfl) (by kernel_rfl) (by kernel_rfl) (fun _ _ _ h => h) (Or.inl ⟨by rfl, ?_⟩) hHeld ?_
                rotate_left
                · intro w hSw
                  go_simp
                  with_reducible rfl
                try go_frame
                refine wpAnyH_take (i := 4) (oi := ⟨some 274, _, _, _, _, _⟩) (v := ?_) rfl (by kernel_rfl) (by kernel_rfl) (by kernel_rfl) (fun _ _ _ h => h) (Or.inl ⟨by rfl, ?_⟩) hHeld ?_
                rotate_left
                · intro w hSw
                  go_simp
                  with_reducible rfl
                try go_frame
                refine wpAnyH_take (i := 5) (oi := ⟨some 275, _, _, _, _, _⟩) (v := ?_) rfl (by kernel_rfl) (by kernel_rfl) (by kernel_rfl) (fun _ _ _ h => h) (Or.inl ⟨by rfl, ?_⟩) hHeld ?_
                rotate_left
                · intro w hSw
                  have hc : w.cell? ⟨ob, 2, none⟩ = some (.slice (some ⟨lb, 0, none⟩) 4 4) := hSw.1.head.cell 2
                  go_simp
                  with_reducible rfl
                try go_frame
                refine wpAnyH_take (i := 6) (oi := ⟨some 276, _, _, _, _, _⟩) (v := ?_) rfl (by kernel_rfl) (by kernel_rfl) (by kernel_rfl) (fun _ _ _ h => h) (Or.inl ⟨by rfl, ?_⟩) hHeld ?_
                rotate_left
                · intro w hSw
                  go_simp
                  with_reducible rfl
                try go_frame
                refine wpAnyH_take (i := 7) (oi := ⟨some 277, _, _, _, _, _⟩) (v := ?_) rfl (by kernel_rfl) (by kernel_rfl) (by kernel_rfl) (fun _ _ _ h => h) (Or.inl ⟨by rfl, ?_⟩) hHeld ?_
                rotate_left
                · intro w hSw
                  go_simp
                  with_reducible rfl
                try go_frame
                refine wpAnyH_take (i := 8) (oi := ⟨some 278, _, _, _, _, _⟩) (v := ?_) rfl (by kernel_rfl) (by kernel_rfl) (by kernel_rfl) (fun _ _ _ h => h) (Or.inl ⟨by rfl, ?_⟩) hHeld ?_
                rotate_left
                · intro w hSw
                  have hc := hSw.2.1
                  go_simp
                  with_reducible rfl
                try go_frame
                refine wpAnyH_take (i := 9) (oi := ⟨some 279, _, _, _, _, _⟩) (v := ?_) rfl (by kernel_rfl) (by kernel_rfl) (by kernel_rfl) (fun _ _ _ h => h) (Or.inl ⟨by rfl, ?_⟩) hHeld ?_
                rotate_left
                · intro w hSw
                  go_simp
                  with_reducible rfl
                try go_frame
                refine wpAnyH_take (i := 10) (oi := ⟨some 280, _, _, _, _, _⟩) (v := ?_) rfl (by kernel_rfl) (by kernel_rfl) (by kernel_rfl) (fun _ _ _ h => h) (Or.inl ⟨by rfl, ?_⟩) hHeld ?_
                rotate_left
                · intro w hSw
                  go_simp
                  with_reducible rfl
                try go_frame
                refine wpAnyH_take (i := 11) (oi := ⟨some 281, _, _, _, _, _⟩) (v := ?_) rfl (by kernel_rfl) (by kernel_rfl) (by kernel_rfl) (fun _ _ _ h => h) (Or.inl ⟨by rfl, ?_⟩) hHeld ?_
                rotate_left
                · intro w hSw
                  go_simp
                  with_reducible rfl
                try go_frame
                refine wpAnyH_take (i := 12) (oi := ⟨some 282, _, _, _, _, _⟩) (v := ?_) rfl (by kernel_rfl) (by kernel_rfl) (by kernel_rfl) (fun _ _ _ h => h) (Or.inl ⟨by rfl, ?_⟩) hHeld ?_
                rotate_left
                · intro w hSw
                  go_simp
                  with_reducible rfl
                try go_frame
                refine wpAnyH_take (i := 13) (oi := ⟨some 283, _, _, _, _, _⟩) (v := ?_) rfl (by kernel_rfl) (by kernel_rfl) (by kernel_rfl) (fun _ _ _ h => h) (Or.inl ⟨by rfl, ?_⟩) hHeld ?_
                rotate_left
                · intro w hSw
                  go_simp
                  with_reducible rfl
                try go_frame
                refine wpAnyH_done (by kernel_rfl) ?_ _
                have HPe := Lib.hid (HP9.out.below X hC)
                clear hHeld HKeep HP9 HV Hbs hC
                generalize w9d = wz at *
                go_wp2
                go_roundw
                case rel => exact ⟨f + 1, by omega, by go_num, HPe⟩
                case measure => simp [intOf]; omega
              · obtain rfl : f = 4 := by omega
                go_wp2_with fail
                refine (HK.out wr).mono ?_
                rintro e w9 ⟨rfl, hb⟩
                have HB9 := Lib.hid (HP.out.sto.below.trans (hb.mono HP.out.sto.below.size))
                clear hb HP HK
                go_wp2
                go_ret
                exact ⟨rfl, HB9.out⟩
end Go.Proofs.Ytiafmghdiidniaa
