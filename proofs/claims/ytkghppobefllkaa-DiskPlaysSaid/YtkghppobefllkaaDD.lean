/-
  THE WALKS of (*block).write and (*block).settle.
-/
import Derived.Test.YtkghppobefllkaaDC
namespace Go.Proofs.Ytkghppobefllkaa
open Go.RowKit Dsk

theorem info72 {cs : List Value} (h : cs.length = 72) : (Try.prog.info? 59).map (·.size) = some cs.length := by rw [h]; kernel_rfl
theorem info72a {cs : List Value} (h : cs.length = 72) : (Try.prog.info? 59).map (·.size) = some cs.toArray.size := by rw [List.size_toArray, h]; kernel_rfl

set_option maxRecDepth 100000 in
set_option maxHeartbeats 1000000 in
theorem Dbwrite_any (g o : Nat) (d : Bool) (p : Nat) (cb co : Nat) (hcur : (if d then (⟨p, 0, none⟩ : Addr) else ⟨g, o, none⟩) = ⟨cb, co, none⟩) (cs rs ps : List Value) (w : World)
    (hp : Here w g (o + 72) [.pointer (if d then some ⟨p, 0, none⟩ else none)]) (hc : Here w cb co cs) (hq : Here w g (o + 73) ps)
    (l1 : cs.length = 72) (l3 : ps.length = 72) (c1 : cs.toArray.all (·.oneCell') = true) :
    Calls Try.prog 29 #[.pointer (some ⟨g, o, none⟩), .agg rs.toArray] w fun e w' => e = .returned (.tuple #[]) ∧
      Here w' w.heap.size 0 rs ∧ Here w' g (o + 72) [.pointer (some ⟨w.heap.size, 0, none⟩)] ∧ Here w' g (o + 73) cs ∧ Chg (fun b j => b = g ∧ o + 72 ≤ j ∧ j < o + 145) w w' := by
  have hg : g < w.heap.size := hp.lt (by simp)
  obtain ⟨w1, hw1⟩ : ∃ w1, w1 = w.alloc (.cells rs.toArray 59) := ⟨_, rfl⟩
  have Hsz : Hid (w1.heap.size = w.heap.size + 1) := by rw [hw1]; show _ = _; simp
  have Hnew : Hid (Here w1 w.heap.size 0 rs) := by rw [hw1]; exact (Row.new w 59 rs).here
  have Hp : Hid (Here w1 g (o + 72) [.pointer (if d then some ⟨p, 0, none⟩ else none)]) := by rw [hw1]; exact hp.alloc _
  have Hc : Hid (Here w1 cb co cs) := by rw [hw1]; exact hc.alloc _
  have Hq : Hid (Here w1 g (o + 73) ps) := by rw [hw1]; exact hq.alloc _
  have HX : Hid (Chg (fun b j => b = g ∧ o + 72 ≤ j ∧ j < o + 145) w w1) := by rw [hw1]; exact (Chg.refl _ w).alloc _
  have HW := Lib.hid hw1
  have i1 := Lib.hid (info72 l1)
  have j1 := Lib.hid (info72a l1)
  have C1 := Lib.hid c1
  have T1 : Hid (w1.there g (o + 73) cs.toArray.size) := by show World.there _ _ _ _; rw [List.size_toArray, l1, ← l3]; exact Hq.out.2
  have hpc := Hp.out.cell (j := 0) rfl
  rw [Nat.add_zero] at hpc
  have HCur := Lib.hid (Dcur_any g o d p w1 hpc)
  have HF : Hid (Here (w1.setCells g (o + 73) cs) g (o + 72) [.pointer (if d then some ⟨p, 0, none⟩ else none)] ∧ Here (w1.setCells g (o + 73) cs) g (o + 73) cs ∧ Here (w1.setCells g (o + 73) cs) w.heap.size 0 rs ∧ Chg (fun b j => b = g ∧ o + 72 ≤ j ∧ j < o + 145) w (w1.setCells g (o + 73) cs)) :=
    ⟨Hp.out.setOff cs (.inr (.inl (by simp))), Hq.out.set cs (by omega), Hnew.out.setOff cs (.inl (by omega)),
      HX.out.setCells (fun j hj _ => ⟨rfl, by omega, by omega⟩) (by rw [l1, ← l3]; exact Hq.out.2)⟩
  rw [hcur] at HCur
  clear hp hc hq l1 l3 c1 hw1 hpc Hp Hq HX Hnew
  go_enter Try.func29, Try.ntmps29
  go_wp2_with fail
  rw [← HW.out]
  refine HCur.out.mono ?_
  rintro e w2 ⟨rfl, rfl⟩
  obtain ⟨w3, hw3⟩ : ∃ w3, w3 = w2.setCells g (o + 73) cs := ⟨_, rfl⟩
  rw [← hw3] at HF
  have HW3 := Lib.hid hw3
  have hcell : w3.cell? ⟨g, o + 72, none⟩ = some (.pointer (if d then some ⟨p, 0, none⟩ else none)) := by have := HF.out.1.cell (j := 0) rfl; rwa [Nat.add_zero] at this
  have hfree : w3.frozen? ⟨g, o + 72, none⟩ = false := by have := HF.out.1.free (j := 0) (by simp); rwa [Nat.add_zero] at this
  clear hw3 HCur hcur HW
  go_wp2_with (first
    | (refine wpList_load_mid rfl 59 (.tmp 7) rfl cb co rfl cs _ Hc.out.1 Try.underlying59 rfl i1.out ?_)
    | (refine wpList_store_mid rfl 59 (.tmp 10) (.tmp 8) rfl g (o + 73) cs.toArray rfl rfl T1.out j1.out C1.out ?_; rw [List.toList_toArray, ← HW3.out]; clear T1 HW3 Hc))
  go_end0
  refine ⟨rfl, HF.out.2.2.1.putOff (by simp; omega) _, ?_, ?_, HF.out.2.2.2.setCell rfl (fun _ => ⟨rfl, by simp, by simp⟩) (by rw [hcell]; rfl) _⟩
  · exact HF.out.1.put 0 (by simp) _
  · have := HF.out.2.1.setOff (b' := g) (o' := o + 72) [.pointer (some ⟨w.heap.size, 0, none⟩)] (.inr (.inr (by simp)))
    exact this

set_option maxRecDepth 100000 in
set_option maxHeartbeats 1000000 in
theorem Dsettle_any (g o p : Nat) (k : Bool) (cs ds : List Value) (w : World)
    (hp : Here w g (o + 72) [.pointer (some ⟨p, 0, none⟩)]) (hc : Here w p 0 cs) (hd : Here w g o ds)
    (l1 : cs.length = 72) (l2 : ds.length = 72) (c1 : cs.toArray.all (·.oneCell') = true) :
    Calls Try.prog 32 #[.pointer (some ⟨g, o, none⟩), .bool k] w fun e w' => e = .returned (.tuple #[]) ∧
      Here w' g (o + 72) [.pointer none] ∧ Here w' g o (if k then cs else ds) ∧ Chg (fun b j => b = g ∧ o ≤ j ∧ j < o + 73) w w' := by
  have HP := Lib.hid hp
  have i1 := Lib.hid (info72 l1)
  have j1 := Lib.hid (info72a l1)
  have C1 := Lib.hid c1
  have HC := Lib.hid hc.1
  have T1 : Hid (w.there g o cs.toArray.size) := by show World.there _ _ _ _; rw [List.size_toArray, l1, ← l2]; exact hd.2
  have HF : Hid (Here (w.setCells g o cs) g (o + 72) [.pointer (some ⟨p, 0, none⟩)] ∧ Here (w.setCells g o cs) g o cs ∧ Chg (fun b j => b = g ∧ o ≤ j ∧ j < o + 73) w (w.setCells g o cs)) :=
    ⟨hp.setOff cs (.inr (.inr (by omega))), hd.set cs (by omega), (Chg.refl _ w).setCells (fun j hj _ => ⟨rfl, by omega, by omega⟩) (by rw [l1, ← l2]; exact hd.2)⟩
  have HD := Lib.hid hd
  have L2 := Lib.hid l2
  have L1 := Lib.hid l1
  have hcell : w.cell? ⟨g, o + 72, none⟩ = some (.pointer (some ⟨p, 0, none⟩)) := by have := hp.cell (j := 0) rfl; rwa [Nat.add_zero] at this
  have hfree : w.frozen? ⟨g, o + 72, none⟩ = false := by have := hp.free (j := 0) (by simp); rwa [Nat.add_zero] at this
  clear hp hc hd l1 l2 c1
  go_enter Try.func32, Try.ntmps32
  cases k
  · go_wp2
    go_end0
    refine ⟨rfl, HP.out.put 0 (by simp) _, HD.out.setOff (b' := g) (o' := o + 72) [.pointer none] (.inr (.inl (by rw [L2.out]; exact Nat.le_refl _))), (Chg.refl _ w).setCell rfl (fun _ => ⟨rfl, by simp, by simp⟩) (by rw [hcell]; rfl) _⟩
  · obtain ⟨w3, hw3⟩ : ∃ w3, w3 = w.setCells g o cs := ⟨_, rfl⟩
    rw [← hw3] at HF
    have HW3 := Lib.hid hw3
    have hcell3 : w3.cell? ⟨g, o + 72, none⟩ = some (.pointer (some ⟨p, 0, none⟩)) := by have := HF.out.1.cell (j := 0) rfl; rwa [Nat.add_zero] at this
    have hfree3 : w3.frozen? ⟨g, o + 72, none⟩ = false := by have := HF.out.1.free (j := 0) (by simp); rwa [Nat.add_zero] at this
    clear hw3
    go_wp2_with (first
      | (refine wpList_load_mid rfl 59 (.tmp 10) rfl p 0 rfl cs _ HC.out Try.underlying59 rfl i1.out ?_)
      | (refine wpList_store_mid rfl 59 (.tmp 13) (.tmp 11) rfl g o cs.toArray rfl rfl T1.out j1.out C1.out ?_; rw [List.toList_toArray, ← HW3.out]; clear T1 HW3 HC))
    go_end0
    refine ⟨rfl, HF.out.1.put 0 (by simp) _, HF.out.2.1.setOff (b' := g) (o' := o + 72) [.pointer none] (.inr (.inl (by rw [L1.out]; exact Nat.le_refl _))), HF.out.2.2.setCell rfl (fun _ => ⟨rfl, by simp, by simp⟩) (by rw [hcell3]; rfl) _⟩
end Go.Proofs.Ytkghppobefllkaa
