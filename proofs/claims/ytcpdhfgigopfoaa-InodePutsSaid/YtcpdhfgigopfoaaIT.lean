/-
  THE WALK of the program's numbersOf.
-/
import Derived.Test.YtcpdhfgigopfoaaIS
namespace Go.Proofs.Ytcpdhfgigopfoaa
open Go.RowKit Cdc Inn

theorem elemInt : (Try.prog.info? 3).map (·.size) = some 1 := by kernel_rfl
def Z5 : List Value := [.int .i64 0, .int .i64 0, .int .i64 0, .int .i64 0, .int .i64 0]
def bk (x : Ino) : List Value := [.int .i64 x.b0, .int .i64 x.b1, .int .i64 x.b2, .int .i64 x.b3]
theorem nm_splice (x : Ino) : (splice Z5 0 (bk x)).set 4 (.int .i64 x.d) = (nm x).map VI := rfl
theorem nm_spliceL (x : Ino) : splice Z5 0 (bk x) = [.int .i64 x.b0, .int .i64 x.b1, .int .i64 x.b2, .int .i64 x.b3, .int .i64 0] := rfl

set_option maxRecDepth 100000 in
set_option maxHeartbeats 1000000 in
theorem InNumbersOf_any (x : Ino) (w : World) :
    Calls Try.prog 14 #[.agg (inoC x)] w fun e w' => e = .returned (.agg ((nm x).map VI).toArray) ∧ Below w.heap.size w w' := by
  obtain ⟨w0, hw0⟩ : ∃ w0, w0 = ((w.alloc (.cells (inoC x) 24)).alloc (.cells #[.int .i64 0, .int .i64 0, .int .i64 0, .int .i64 0, .int .i64 0] 43)).alloc (.cells #[.int .i64 0, .int .i64 0, .int .i64 0, .int .i64 0, .int .i64 0] 43) := ⟨_, rfl⟩
  have HR0 : Hid (Row w0 w.heap.size 24 (x.l.map VI)) := by rw [hw0]; exact ((Row.new w 24 (x.l.map VI)).alloc _).alloc _
  have HR1 : Hid (Row w0 (w.heap.size + 1) 43 Z5) := by rw [hw0]; exact Row.alloc (Row.newAt 43 Z5 (by simp)) _
  have HR2 : Hid (Row w0 (w.heap.size + 1 + 1) 43 Z5) := by rw [hw0]; exact Row.newAt 43 Z5 (by simp)
  have HBL : Hid (Below w.heap.size w w0) := by rw [hw0]; exact (((Below.refl _ _).alloc (Nat.le_refl _) _).alloc (by simp) _).alloc (by simp; omega) _
  have K1 : Hid ((bk x).length = Nat.min 4 5) := rfl
  have K3 : Hid (0 + (bk x).length ≤ Z5.length) := by show 4 ≤ 5; decide
  have K4 : Hid (∀ v ∈ bk x, v.oneCell' = true) := fun v hv => by
    simp only [bk, List.mem_cons, List.not_mem_nil, or_false] at hv
    rcases hv with rfl | rfl | rfl | rfl <;> rfl
  go_enter Try.func14, Try.ntmps14
  go_wp2
  rw [← hw0]
  clear hw0
  have K2 : Hid (0 < (bk x).length → (some (⟨w.heap.size + 1 + 1, 0, none⟩ : Addr)) = some ⟨w.heap.size + 1 + 1, 0, none⟩ ∧ ∃ ad, some (⟨w.heap.size, 2, none⟩ : Addr) = some ad ∧ ∀ (j : Nat) v, (bk x)[j]? = some v → w0.drew.cell? (ad.add j) = some v) := by
    intro _
    refine ⟨rfl, _, rfl, fun j v hv => ?_⟩
    rw [add_off]
    refine (HR0.out.drew.cell (2 + j)).trans ?_
    rw [← hv]
    match j with
    | 0 => rfl
    | 1 => rfl
    | 2 => rfl
    | 3 => rfl
    | j + 4 => exact absurd hv (by simp [bk])
  go_region_law (refine step_copy_splice rfl (.tmp 4) (.tmp 6) 46 46 rfl 3 Try.underlying46 elemInt _ _ 5 5 4 4 rfl rfl (w.heap.size + 1 + 1) 0 Z5 43 HR2.out (bk x) K1.out K2.out K3.out K4.out (w.heap.size + 1 + 1) w0 ⟨rfl, rfl, rfl, Nat.le_refl _, fun _ _ => rfl⟩ (Nat.le_refl _) ?_; intro w3 Hg3 hb3)
  all_goals
    have HA := HR0.out.below hb3 (by omega)
    have HB := HR1.out.below hb3 (by omega)
    have HC3 := Lib.hid (HBL.out.trans (hb3.mono (by omega)))
    have HG : Hid (Row w3 (w.heap.size + 1 + 1) 43 [.int .i64 x.b0, .int .i64 x.b1, .int .i64 x.b2, .int .i64 x.b3, .int .i64 0]) := Hg3.out
    have cd : w3.cell? ⟨w.heap.size, 6, none⟩ = some (.int .i64 x.d) := HA.cell 6
    have c4 := HG.out.cell 4
    have f4 := HG.out.free 4
    have HF : Hid (Row (w3.setCell ⟨w.heap.size + 1 + 1, 4, none⟩ (.int .i64 x.d)) (w.heap.size + 1 + 1) 43 ((nm x).map VI)) := HG.out.set 4 _
    have HF1 : Hid (Row (w3.setCell ⟨w.heap.size + 1 + 1, 4, none⟩ (.int .i64 x.d)) (w.heap.size + 1) 43 Z5) := HB.apart (by simp) _
    have HC4 : Hid (Below w.heap.size w (w3.setCell ⟨w.heap.size + 1 + 1, 4, none⟩ (.int .i64 x.d))) := HC3.out.setCell (by simp; omega) _
    obtain ⟨cs, hcs⟩ : ∃ cs, cs = ((nm x).map VI).toArray := ⟨_, rfl⟩
    have Hcs := Lib.hid hcs
    have Hsz : Hid (cs.size = 5) := by show _ = _; rw [hcs]; rfl
    have Hone : Hid (cs.all (·.oneCell') = true) := by show _ = _; rw [hcs]; exact oneI _
    have HFr : Hid ((w3.setCell ⟨w.heap.size + 1 + 1, 4, none⟩ (.int .i64 x.d)).heap[w.heap.size + 1 + 1]? = some (.cells cs 43 (0, 0))) := by rw [hcs]; exact HF.out
    clear hb3 Hg3 HA HB HC3 HR0 HR1 HR2 HBL K1 K2 K3 K4 hcs HG HF
    go_wp2_with (first | (refine wpList_load_row rfl 43 (.tmp 3) rfl (w.heap.size + 1 + 1) rfl 43 cs (0, 0) _ HFr.out Try.underlying43 rfl (by rw [Hsz.out]; kernel_rfl) ?_) | (refine wpList_store_row rfl 43 (.tmp 2) (.tmp 11) rfl (w.heap.size + 1) cs rfl rfl 43 _ HF1.out (by rw [Hsz.out]; kernel_rfl) (by rw [Hsz.out]; rfl) Hone.out ?_))
    have hlast : ((w3.setCell ⟨w.heap.size + 1 + 1, 4, none⟩ (.int .i64 x.d)).setRow (w.heap.size + 1) cs).heap[w.heap.size + 1]? = some (.cells cs 43 (0, 0)) := by
      have := HF1.out.whole ((nm x).map VI)
      rw [Hcs.out]; exact this
    refine bodyPost_ret (v := .agg cs) (results_cell_row rfl _ _ (w.heap.size + 1) 43 cs (0, 0) _ rfl hlast Try.underlying43 rfl (by rw [Hsz.out]; kernel_rfl)) rfl ?_
    exact ⟨by rw [Hcs.out], below_setRow' HC4.out (by omega) _⟩
end Go.Proofs.Ytcpdhfgigopfoaa
