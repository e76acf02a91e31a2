/-
  THE WALK of encode.
-/
import Derived.Test.YtaamhdgngnpmoaaGR
import Derived.Lib.BufferWrite
namespace Go.Proofs.Ytaamhdgngnpmoaa
open Go.RowKit Dir

def Z16 : List Value := List.replicate 16 (.int .u8 0)
theorem zero16 (w : World) : (zeroValue 52).run Try.prog w = .ok (.agg Z16.toArray) w := by kernel_rfl
theorem size16 : (Try.prog.info? 52).map (·.size) = some 16 := by kernel_rfl

theorem V8_of (n : Nat) (h : n < 256) : V8 (UInt8.ofNat n) = .int .u8 (n : Int) := by
  unfold V8
  rw [UInt8.toNat_ofNat', Nat.mod_eq_of_lt h]
/-- The row that a name was copied into. -/
theorem enc_row (n : List UInt8) (k : Nat) (hn : n.length ≤ 14) (hk : k ≤ 31) (PT : List Value) (hP : PT = (Z16.set 0 (.int .u8 (k : Int))).set 1 (.int .u8 (n.length : Int))) :
    PT.take 2 ++ Lib.byteCells n ++ PT.drop (2 + n.length) = (encE ⟨n, k⟩).map V8 := by
  have h1 : PT = .int .u8 (k : Int) :: .int .u8 (n.length : Int) :: List.replicate 14 (.int .u8 0) := by rw [hP]; rfl
  rw [h1]
  unfold encE
  simp only [List.map_cons, List.map_append, List.map_replicate]
  rw [show ((k : Int)).toNat = k from rfl, V8_of k (by omega), V8_of n.length (by omega), show (2 + n.length) = n.length + 1 + 1 by omega, List.drop_succ_cons, List.drop_succ_cons, List.drop_replicate]
  rfl
theorem setRow_other_row {w : World} {g : Nat} {t : TypeId} {cs : List Value} (h : Row w g t cs) {k : Nat} (hk : g ≠ k) (ds : Array Value) : Row (w.setRow k ds) g t cs := h.wholeOff hk ds

set_option maxRecDepth 100000 in
set_option maxHeartbeats 1000000 in
theorem DiEncode_any (n : List UInt8) (k : Nat) (hn : n.length ≤ 14) (hk : k ≤ 31) (w : World) :
    Calls Try.prog 23 #[.agg #[SB n, .int .i64 k]] w fun e w' => e = .returned (.agg ((encE ⟨n, k⟩).map V8).toArray) ∧ Below w.heap.size w w' := by
  have hz := zero16
  have hsz := strB_size' n
  obtain ⟨PT, hPT⟩ : ∃ PT, PT = (Z16.set 0 (.int .u8 (k : Int))).set 1 (.int .u8 (n.length : Int)) := ⟨_, rfl⟩
  have HE := Lib.hid (enc_row n k hn hk PT hPT)
  have hP16 : PT.length = 16 := by rw [hPT]; rfl
  have hP1 : PT.toArray.all (·.oneCell') = true := by rw [hPT]; simp [Z16, List.replicate, List.set, Value.oneCell']
  have hel : ((encE ⟨n, k⟩).map V8).length = 16 := by rw [List.length_map]; exact encE_length hn
  have hby : (strB n).data.toList = n := rfl
  have Hby : Hid (Lib.byteCells (strB n).data.toList = Lib.byteCells n) := rfl
  unfold SB
  obtain ⟨EE, hEE⟩ : ∃ EE, EE = (encE ⟨n, k⟩).map V8 := ⟨_, rfl⟩
  rw [← hEE] at HE hel ⊢
  have hE1 : EE.toArray.all (·.oneCell') = true := by
    rw [hEE, Array.all_eq_true_iff_forall_mem]
    intro x hx
    rw [List.mem_toArray, List.mem_map] at hx
    obtain ⟨y, _, rfl⟩ := hx
    rfl
  obtain ⟨q, hq⟩ : ∃ q, q = n.length := ⟨_, rfl⟩
  rw [← hq] at hsz HE hn hPT
  clear hEE hby hq
  generalize strB n = t at *
  have HPT := Lib.hid hPT
  have hsc : (storeCells ⟨w.heap.size + 1 + 1, 0, none⟩ ((Z16.set 0 (.int .u8 (k : Int))).set 1 (.int .u8 (q : Int))) 0).run Try.prog (((w.alloc (.cells #[.string t, .int .i64 k] 26)).alloc (.cells Z16.toArray 52)).alloc (.cells Z16.toArray 52)) = .ok () (((w.alloc (.cells #[.string t, .int .i64 k] 26)).alloc (.cells Z16.toArray 52)).alloc (.cells PT.toArray 52)) := by
    have := run_storeCells_new (P := Try.prog) ((w.alloc (.cells #[.string t, .int .i64 k] 26)).alloc (.cells Z16.toArray 52)) 52 Z16.toArray PT.toArray (by rw [List.size_toArray, hP16]; exact size16) (by rw [List.size_toArray, List.size_toArray, hP16]; rfl) hP1
    rw [← hPT]
    simpa using this
  clear hPT
  go_enter Try.func23, Try.ntmps23
  go_wp2
  obtain ⟨W1, hW1⟩ : ∃ W, W = ((w.alloc (.cells #[.string t, .int .i64 k] 26)).alloc (.cells Z16.toArray 52)).alloc (.cells PT.toArray 52) := ⟨_, rfl⟩
  have HR1 : Hid (Row W1 w.heap.size 26 [.string t, .int .i64 k]) := by rw [hW1]; exact ((Row.new w 26 [.string t, .int .i64 k]).alloc _).alloc _
  have HR2 : Hid (Row W1 (w.heap.size + 1) 52 Z16) := by
    rw [hW1]
    have := (Row.new (w.alloc (.cells #[.string t, .int .i64 k] 26)) 52 Z16).alloc (.cells PT.toArray 52)
    rwa [World.size_alloc] at this
  have HR3 : Hid (Row W1 (w.heap.size + 1 + 1) 52 PT) := by
    rw [hW1]
    have := Row.new ((w.alloc (.cells #[.string t, .int .i64 k] 26)).alloc (.cells Z16.toArray 52)) 52 PT
    rwa [World.size_alloc, World.size_alloc] at this
  have HB1 : Hid (Below w.heap.size w W1) := by rw [hW1]; exact (((Below.refl _ _).alloc (Nat.le_refl _) _).alloc (by simp) _).alloc (by simp; omega) _
  rw [← hW1]
  clear hW1 hsc hz
  have HCl : Hid (∀ W, Row W w.heap.size 26 [.string t, .int .i64 k] → W.cell? ⟨w.heap.size, 0, none⟩ = some (.string t)) := fun W h => h.cell 0
  have HRd1 : Hid (Row W1.drew w.heap.size 26 [.string t, .int .i64 k]) := HR1.out
  have HRd2 : Hid (Row W1.drew (w.heap.size + 1) 52 Z16) := HR2.out
  have HRd3 : Hid (Row W1.drew (w.heap.size + 1 + 1) 52 PT) := HR3.out
  have HBd : Hid (Below w.heap.size w W1.drew) := below_drewN HB1.out 1
  refine wp_region_held_drew (S := (fun W => W.cell? ⟨w.heap.size, 0, none⟩ = some (.string t))) (by kernel_rfl) (HCl.out _ HRd1.out) (fun hHeld => ?_)
  generalize W1.drew = Wd at *
  clear HR1 HR2 HR3 HB1
  refine wpAnyH_take (i := 0) (oi := ⟨some 12, _, _, _, _, _⟩) (v := ?_) rfl (by kernel_rfl) (by kernel_rfl) (by kernel_rfl) (fun _ _ _ h => h) (Or.inl ⟨by rfl, ?_⟩) hHeld ?_
  rotate_left
  · intro w hSw
    go_simp
    with_reducible rfl
  try go_frame
  refine wpAnyH_take (i := 1) (oi := ⟨some 13, _, _, _, _, _⟩) (v := ?_) rfl (by kernel_rfl) (by kernel_rfl) (by kernel_rfl) (fun _ _ _ h => h) (Or.inl ⟨by rfl, ?_⟩) hHeld ?_
  rotate_left
  · intro w hSw
    go_simp
    with_reducible rfl
  try go_frame
  refine wpAnyH_take (i := 2) (oi := ⟨some 14, _, _, _, _, _⟩) (v := ?_) rfl (by kernel_rfl) (by kernel_rfl) (by kernel_rfl) (fun _ _ _ h => h) (Or.inl ⟨by rfl, ?_⟩) hHeld ?_
  rotate_left
  · intro w hSw
    have hc0 : w.cell? _ = _ := hSw
    go_simp
    with_reducible rfl
  try go_frame
  refine wpAnyH_ready (rs := [3]) (by kernel_rfl) (by simp) ?_
  refine AllReadyH.cons (o := ⟨some 15, _, _, _, _, _⟩) rfl (fun K hK => ?_) AllReadyH.nil
  have hrun := Lib.run_copy_row_string (P := Try.prog) Wd 23 9 3 5 (w.heap.size + 1 + 1) 2 14 14 t PT.toArray 52 Try.underlying23 (by kernel_rfl) HRd3.out (by omega) (by rw [List.size_toArray, hP16]; omega)
  rw [Hby.out, hsz, show PT.toArray.toList = PT from rfl, HE.out] at hrun
  go_simp
  have HRe1 : Hid (Row (Wd.setRow (w.heap.size + 1 + 1) EE.toArray) w.heap.size 26 [.string t, .int .i64 k]) := HRd1.out.wholeOff (by omega) _
  have HRe2 : Hid (Row (Wd.setRow (w.heap.size + 1 + 1) EE.toArray) (w.heap.size + 1) 52 Z16) := HRd2.out.wholeOff (by omega) _
  have HRe3 : Hid (Row (Wd.setRow (w.heap.size + 1 + 1) EE.toArray) (w.heap.size + 1 + 1) 52 EE) := HRd3.out.whole _
  have HBe : Hid (Below w.heap.size w (Wd.setRow (w.heap.size + 1 + 1) EE.toArray)) := below_setRow' HBd.out (by omega) _
  refine hK.out _ _ (HCl.out _ HRe1.out) (fun hHeld => ?_)
  clear hK K hrun
  generalize Wd.setRow (w.heap.size + 1 + 1) EE.toArray = We at *
  try go_frame
  refine wpAnyH_done (by kernel_rfl) ?_ _
  have Hel := Lib.hid hel
  have HE1 := Lib.hid hE1
  clear hel hE1 HRd1 HRd2 HRd3 HBd
  go_wp2_with (first
    | (refine wpList_load_row rfl 52 (.tmp 3) rfl (w.heap.size + 1 + 1) rfl 52 EE.toArray (0, 0) _ HRe3.out Try.underlying52 rfl (by rw [List.size_toArray, Hel.out]; kernel_rfl) ?_)
    | (refine wpList_store_row rfl 52 (.tmp 2) (.tmp 16) rfl (w.heap.size + 1) EE.toArray rfl rfl 52 _ HRe2.out (by rw [List.size_toArray, Hel.out]; kernel_rfl) (by rw [List.size_toArray, List.size_toArray, Hel.out]; rfl) HE1.out ?_))
  have hlast := HRe2.out.whole EE
  have hinfo : (Try.prog.info? 52).map (·.size) = some EE.toArray.size := by rw [List.size_toArray, Hel.out]; kernel_rfl
  refine bodyPost_ret (v := .agg EE.toArray) (results_cell_row rfl _ _ (w.heap.size + 1) 52 EE.toArray (0, 0) _ rfl hlast Try.underlying52 rfl hinfo) rfl ?_
  exact ⟨rfl, below_setRow' HBe.out (by omega) _⟩
end Go.Proofs.Ytaamhdgngnpmoaa
