/-
  THE WALKS of the reference's Put, Get.
-/
import Derived.Test.YtcpdhfgigopfoaaIB
import Derived.Lib.SmallJoins
namespace Go.Proofs.Ytcpdhfgigopfoaa
open Go.RowKit Cdc Inn

theorem by8_V (z : Int) (h0 : 0 ≤ z) (h : z < 256) : V8 (by8 z) = .int .u8 z := by unfold V8; rw [by8_nat z h0 h]
theorem by8_wrap (z : Int) : V8 (by8 z) = .int .u8 (IntKind.u8.wrap z) := by
  unfold V8 by8
  rw [toNat_ofNat8 (by omega)]
  congr 1
  show (((z % 256).toNat : Nat) : Int) = z % (2 ^ 8 : Int)
  omega
theorem wrap_i64 (z : Int) (h : In64 z) : IntKind.i64.wrap z = z := by
  obtain ⟨h1, h2⟩ := h
  show (if true && decide (z % (2 ^ 64 : Int) ≥ (2 ^ 63 : Int)) then z % (2 ^ 64 : Int) - (2 ^ 64 : Int) else z % (2 ^ 64 : Int)) = z
  rw [Bool.true_and]
  split
  · next h => have := of_decide_eq_true h; omega
  · next h => rw [decide_eq_true_eq] at h; omega
theorem wrap_div (b : Int) (h0 : 0 ≤ b) (h : b ≤ 2304) : IntKind.i64.wrap (b.tdiv 256) = b / 256 := by
  rw [Int.tdiv_eq_ediv_of_nonneg h0]
  exact wrap_i64 _ ⟨by omega, by omega⟩

set_option maxRecDepth 100000 in
set_option maxHeartbeats 2000000 in
theorem RInPut_any (x : Ino) (hm : may x = true) (w : World) :
    Calls Try.prog 11 #[.agg (inoC x)] w fun e w' => ∃ r, e = .returned r ∧ Hid (Arg w' r (enc x)) ∧ Below w.heap.size w w' := by
  obtain ⟨hk0, hk1, hb0, hb1, h00, h01, h10, h11, h20, h21, h30, h31, hd0, hd1⟩ := may_bounds hm
  obtain ⟨w0, hw0⟩ : ∃ w0, w0 = w.alloc (.cells (inoC x) 24) := ⟨_, rfl⟩
  have HR : Hid (Row w0 w.heap.size 24 (x.l.map VI)) := by rw [hw0]; exact Row.new w 24 (x.l.map VI)
  have HC : Hid (Below w.heap.size w w0) := by rw [hw0]; exact (Below.refl _ _).alloc (Nat.le_refl _) _
  have HN := Lib.hid (RInNumbers_any x w0)
  obtain ⟨cs, hcs⟩ : ∃ cs, cs = inoC x := ⟨_, rfl⟩
  have Hcs : Hid (cs = (x.l.map VI).toArray) := hcs
  have Hsz : Hid (cs.size = 7) := by show _ = _; rw [hcs]; rfl
  rw [← hcs] at hw0 HN ⊢
  clear hcs
  have HEV : Hid ((enc x).map V8 = [.int .u8 (IntKind.u8.wrap x.k), .int .u8 (IntKind.u8.wrap (IntKind.i64.wrap (x.b.tdiv 256))), .int .u8 (IntKind.u8.wrap x.b), .int .u8 (IntKind.u8.wrap x.b0), .int .u8 (IntKind.u8.wrap x.b1), .int .u8 (IntKind.u8.wrap x.b2), .int .u8 (IntKind.u8.wrap x.b3), .int .u8 (IntKind.u8.wrap x.d)]) := by
    show [V8 (by8 x.k), V8 (by8 (x.b / 256)), V8 (by8 x.b), V8 (by8 x.b0), V8 (by8 x.b1), V8 (by8 x.b2), V8 (by8 x.b3), V8 (by8 x.d)] = _
    rw [wrap_div x.b (by omega) (by omega)]
    simp only [by8_wrap]
  obtain ⟨E, hE⟩ : ∃ E, E = enc x := ⟨_, rfl⟩
  have HEL : Hid (E.length = 8) := by rw [hE]; rfl
  rw [← hE] at HEV ⊢
  clear hE
  go_enter Try.func11, Try.ntmps11
  go_wp2_with (refine wpList_load_row rfl 24 (.tmp 1) rfl w.heap.size rfl 24 cs (0, 0) _ (by rw [← hw0, Hcs.out]; exact HR.out) Try.underlying24 rfl (by rw [Hsz.out]; kernel_rfl) ?_)
  rw [← hw0]
  refine HN.out.mono ?_
  rintro e w1 ⟨g, rfl, HG, hg, hb⟩
  replace HC := Lib.hid (HC.out.trans (hb.mono HC.out.size))
  clear hw0 HN hb hg HR Hcs Hsz hm
  obtain ⟨k, b, b0, b1, b2, b3, d⟩ := x
  simp only at *
  have HKeep : Hid (∀ W, Below w1.heap.size w1 W → W.cell? ⟨g, 0, none⟩ = some (.int .i64 k) ∧ W.cell? ⟨g, 1, none⟩ = some (.int .i64 b) ∧ W.cell? ⟨g, 2, none⟩ = some (.int .i64 b0) ∧ W.cell? ⟨g, 3, none⟩ = some (.int .i64 b1) ∧ W.cell? ⟨g, 4, none⟩ = some (.int .i64 b2) ∧ W.cell? ⟨g, 5, none⟩ = some (.int .i64 b3) ∧ W.cell? ⟨g, 6, none⟩ = some (.int .i64 d)) := fun W hW => by
    have h := HG.out.below hW HG.out.lt
    exact ⟨rowI h 0 (by rw [l_len]; omega), rowI h 1 (by rw [l_len]; omega), rowI h 2 (by rw [l_len]; omega), rowI h 3 (by rw [l_len]; omega), rowI h 4 (by rw [l_len]; omega), rowI h 5 (by rw [l_len]; omega), rowI h 6 (by rw [l_len]; omega)⟩
  clear HG
  go_wp2
  have hC : Below w1.heap.size w1 w1.drew := below_drewN (Below.refl _ _) 1
  refine wp_region_held_drew (S := (fun W => W.cell? ⟨g, 0, none⟩ = some (.int .i64 k) ∧ W.cell? ⟨g, 1, none⟩ = some (.int .i64 b) ∧ W.cell? ⟨g, 2, none⟩ = some (.int .i64 b0) ∧ W.cell? ⟨g, 3, none⟩ = some (.int .i64 b1) ∧ W.cell? ⟨g, 4, none⟩ = some (.int .i64 b2) ∧ W.cell? ⟨g, 5, none⟩ = some (.int .i64 b3) ∧ W.cell? ⟨g, 6, none⟩ = some (.int .i64 d))) (by kernel_rfl) (HKeep.out _ hC) (fun hHeld => ?_)
  generalize w1.drew = w1d at *
  refine wpAnyH_take (i := 0) (oi := ⟨some 6, _, _, _, _, _⟩) (v := ?_) rfl (by kernel_rfl) (by kernel_rfl) (by kernel_rfl) (fun _ _ _ h => h) (Or.inl ⟨by rfl, ?_⟩) hHeld ?_
  rotate_left
  · intro w hSw
    go_simp
    with_reducible rfl
  try go_frame
  refine wpAnyH_take (i := 1) (oi := ⟨some 7, _, _, _, _, _⟩) (v := ?_) rfl (by kernel_rfl) (by kernel_rfl) (by kernel_rfl) (fun _ _ _ h => h) (Or.inl ⟨by rfl, ?_⟩) hHeld ?_
  rotate_left
  · intro w hSw
    go_simp
    with_reducible rfl
  try go_frame
  refine wpAnyH_take (i := 2) (oi := ⟨some 8, _, _, _, _, _⟩) (v := ?_) rfl (by kernel_rfl) (by kernel_rfl) (by kernel_rfl) (fun _ _ _ h => h) (Or.inl ⟨by rfl, ?_⟩) hHeld ?_
  rotate_left
  · intro w hSw
    obtain ⟨s0, s1, s2, s3, s4, s5, s6⟩ := hSw
    go_simp
    with_reducible rfl
  try go_frame
  refine wpAnyH_take (i := 3) (oi := ⟨some 9, _, _, _, _, _⟩) (v := ?_) rfl (by kernel_rfl) (by kernel_rfl) (by kernel_rfl) (fun _ _ _ h => h) (Or.inl ⟨by rfl, ?_⟩) hHeld ?_
  rotate_left
  · intro w hSw
    go_simp
    with_reducible rfl
  try go_frame
  refine wpAnyH_take (i := 4) (oi := ⟨some 10, _, _, _, _, _⟩) (v := ?_) rfl (by kernel_rfl) (by kernel_rfl) (by kernel_rfl) (fun _ _ _ h => h) (Or.inl ⟨by rfl, ?_⟩) hHeld ?_
  rotate_left
  · intro w hSw
    go_simp
    with_reducible rfl
  try go_frame
  refine wpAnyH_take (i := 5) (oi := ⟨some 11, _, _, _, _, _⟩) (v := ?_) rfl (by kernel_rfl) (by kernel_rfl) (by kernel_rfl) (fun _ _ _ h => h) (Or.inl ⟨by rfl, ?_⟩) hHeld ?_
  rotate_left
  · intro w hSw
    go_simp
    with_reducible rfl
  try go_frame
  refine wpAnyH_take (i := 6) (oi := ⟨some 12, _, _, _, _, _⟩) (v := ?_) rfl (by kernel_rfl) (by kernel_rfl) (by kernel_rfl) (fun _ _ _ h => h) (Or.inl ⟨by rfl, ?_⟩) hHeld ?_
  rotate_left
  · intro w hSw
    obtain ⟨s0, s1, s2, s3, s4, s5, s6⟩ := hSw
    go_simp
    with_reducible rfl
  try go_frame
  refine wpAnyH_take (i := 7) (oi := ⟨some 13, _, _, _, _, _⟩) (v := ?_) rfl (by kernel_rfl) (by kernel_rfl) (by kernel_rfl) (fun _ _ _ h => h) (Or.inl ⟨by rfl, ?_⟩) hHeld ?_
  rotate_left
  · intro w hSw
    go_simp
    with_reducible rfl
  try go_frame
  refine wpAnyH_take (i := 8) (oi := ⟨some 14, _, _, _, _, _⟩) (v := ?_) rfl (by kernel_rfl) (by kernel_rfl) (by kernel_rfl) (fun _ _ _ h => h) (Or.inl ⟨by rfl, ?_⟩) hHeld ?_
  rotate_left
  · intro w hSw
    go_simp
    with_reducible rfl
  try go_frame
  refine wpAnyH_take (i := 9) (oi := ⟨some 15, _, _, _, _, _⟩) (v := ?_) rfl (by kernel_rfl) (by kernel_rfl) (by kernel_rfl) (fun _ _ _ h => h) (Or.inl ⟨by rfl, ?_⟩) hHeld ?_
  rotate_left
  · intro w hSw
    go_simp
    with_reducible rfl
  try go_frame
  refine wpAnyH_take (i := 10) (oi := ⟨some 16, _, _, _, _, _⟩) (v := ?_) rfl (by kernel_rfl) (by kernel_rfl) (by kernel_rfl) (fun _ _ _ h => h) (Or.inl ⟨by rfl, ?_⟩) hHeld ?_
  rotate_left
  · intro w hSw
    go_simp
    with_reducible rfl
  try go_frame
  refine wpAnyH_take (i := 11) (oi := ⟨some 17, _, _, _, _, _⟩) (v := ?_) rfl (by kernel_rfl) (by kernel_rfl) (by kernel_rfl) (fun _ _ _ h => h) (Or.inl ⟨by rfl, ?_⟩) hHeld ?_
  rotate_left
  · intro w hSw
    obtain ⟨s0, s1, s2, s3, s4, s5, s6⟩ := hSw
    go_simp
    with_reducible rfl
  try go_frame
  refine wpAnyH_take (i := 12) (oi := ⟨some 18, _, _, _, _, _⟩) (v := ?_) rfl (by kernel_rfl) (by kernel_rfl) (by kernel_rfl) (fun _ _ _ h => h) (Or.inl ⟨by rfl, ?_⟩) hHeld ?_
  rotate_left
  · intro w hSw
    go_simp
    with_reducible rfl
  try go_frame
  refine wpAnyH_take (i := 13) (oi := ⟨some 19, _, _, _, _, _⟩) (v := ?_) rfl (by kernel_rfl) (by kernel_rfl) (by kernel_rfl) (fun _ _ _ h => h) (Or.inl ⟨by rfl, ?_⟩) hHeld ?_
  rotate_left
  · intro w hSw
    go_simp
    with_reducible rfl
  try go_frame
  refine wpAnyH_take (i := 14) (oi := ⟨some 20, _, _, _, _, _⟩) (v := ?_) rfl (by kernel_rfl) (by kernel_rfl) (by kernel_rfl) (fun _ _ _ h => h) (Or.inl ⟨by rfl, ?_⟩) hHeld ?_
  rotate_left
  · intro w hSw
    go_simp
    with_reducible rfl
  try go_frame
  refine wpAnyH_take (i := 15) (oi := ⟨some 21, _, _, _, _, _⟩) (v := ?_) rfl (by kernel_rfl) (by kernel_rfl) (by kernel_rfl) (fun _ _ _ h => h) (Or.inl ⟨by rfl, ?_⟩) hHeld ?_
  rotate_left
  · intro w hSw
    obtain ⟨s0, s1, s2, s3, s4, s5, s6⟩ := hSw
    go_simp
    with_reducible rfl
  try go_frame
  refine wpAnyH_take (i := 16) (oi := ⟨some 22, _, _, _, _, _⟩) (v := ?_) rfl (by kernel_rfl) (by kernel_rfl) (by kernel_rfl) (fun _ _ _ h => h) (Or.inl ⟨by rfl, ?_⟩) hHeld ?_
  rotate_left
  · intro w hSw
    go_simp
    with_reducible rfl
  try go_frame
  refine wpAnyH_take (i := 17) (oi := ⟨some 23, _, _, _, _, _⟩) (v := ?_) rfl (by kernel_rfl) (by kernel_rfl) (by kernel_rfl) (fun _ _ _ h => h) (Or.inl ⟨by rfl, ?_⟩) hHeld ?_
  rotate_left
  · intro w hSw
    go_simp
    with_reducible rfl
  try go_frame
  refine wpAnyH_take (i := 18) (oi := ⟨some 24, _, _, _, _, _⟩) (v := ?_) rfl (by kernel_rfl) (by kernel_rfl) (by kernel_rfl) (fun _ _ _ h => h) (Or.inl ⟨by rfl, ?_⟩) hHeld ?_
  rotate_left
  · intro w hSw
    go_simp
    with_reducible rfl
  try go_frame
  refine wpAnyH_take (i := 19) (oi := ⟨some 25, _, _, _, _, _⟩) (v := ?_) rfl (by kernel_rfl) (by kernel_rfl) (by kernel_rfl) (fun _ _ _ h => h) (Or.inl ⟨by rfl, ?_⟩) hHeld ?_
  rotate_left
  · intro w hSw
    obtain ⟨s0, s1, s2, s3, s4, s5, s6⟩ := hSw
    go_simp
    with_reducible rfl
  try go_frame
  refine wpAnyH_take (i := 20) (oi := ⟨some 26, _, _, _, _, _⟩) (v := ?_) rfl (by kernel_rfl) (by kernel_rfl) (by kernel_rfl) (fun _ _ _ h => h) (Or.inl ⟨by rfl, ?_⟩) hHeld ?_
  rotate_left
  · intro w hSw
    go_simp
    with_reducible rfl
  try go_frame
  refine wpAnyH_take (i := 21) (oi := ⟨some 27, _, _, _, _, _⟩) (v := ?_) rfl (by kernel_rfl) (by kernel_rfl) (by kernel_rfl) (fun _ _ _ h => h) (Or.inl ⟨by rfl, ?_⟩) hHeld ?_
  rotate_left
  · intro w hSw
    go_simp
    with_reducible rfl
  try go_frame
  refine wpAnyH_take (i := 22) (oi := ⟨some 28, _, _, _, _, _⟩) (v := ?_) rfl (by kernel_rfl) (by kernel_rfl) (by kernel_rfl) (fun _ _ _ h => h) (Or.inl ⟨by rfl, ?_⟩) hHeld ?_
  rotate_left
  · intro w hSw
    go_simp
    with_reducible rfl
  try go_frame
  refine wpAnyH_take (i := 23) (oi := ⟨some 29, _, _, _, _, _⟩) (v := ?_) rfl (by kernel_rfl) (by kernel_rfl) (by kernel_rfl) (fun _ _ _ h => h) (Or.inl ⟨by rfl, ?_⟩) hHeld ?_
  rotate_left
  · intro w hSw
    obtain ⟨s0, s1, s2, s3, s4, s5, s6⟩ := hSw
    go_simp
    with_reducible rfl
  try go_frame
  refine wpAnyH_take (i := 24) (oi := ⟨some 30, _, _, _, _, _⟩) (v := ?_) rfl (by kernel_rfl) (by kernel_rfl) (by kernel_rfl) (fun _ _ _ h => h) (Or.inl ⟨by rfl, ?_⟩) hHeld ?_
  rotate_left
  · intro w hSw
    go_simp
    with_reducible rfl
  try go_frame
  refine wpAnyH_take (i := 25) (oi := ⟨some 31, _, _, _, _, _⟩) (v := ?_) rfl (by kernel_rfl) (by kernel_rfl) (by kernel_rfl) (fun _ _ _ h => h) (Or.inl ⟨by rfl, ?_⟩) hHeld ?_
  rotate_left
  · intro w hSw
    go_simp
    with_reducible rfl
  try go_frame
  refine wpAnyH_take (i := 26) (oi := ⟨some 32, _, _, _, _, _⟩) (v := ?_) rfl (by kernel_rfl) (by kernel_rfl) (by kernel_rfl) (fun _ _ _ h => h) (Or.inl ⟨by rfl, ?_⟩) hHeld ?_
  rotate_left
  · intro w hSw
    go_simp
    with_reducible rfl
  try go_frame
  refine wpAnyH_take (i := 27) (oi := ⟨some 33, _, _, _, _, _⟩) (v := ?_) rfl (by kernel_rfl) (by kernel_rfl) (by kernel_rfl) (fun _ _ _ h => h) (Or.inl ⟨by rfl, ?_⟩) hHeld ?_
  rotate_left
  · intro w hSw
    obtain ⟨s0, s1, s2, s3, s4, s5, s6⟩ := hSw
    go_simp
    with_reducible rfl
  try go_frame
  refine wpAnyH_take (i := 28) (oi := ⟨some 34, _, _, _, _, _⟩) (v := ?_) rfl (by kernel_rfl) (by kernel_rfl) (by kernel_rfl) (fun _ _ _ h => h) (Or.inl ⟨by rfl, ?_⟩) hHeld ?_
  rotate_left
  · intro w hSw
    go_simp
    with_reducible rfl
  try go_frame
  refine wpAnyH_take (i := 29) (oi := ⟨some 35, _, _, _, _, _⟩) (v := ?_) rfl (by kernel_rfl) (by kernel_rfl) (by kernel_rfl) (fun _ _ _ h => h) (Or.inl ⟨by rfl, ?_⟩) hHeld ?_
  rotate_left
  · intro w hSw
    go_simp
    with_reducible rfl
  try go_frame
  refine wpAnyH_take (i := 30) (oi := ⟨some 36, _, _, _, _, _⟩) (v := ?_) rfl (by kernel_rfl) (by kernel_rfl) (by kernel_rfl) (fun _ _ _ h => h) (Or.inl ⟨by rfl, ?_⟩) hHeld ?_
  rotate_left
  · intro w hSw
    go_simp
    with_reducible rfl
  try go_frame
  refine wpAnyH_take (i := 31) (oi := ⟨some 37, _, _, _, _, _⟩) (v := ?_) rfl (by kernel_rfl) (by kernel_rfl) (by kernel_rfl) (fun _ _ _ h => h) (Or.inl ⟨by rfl, ?_⟩) hHeld ?_
  rotate_left
  · intro w hSw
    obtain ⟨s0, s1, s2, s3, s4, s5, s6⟩ := hSw
    go_simp
    with_reducible rfl
  try go_frame
  refine wpAnyH_take (i := 32) (oi := ⟨some 38, _, _, _, _, _⟩) (v := ?_) rfl (by kernel_rfl) (by kernel_rfl) (by kernel_rfl) (fun _ _ _ h => h) (Or.inl ⟨by rfl, ?_⟩) hHeld ?_
  rotate_left
  · intro w hSw
    go_simp
    with_reducible rfl
  try go_frame
  refine wpAnyH_ready (rs := [33]) (by kernel_rfl) (by simp) ?_
  refine AllReadyH.cons (o := ⟨some 39, _, _, _, _, _⟩) rfl (fun K hK => ?_) AllReadyH.nil
  go_simp
  have hb : Below w1d.heap.size w1d (w1d.alloc (.cells #[.int .u8 (IntKind.u8.wrap k), .int .u8 (IntKind.u8.wrap (IntKind.i64.wrap (b.tdiv 256))), .int .u8 (IntKind.u8.wrap b), .int .u8 (IntKind.u8.wrap b0), .int .u8 (IntKind.u8.wrap b1), .int .u8 (IntKind.u8.wrap b2), .int .u8 (IntKind.u8.wrap b3), .int .u8 (IntKind.u8.wrap d)] 5)) := Joins.below_alloc1 _ _
  have hg_bs := hC.size
  obtain ⟨g_bs, Hg_bs⟩ : ∃ g, Hid (g = w1d.heap.size) := ⟨_, rfl⟩
  have R_bs : Hid (Row (w1d.alloc (.cells #[.int .u8 (IntKind.u8.wrap k), .int .u8 (IntKind.u8.wrap (IntKind.i64.wrap (b.tdiv 256))), .int .u8 (IntKind.u8.wrap b), .int .u8 (IntKind.u8.wrap b0), .int .u8 (IntKind.u8.wrap b1), .int .u8 (IntKind.u8.wrap b2), .int .u8 (IntKind.u8.wrap b3), .int .u8 (IntKind.u8.wrap d)] 5)) w1d.heap.size 5 (E.map V8)) := by rw [HEV.out]; exact Row.new _ _ _
  replace hC := hC.trans (hb.mono hC.size)
  refine hK.out _ _ (HKeep.out _ hC) (fun hHeld => ?_)
  clear hK K hb
  generalize (w1d.alloc (.cells #[.int .u8 (IntKind.u8.wrap k), .int .u8 (IntKind.u8.wrap (IntKind.i64.wrap (b.tdiv 256))), .int .u8 (IntKind.u8.wrap b), .int .u8 (IntKind.u8.wrap b0), .int .u8 (IntKind.u8.wrap b1), .int .u8 (IntKind.u8.wrap b2), .int .u8 (IntKind.u8.wrap b3), .int .u8 (IntKind.u8.wrap d)] 5)) = w1d_bs at *
  rw [← Hg_bs.out] at hg_bs ⊢
  rw [← Hg_bs.out] at R_bs
  clear Hg_bs
  try go_frame
  refine wpAnyH_take (i := 34) (oi := ⟨some 2, _, _, _, _, _⟩) (v := ?_) rfl (by kernel_rfl) (by kernel_rfl) (by kernel_rfl) (fun _ _ _ h => h) (Or.inl ⟨by rfl, ?_⟩) hHeld ?_
  rotate_left
  · intro w hSw
    go_simp
    with_reducible rfl
  try go_frame
  refine wpAnyH_done (by kernel_rfl) ?_ _
  clear hHeld HKeep
  have HF : Hid (Below w.heap.size w w1d_bs) := HC.out.trans (hC.mono HC.out.size)
  have HA : Hid (Arg w1d_bs (.slice (some ⟨g_bs, 0, none⟩) 8 8) E) := R_bs.out.arg 8 HEL.out
  go_wp2
  go_ret
  exact ⟨_, rfl, HA, HF.out⟩

/-- A fresh inode's cells. -/
def Z7 : List Value := [.int .i64 0, .int .i64 0, .int .i64 0, .int .i64 0, .int .i64 0, .int .i64 0, .int .i64 0]
theorem inResults {P : Program} {fn : Func} {p u : Tmp} {ty : TypeId} (h : fn.results = #[.cell p ty, .tmp u]) (tmps : Array Value) (w : World) (g : Nat) (t : TypeId) (cs : Array Value) (fr : Nat × Nat) (d : TypeDesc)
    (hp : tmps.getD p undef = .pointer (some ⟨g, 0, none⟩)) (hg : w.heap[g]? = some (.cells cs t fr))
    (hu : P.underlying ty = some d) (hd : (match d with | .struct _ | .array _ _ => true | _ => false) = true) (hi : (P.info? ty).map (·.size) = some cs.size) :
    (results fn tmps).run P w = .ok (.tuple #[.agg cs, tmps.getD u undef]) w := by
  rw [results_cell_tmp h, hp]
  simp [asAddr, run_loadVar_row w g t ty cs fr d hg hu hd hi]


/-- An inode whose first j blocks are there. -/
def part (x : Ino) (j : Nat) : Ino := ⟨x.k, x.b, if 0 < j then x.b0 else 0, if 1 < j then x.b1 else 0, if 2 < j then x.b2 else 0, if 3 < j then x.b3 else 0, x.d⟩
theorem part_all (x : Ino) : part x 4 = x := rfl
theorem part_set (x : Ino) (j : Nat) (hj : j < 4) : ((part x j).l.map VI).set (2 + j) (VI (x.l.getD (2 + j) 0)) = (part x (j + 1)).l.map VI := by
  match j, hj with
  | 0, _ => rfl
  | 1, _ => rfl
  | 2, _ => rfl
  | 3, _ => rfl
theorem dec_block (b : List UInt8) (j : Nat) (hj : j < 4) : (dec b).l.getD (2 + j) 0 = ((b.getD (3 + j) 0).toNat : Int) := by
  match j, hj with
  | 0, _ => rfl
  | 1, _ => rfl
  | 2, _ => rfl
  | 3, _ => rfl
theorem oneI (l : List Int) : ((l.map VI).toArray).all (·.oneCell') = true := by
  rw [Array.all_eq_true_iff_forall_mem]
  intro u hu
  obtain ⟨x, _, rfl⟩ := List.mem_map.1 (by simpa using hu)
  rfl
theorem dec_fits (b : List UInt8) : (dec b).fits := by
  intro z hz
  have h0 := lt8 (b.getD 0 0)
  have h1 := lt8 (b.getD 1 0)
  have h2 := lt8 (b.getD 2 0)
  have h3 := lt8 (b.getD 3 0)
  have h4 := lt8 (b.getD 4 0)
  have h5 := lt8 (b.getD 5 0)
  have h6 := lt8 (b.getD 6 0)
  have h7 := lt8 (b.getD 7 0)
  simp only [Ino.l, dec, List.mem_cons, List.not_mem_nil, or_false] at hz
  rcases hz with rfl | rfl | rfl | rfl | rfl | rfl | rfl <;> exact ⟨by omega, by omega⟩

set_option maxRecDepth 100000 in
set_option maxHeartbeats 2000000 in
theorem RInGet_any (b : List UInt8) (v : Value) (w : World) (h : Arg w v b) :
    Calls Try.prog 13 #[v] w fun e w' => e = .returned (.tuple #[.agg (inoC (getI b)), .int .i64 (getE b)]) ∧ Below w.heap.size w w' := by
  obtain ⟨A, cap, rfl, hs⟩ := (arg_from h).parts
  rw [List.length_map] at hs ⊢
  obtain ⟨n, hnl⟩ : ∃ n, n = b.length := ⟨_, rfl⟩
  rw [← hnl] at hs ⊢
  have HR0 : Hid (Row (w.alloc (.cells Z7.toArray 24)) w.heap.size 24 Z7) := Row.new w _ Z7
  have HC0 : Hid (Below w.heap.size w (w.alloc (.cells Z7.toArray 24))) := (Below.refl _ _).alloc (Nat.le_refl _) _
  by_cases h8 : n = 8
  · subst h8
    obtain ⟨bb, o, rfl, hb, hsee⟩ := hs (by omega)
    obtain ⟨w0, hw0⟩ : ∃ w0, w0 = w.alloc (.cells #[.int .i64 0, .int .i64 0, .int .i64 0, .int .i64 0, .int .i64 0, .int .i64 0, .int .i64 0] 24) := ⟨_, rfl⟩
    have HR : Hid (Row w0 w.heap.size 24 Z7) := by rw [hw0]; exact Row.new w _ Z7
    have HC : Hid (Below w.heap.size w w0) := by rw [hw0]; exact (Below.refl _ _).alloc (Nat.le_refl _) _
    have HSee : Hid (Sees w0 bb o (b.map V8)) := hsee.below HC.out hb
    have HBB : Hid (bb < w0.heap.size) := Nat.lt_of_lt_of_le hb HC.out.size
    have HNl := Lib.hid hnl.symm
    have HdE : Hid (dec b = ⟨(b.getD 0 0).toNat, 256 * ((b.getD 1 0).toNat : Int) + (b.getD 2 0).toNat, (b.getD 3 0).toNat, (b.getD 4 0).toNat, (b.getD 5 0).toNat, (b.getD 6 0).toNat, (b.getD 7 0).toNat⟩) := rfl
    have HKeep : Hid (∀ W, Below w0.heap.size w0 W → W.cell? ⟨bb, o, none⟩ = some (.int .u8 ((b.getD 0 0).toNat : Int)) ∧ W.cell? ⟨bb, o + 1, none⟩ = some (.int .u8 ((b.getD 1 0).toNat : Int)) ∧ W.cell? ⟨bb, o + 2, none⟩ = some (.int .u8 ((b.getD 2 0).toNat : Int)) ∧ W.cell? ⟨bb, o + 7, none⟩ = some (.int .u8 ((b.getD 7 0).toNat : Int))) := fun W hW => by
      have hs := HSee.out.below hW HBB.out
      have hl := HNl.out
      exact ⟨at8 hs 0 (by omega), at8 hs 1 (by omega), at8 hs 2 (by omega), at8 hs 7 (by omega)⟩
    obtain ⟨x0, hx0⟩ : ∃ x, x = b.getD 0 0 := ⟨_, rfl⟩
    obtain ⟨x1, hx1⟩ : ∃ x, x = b.getD 1 0 := ⟨_, rfl⟩
    obtain ⟨x2, hx2⟩ : ∃ x, x = b.getD 2 0 := ⟨_, rfl⟩
    obtain ⟨x7, hx7⟩ : ∃ x, x = b.getD 7 0 := ⟨_, rfl⟩
    rw [← hx0, ← hx1, ← hx2, ← hx7] at HKeep HdE
    have HOne : Hid (([.int .i64 (IntKind.i64.wrap (x0.toNat : Int)), .int .i64 (IntKind.i64.wrap (IntKind.i64.wrap (256 * IntKind.i64.wrap (x1.toNat : Int)) + IntKind.i64.wrap (x2.toNat : Int))), .int .i64 0, .int .i64 0, .int .i64 0, .int .i64 0, .int .i64 (IntKind.i64.wrap (x7.toNat : Int))] : List Value).toArray.all (·.oneCell') = true) := oneI [IntKind.i64.wrap (x0.toNat : Int), IntKind.i64.wrap (IntKind.i64.wrap (256 * IntKind.i64.wrap (x1.toNat : Int)) + IntKind.i64.wrap (x2.toNat : Int)), 0, 0, 0, 0, IntKind.i64.wrap (x7.toNat : Int)]
    have HV0 : Hid (([.int .i64 (IntKind.i64.wrap (x0.toNat : Int)), .int .i64 (IntKind.i64.wrap (IntKind.i64.wrap (256 * IntKind.i64.wrap (x1.toNat : Int)) + IntKind.i64.wrap (x2.toNat : Int))), .int .i64 0, .int .i64 0, .int .i64 0, .int .i64 0, .int .i64 (IntKind.i64.wrap (x7.toNat : Int))] : List Value) = (part (dec b) 0).l.map VI) := by
      show _ = _
      have l0 := lt8 x0
      have l1 := lt8 x1
      have l2 := lt8 x2
      have l7 := lt8 x7
      rw [HdE.out, wrap_i64 (x0.toNat : Int) ⟨by omega, by omega⟩, wrap_i64 (x1.toNat : Int) ⟨by omega, by omega⟩, wrap_i64 (x2.toNat : Int) ⟨by omega, by omega⟩, wrap_i64 (x7.toNat : Int) ⟨by omega, by omega⟩, wrap_i64 (256 * (x1.toNat : Int)) ⟨by omega, by omega⟩, wrap_i64 (256 * (x1.toNat : Int) + (x2.toNat : Int)) ⟨by omega, by omega⟩]
      rfl
    have HZ7 : Hid (([.int .i64 (IntKind.i64.wrap (x0.toNat : Int)), .int .i64 (IntKind.i64.wrap (IntKind.i64.wrap (256 * IntKind.i64.wrap (x1.toNat : Int)) + IntKind.i64.wrap (x2.toNat : Int))), .int .i64 0, .int .i64 0, .int .i64 0, .int .i64 0, .int .i64 (IntKind.i64.wrap (x7.toNat : Int))] : List Value).toArray.size = 7) := rfl
    clear hx0 hx1 hx2 hx7 hs hsee hb hnl h HR0 HC0
    go_enter Try.func13, Try.ntmps13
    go_wp2
    rw [← hw0]
    clear hw0
    have hC : Below w0.heap.size w0 w0.drew := below_drewN (Below.refl _ _) 1
    refine wp_region_held_drew (S := (fun W => W.cell? ⟨bb, o, none⟩ = some (.int .u8 (x0.toNat : Int)) ∧ W.cell? ⟨bb, o + 1, none⟩ = some (.int .u8 (x1.toNat : Int)) ∧ W.cell? ⟨bb, o + 2, none⟩ = some (.int .u8 (x2.toNat : Int)) ∧ W.cell? ⟨bb, o + 7, none⟩ = some (.int .u8 (x7.toNat : Int)))) (by kernel_rfl) (HKeep.out _ hC) (fun hHeld => ?_)
    generalize w0.drew = w0d at *
    refine wpAnyH_take (i := 0) (oi := ⟨some 11, _, _, _, _, _⟩) (v := ?_) rfl (by kernel_rfl) (by kernel_rfl) (by kernel_rfl) (fun _ _ _ h => h) (Or.inl ⟨by rfl, ?_⟩) hHeld ?_
    rotate_left
    · intro w hSw
      go_simp
      with_reducible rfl
    try go_frame
    refine wpAnyH_take (i := 1) (oi := ⟨some 12, _, _, _, _, _⟩) (v := ?_) rfl (by kernel_rfl) (by kernel_rfl) (by kernel_rfl) (fun _ _ _ h => h) (Or.inl ⟨by rfl, ?_⟩) hHeld ?_
    rotate_left
    · intro w hSw
      go_simp
      with_reducible rfl
    try go_frame
    refine wpAnyH_take (i := 2) (oi := ⟨some 13, _, _, _, _, _⟩) (v := ?_) rfl (by kernel_rfl) (by kernel_rfl) (by kernel_rfl) (fun _ _ _ h => h) (Or.inl ⟨by rfl, ?_⟩) hHeld ?_
    rotate_left
    · intro w hSw
      obtain ⟨s0, s1, s2, s3⟩ := hSw
      go_simp
      with_reducible rfl
    try go_frame
    refine wpAnyH_take (i := 3) (oi := ⟨some 14, _, _, _, _, _⟩) (v := ?_) rfl (by kernel_rfl) (by kernel_rfl) (by kernel_rfl) (fun _ _ _ h => h) (Or.inl ⟨by rfl, ?_⟩) hHeld ?_
    rotate_left
    · intro w hSw
      go_simp
      with_reducible rfl
    try go_frame
    refine wpAnyH_take (i := 4) (oi := ⟨some 15, _, _, _, _, _⟩) (v := ?_) rfl (by kernel_rfl) (by kernel_rfl) (by kernel_rfl) (fun _ _ _ h => h) (Or.inl ⟨by rfl, ?_⟩) hHeld ?_
    rotate_left
    · intro w hSw
      go_simp
      with_reducible rfl
    try go_frame
    refine wpAnyH_take (i := 5) (oi := ⟨some 16, _, _, _, _, _⟩) (v := ?_) rfl (by kernel_rfl) (by kernel_rfl) (by kernel_rfl) (fun _ _ _ h => h) (Or.inl ⟨by rfl, ?_⟩) hHeld ?_
    rotate_left
    · intro w hSw
      go_simp
      with_reducible rfl
    try go_frame
    refine wpAnyH_take (i := 6) (oi := ⟨some 17, _, _, _, _, _⟩) (v := ?_) rfl (by kernel_rfl) (by kernel_rfl) (by kernel_rfl) (fun _ _ _ h => h) (Or.inl ⟨by rfl, ?_⟩) hHeld ?_
    rotate_left
    · intro w hSw
      obtain ⟨s0, s1, s2, s3⟩ := hSw
      go_simp
      with_reducible rfl
    try go_frame
    refine wpAnyH_take (i := 7) (oi := ⟨some 18, _, _, _, _, _⟩) (v := ?_) rfl (by kernel_rfl) (by kernel_rfl) (by kernel_rfl) (fun _ _ _ h => h) (Or.inl ⟨by rfl, ?_⟩) hHeld ?_
    rotate_left
    · intro w hSw
      go_simp
      with_reducible rfl
    try go_frame
    refine wpAnyH_take (i := 8) (oi := ⟨some 19, _, _, _, _, _⟩) (v := ?_) rfl (by kernel_rfl) (by kernel_rfl) (by kernel_rfl) (fun _ _ _ h => h) (Or.inl ⟨by rfl, ?_⟩) hHeld ?_
    rotate_left
    · intro w hSw
      go_simp
      with_reducible rfl
    try go_frame
    refine wpAnyH_take (i := 9) (oi := ⟨some 20, _, _, _, _, _⟩) (v := ?_) rfl (by kernel_rfl) (by kernel_rfl) (by kernel_rfl) (fun _ _ _ h => h) (Or.inl ⟨by rfl, ?_⟩) hHeld ?_
    rotate_left
    · intro w hSw
      go_simp
      with_reducible rfl
    try go_frame
    refine wpAnyH_take (i := 10) (oi := ⟨some 21, _, _, _, _, _⟩) (v := ?_) rfl (by kernel_rfl) (by kernel_rfl) (by kernel_rfl) (fun _ _ _ h => h) (Or.inl ⟨by rfl, ?_⟩) hHeld ?_
    rotate_left
    · intro w hSw
      go_simp
      with_reducible rfl
    try go_frame
    refine wpAnyH_take (i := 11) (oi := ⟨some 22, _, _, _, _, _⟩) (v := ?_) rfl (by kernel_rfl) (by kernel_rfl) (by kernel_rfl) (fun _ _ _ h => h) (Or.inl ⟨by rfl, ?_⟩) hHeld ?_
    rotate_left
    · intro w hSw
      obtain ⟨s0, s1, s2, s3⟩ := hSw
      go_simp
      with_reducible rfl
    try go_frame
    refine wpAnyH_take (i := 12) (oi := ⟨some 23, _, _, _, _, _⟩) (v := ?_) rfl (by kernel_rfl) (by kernel_rfl) (by kernel_rfl) (fun _ _ _ h => h) (Or.inl ⟨by rfl, ?_⟩) hHeld ?_
    rotate_left
    · intro w hSw
      go_simp
      with_reducible rfl
    try go_frame
    refine wpAnyH_take (i := 13) (oi := ⟨some 24, _, _, _, _, _⟩) (v := ?_) rfl (by kernel_rfl) (by kernel_rfl) (by kernel_rfl) (fun _ _ _ h => h) (Or.inl ⟨by rfl, ?_⟩) hHeld ?_
    rotate_left
    · intro w hSw
      go_simp
      with_reducible rfl
    try go_frame
    refine wpAnyH_take (i := 14) (oi := ⟨some 25, _, _, _, _, _⟩) (v := ?_) rfl (by kernel_rfl) (by kernel_rfl) (by kernel_rfl) (fun _ _ _ h => h) (Or.inl ⟨by rfl, ?_⟩) hHeld ?_
    rotate_left
    · intro w hSw
      go_simp
      with_reducible rfl
    try go_frame
    refine wpAnyH_take (i := 15) (oi := ⟨some 26, _, _, _, _, _⟩) (v := ?_) rfl (by kernel_rfl) (by kernel_rfl) (by kernel_rfl) (fun _ _ _ h => h) (Or.inl ⟨by rfl, ?_⟩) hHeld ?_
    rotate_left
    · intro w hSw
      go_simp
      with_reducible rfl
    try go_frame
    refine wpAnyH_take (i := 16) (oi := ⟨some 27, _, _, _, _, _⟩) (v := ?_) rfl (by kernel_rfl) (by kernel_rfl) (by kernel_rfl) (fun _ _ _ h => h) (Or.inl ⟨by rfl, ?_⟩) hHeld ?_
    rotate_left
    · intro w hSw
      obtain ⟨s0, s1, s2, s3⟩ := hSw
      go_simp
      with_reducible rfl
    try go_frame
    refine wpAnyH_take (i := 17) (oi := ⟨some 28, _, _, _, _, _⟩) (v := ?_) rfl (by kernel_rfl) (by kernel_rfl) (by kernel_rfl) (fun _ _ _ h => h) (Or.inl ⟨by rfl, ?_⟩) hHeld ?_
    rotate_left
    · intro w hSw
      go_simp
      with_reducible rfl
    try go_frame
    refine wpAnyH_take (i := 18) (oi := ⟨some 29, _, _, _, _, _⟩) (v := ?_) rfl (by kernel_rfl) (by kernel_rfl) (by kernel_rfl) (fun _ _ _ h => h) (Or.inl ⟨by rfl, ?_⟩) hHeld ?_
    rotate_left
    · intro w hSw
      go_simp
      with_reducible rfl
    try go_frame
    refine wpAnyH_ready (rs := [19]) (by kernel_rfl) (by simp) ?_
    refine AllReadyH.cons (o := ⟨some 4, _, _, _, _, _⟩) rfl (fun K hK => ?_) AllReadyH.nil
    go_simp
    have hb : Below w0d.heap.size w0d (w0d.alloc (.cells #[.int .i64 0, .int .i64 0, .int .i64 0, .int .i64 0, .int .i64 0, .int .i64 0, .int .i64 0] 24)) := Joins.below_alloc1 _ _
    have hg_al := hC.size
    obtain ⟨g_al, Hg_al⟩ : ∃ g, Hid (g = w0d.heap.size) := ⟨_, rfl⟩
    have R_al : Hid (Row (w0d.alloc (.cells #[.int .i64 0, .int .i64 0, .int .i64 0, .int .i64 0, .int .i64 0, .int .i64 0, .int .i64 0] 24)) w0d.heap.size 24 Z7) := Row.new w0d 24 Z7
    replace hC := hC.trans (hb.mono hC.size)
    refine hK.out _ _ (HKeep.out _ hC) (fun hHeld => ?_)
    clear hK K hb
    generalize (w0d.alloc (.cells #[.int .i64 0, .int .i64 0, .int .i64 0, .int .i64 0, .int .i64 0, .int .i64 0, .int .i64 0] 24)) = w0d_al at *
    rw [← Hg_al.out] at hg_al ⊢
    rw [← Hg_al.out] at R_al
    clear Hg_al
    try go_frame
    refine wpAnyH_ready (rs := [20]) (by kernel_rfl) (by simp) ?_
    refine AllReadyH.cons (o := ⟨none, _, _, _, _, _⟩) rfl (fun K hK => ?_) AllReadyH.nil
    rw [if_pos (by rfl)]
    refine Go.wp_store_row 24 (.tmp 4) (.tmp 29) rfl g_al [.int .i64 (IntKind.i64.wrap (x0.toNat : Int)), .int .i64 (IntKind.i64.wrap (IntKind.i64.wrap (256 * IntKind.i64.wrap (x1.toNat : Int)) + IntKind.i64.wrap (x2.toNat : Int))), .int .i64 0, .int .i64 0, .int .i64 0, .int .i64 0, .int .i64 (IntKind.i64.wrap (x7.toNat : Int))].toArray rfl rfl 24 _ R_al.out (by rw [HZ7.out]; kernel_rfl) (by rw [HZ7.out]; rfl) HOne.out ?_
    replace R_al := Lib.hid (R_al.out.whole [.int .i64 (IntKind.i64.wrap (x0.toNat : Int)), .int .i64 (IntKind.i64.wrap (IntKind.i64.wrap (256 * IntKind.i64.wrap (x1.toNat : Int)) + IntKind.i64.wrap (x2.toNat : Int))), .int .i64 0, .int .i64 0, .int .i64 0, .int .i64 0, .int .i64 (IntKind.i64.wrap (x7.toNat : Int))])
    replace hC := below_setRow' hC (k := g_al) hg_al [.int .i64 (IntKind.i64.wrap (x0.toNat : Int)), .int .i64 (IntKind.i64.wrap (IntKind.i64.wrap (256 * IntKind.i64.wrap (x1.toNat : Int)) + IntKind.i64.wrap (x2.toNat : Int))), .int .i64 0, .int .i64 0, .int .i64 0, .int .i64 0, .int .i64 (IntKind.i64.wrap (x7.toNat : Int))].toArray
    refine hK.out _ _ (HKeep.out _ hC) (fun hHeld => ?_)
    clear hK K
    generalize (w0d_al.setRow g_al [.int .i64 (IntKind.i64.wrap (x0.toNat : Int)), .int .i64 (IntKind.i64.wrap (IntKind.i64.wrap (256 * IntKind.i64.wrap (x1.toNat : Int)) + IntKind.i64.wrap (x2.toNat : Int))), .int .i64 0, .int .i64 0, .int .i64 0, .int .i64 0, .int .i64 (IntKind.i64.wrap (x7.toNat : Int))].toArray) = w0d_al_st at *
    try go_frame
    refine wpAnyH_done (by kernel_rfl) ?_ _
    have HR2 : Hid (Row w0d_al_st g_al 24 ((part (dec b) 0).l.map VI)) := by have := R_al.out; rwa [HV0.out] at this
    have HC2 : Hid (Below w0.heap.size w0 w0d_al_st) := hC
    have HgA : Hid (w0.heap.size ≤ g_al) := hg_al
    generalize w0d_al_st = w2 at *
    clear hHeld HKeep hC R_al HV0 HOne HZ7 HdE hg_al
    have Hblk : Hid (∀ j, j < 4 → (dec b).l.getD (2 + j) 0 = ((b.getD (3 + j) 0).toNat : Int)) := dec_block b
    have HM : Hid (∀ W, Calls Try.prog 7 #[.agg (inoC (dec b))] W fun e w' => e = .returned (.bool (may (dec b))) ∧ Below W.heap.size W w') := fun W => RInMay_any (dec b) (dec_fits b) W
    have hgI : getI b = if may (dec b) then dec b else zero := by
      unfold getI
      by_cases hm : may (dec b) = true
      · rw [if_pos ⟨HNl.out, hm⟩, if_pos hm]
      · rw [if_neg fun h => hm h.2, if_neg hm]
    have hgE : getE b = if may (dec b) then 0 else 10 := if_pos HNl.out
    have HgI := Lib.hid hgI
    have HgE := Lib.hid hgE
    clear hgI hgE
    generalize dec b = X at *
    generalize may X = m at *
    clear hHeld
    go_wp2
    go_loopw [5] (fun i wr => ∃ j : Nat, j ≤ 4 ∧ i = .int .i64 j ∧ Hid (Row wr g_al 24 ((part X j).l.map VI)) ∧ Hid (Below w0.heap.size w0 wr)) (fun i _ => 4 - (intOf i).toNat)
    case atStart => exact ⟨0, by omega, rfl, HR2, HC2⟩
    case round =>
      clear HR2 HC2
      obtain ⟨j, hj, rfl, HR2, HC2⟩ := hrel
      by_cases hlt : j < 4
      · have cx := at8 (HSee.out.below HC2.out HBB.out) (3 + j) (by rw [HNl.out]; omega)
        have cz := rowI HR2.out (2 + j) (by rw [l_len]; omega)
        have fz := HR2.out.free (2 + j)
        have HY := Lib.hid (Hblk.out j hlt)
        generalize b.getD (3 + j) 0 = y at *
        have hy := lt8 y
        have HR3 : Hid (Row (wr.setCell ⟨g_al, 2 + j, none⟩ (.int .i64 (y.toNat : Int))) g_al 24 ((part X (j + 1)).l.map VI)) := by
          have := HR2.out.set (2 + j) (VI (X.l.getD (2 + j) 0))
          rw [part_set X j hlt, HY.out] at this
          exact this
        have HC3 : Hid (Below w0.heap.size w0 (wr.setCell ⟨g_al, 2 + j, none⟩ (.int .i64 (y.toNat : Int)))) := HC2.out.setCell HgA.out _
        clear HR2 HC2 HY
        go_wp2
        go_roundw
        case rel => exact ⟨j + 1, by omega, by go_num, HR3, HC3⟩
        case measure => simp [intOf] <;> omega
      · obtain rfl : j = 4 := by omega
        rw [part_all] at HR2
        obtain ⟨cs, hcs⟩ : ∃ cs, cs = inoC X := ⟨_, rfl⟩
        have Hcs : Hid (cs = (X.l.map VI).toArray) := hcs
        have Hsz : Hid (cs.size = 7) := by show _ = _; rw [hcs]; rfl
        have Hone : Hid (cs.all (·.oneCell') = true) := by show _ = _; rw [hcs]; exact oneI X.l
        have HRX : Hid (wr.heap[g_al]? = some (.cells cs 24 (0, 0))) := by show _ = _; rw [hcs]; exact HR2.out
        have HcsI : Hid (cs = inoC X) := hcs
        rw [← hcs] at HM
        clear hcs
        go_wp2_with (refine wpList_load_row rfl 24 (.tmp 4) rfl g_al rfl 24 cs (0, 0) _ HRX.out Try.underlying24 rfl (by rw [Hsz.out]; kernel_rfl) ?_)
        refine (HM.out wr).mono ?_
        rintro e w3 ⟨rfl, hb⟩
        have HRX3 : Hid (w3.heap[g_al]? = some (.cells cs 24 (0, 0))) := by
          have : Row wr g_al 24 (X.l.map VI) := HR2.out
          have := this.below hb this.lt
          show _ = _
          rw [Hcs.out]; exact this
        have HC03 : Hid (Below w0.heap.size w0 w3) := HC2.out.trans (hb.mono HC2.out.size)
        have HRw : Hid (Row w3 w.heap.size 24 Z7) := HR.out.below HC03.out HR.out.lt
        have HC4 : Hid (Below w.heap.size w w3) := HC.out.trans (HC03.out.mono HC.out.size)
        clear hb HRX HM HC2 HC03 HR HC HR2
        cases m
        · have HRF : Hid (Row (w3.setRow w.heap.size Z7.toArray) w.heap.size 24 Z7) := HRw.out.whole Z7
          have HCF : Hid (Below w.heap.size w (w3.setRow w.heap.size Z7.toArray)) := below_setRow' HC4.out (Nat.le_refl _) _
          go_wp2_with (refine wpList_store_row rfl 24 (.tmp 2) (.tmp 47) rfl w.heap.size Z7.toArray rfl rfl 24 _ HRw.out (by kernel_rfl) (by rfl) (oneI [0, 0, 0, 0, 0, 0, 0]) ?_)
          refine bodyPost_ret (v := .tuple #[.agg Z7.toArray, .int .i64 10]) (inResults (p := 2) (u := 3) rfl _ _ w.heap.size 24 Z7.toArray (0, 0) _ rfl HRF.out Try.underlying24 rfl (by kernel_rfl)) rfl ?_
          refine ⟨?_, HCF.out⟩
          rw [HgI.out, HgE.out]
          rfl
        · have HRF : Hid ((w3.setRow w.heap.size cs).heap[w.heap.size]? = some (.cells cs 24 (0, 0))) := by
            have := HRw.out.whole (X.l.map VI)
            show _ = _
            rw [Hcs.out]
            exact this
          have HCF : Hid (Below w.heap.size w (w3.setRow w.heap.size cs)) := below_setRow' HC4.out (Nat.le_refl _) _
          go_wp2_with (first | (refine wpList_load_row rfl 24 (.tmp 4) rfl g_al rfl 24 cs (0, 0) _ HRX3.out Try.underlying24 rfl (by rw [Hsz.out]; kernel_rfl) ?_) | (refine wpList_store_row rfl 24 (.tmp 2) (.tmp 48) rfl w.heap.size cs rfl rfl 24 _ HRw.out (by rw [Hsz.out]; kernel_rfl) (by rw [Hsz.out]; rfl) Hone.out ?_))
          refine bodyPost_ret (v := .tuple #[.agg cs, .int .i64 0]) (inResults (p := 2) (u := 3) rfl _ _ w.heap.size 24 cs (0, 0) _ rfl HRF.out Try.underlying24 rfl (by rw [Hsz.out]; kernel_rfl)) rfl ?_
          refine ⟨?_, HCF.out⟩
          rw [HgI.out, HgE.out, if_pos trivial, if_pos trivial, HcsI.out]
  · have hI : getI b = zero := if_neg fun h => h8 (by rw [hnl]; exact h.1)
    have hE : getE b = 1 := if_neg fun h => h8 (by rw [hnl]; exact h)
    rw [hI, hE]
    clear hI hE hs
    go_enter Try.func13, Try.ntmps13
    go_wp2
    refine bodyPost_ret (v := .tuple #[.agg Z7.toArray, .int .i64 1]) (inResults (p := 2) (u := 3) rfl _ _ w.heap.size 24 Z7.toArray (0, 0) _ rfl HR0.out Try.underlying24 rfl (by kernel_rfl)) rfl ?_
    exact ⟨rfl, HC0.out⟩
end Go.Proofs.Ytcpdhfgigopfoaa
