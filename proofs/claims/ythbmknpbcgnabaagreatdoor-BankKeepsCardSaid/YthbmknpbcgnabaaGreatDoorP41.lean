/-
  OF THE WALK: VU, VZ.
-/
import Derived.Test.YthbmknpbcgnabaaGreatDoorP40
namespace Go.Proofs.YthbmknpbcgnabaaGreatDoor
open Go.RowKit Aes Ctr Sl Dsk
namespace Bk
def tagsK (mk : List UInt8) (n bank : Nat) (D : List Blk) (k : Nat) : List (List UInt8) := ((List.range k).map fun i => tg mk i (curAt D (bank * n + i))) ++ List.replicate (n - k) Mr.Mk.zero
section
variable {mk : List UInt8} {n bank : Nat} {D : List Blk}
theorem tagsK_zero : tagsK mk n bank D 0 = List.replicate n Mr.Mk.zero := by simp [tagsK]
theorem tagsK_all : tagsK mk n bank D n = tagsOf mk n bank D := by simp [tagsK, tagsOf]
theorem tagsK_length (k : Nat) (hk : k ≤ n) : (tagsK mk n bank D k).length = n := by simp [tagsK]; omega
theorem tagsK_succ (k : Nat) (hk : k < n) : (tagsK mk n bank D k).set k (tg mk k (curAt D (bank * n + k))) = tagsK mk n bank D (k + 1) := by
  unfold tagsK
  rw [List.range_succ, List.map_append, show n - k = (n - (k + 1)) + 1 by omega, List.replicate_succ, List.set_append_right _ _ (by simp), List.append_assoc]
  simp
theorem tagsOf_length : (tagsOf mk n bank D).length = n := by simp [tagsOf]
end
end Bk
set_option maxRecDepth 100000 in
theorem Jmount_unfit {w : World} {G : Nat → Prop} {d : Nat} {D : List Blk} (ks : List Value) (hks : ks.length = 48) (n : Int) (rs : List Value) (hrs : rs.length = 34) (hD : DiskAt w G d D) (hr : -9223372036854775808 ≤ n ∧ n ≤ 9223372036854775807) (hn : n < 8 ∨ 128 < n ∨ (D.length : Int) ≠ 2 * n) :
    Calls Tryz.prog 10 #[PT d, .agg ks.toArray, .int .i64 n, .agg rs.toArray] w fun e w' => e = .returned (.tuple #[.pointer none, .int .i64 1]) ∧ Below w.heap.size w w' := by
  obtain ⟨w0, hw0⟩ : ∃ w0, w0 = (w.alloc (.cells ks.toArray 29)).alloc (.cells rs.toArray 41) := ⟨_, rfl⟩
  have HB0 : Hid (Below w.heap.size w w0) := by rw [hw0]; exact ((Below.refl _ _).alloc (Nat.le_refl _) _).alloc (by simp) _
  have HF := Lib.hid (Jfits_any (hD.below HB0.out) n hr.1 hr.2)
  rw [decide_eq_false (show ¬ (8 ≤ n ∧ n ≤ 128 ∧ (D.length : Int) = 2 * n) by omega)] at HF
  have Hzk : Hid (ks.toArray.size = 48) := hks
  have Hzr : Hid (rs.toArray.size = 34) := hrs
  clear hD hn hr hks hrs
  go_enter Tryz.func10, Tryz.ntmps10
  go_wp2_with fail
  rw [← hw0]
  clear hw0
  refine HF.out.mono ?_
  rintro e w1 ⟨rfl, hb⟩
  have HB1 := Lib.hid (HB0.out.trans (hb.mono HB0.out.size))
  clear hb HF
  go_wp2
  go_ret2
  exact ⟨rfl, HB1.out⟩
set_option maxRecDepth 100000 in
theorem Jmount_zero {w : World} {G : Nat → Prop} {d : Nat} {D : List Blk} (ks : List Value) (hks : ks.length = 48) (n : Int) (bank : Nat) (root : List UInt8) (rs : List Value) (hroot : root.length = 32) (hrs : Hid (rs = regV 0 bank root)) (hb1 : bank ≤ 1) (hD : DiskAt w G d D) (hr : -9223372036854775808 ≤ n ∧ n ≤ 9223372036854775807) (hn : 8 ≤ n ∧ n ≤ 128 ∧ (D.length : Int) = 2 * n) :
    Calls Tryz.prog 10 #[PT d, .agg ks.toArray, .int .i64 n, .agg rs.toArray] w fun e w' => e = .returned (.tuple #[.pointer none, .int .i64 1]) ∧ Below w.heap.size w w' := by
  obtain ⟨w0, hw0⟩ : ∃ w0, w0 = (w.alloc (.cells ks.toArray 29)).alloc (.cells rs.toArray 41) := ⟨_, rfl⟩
  have HB0 : Hid (Below w.heap.size w w0) := by rw [hw0]; exact ((Below.refl _ _).alloc (Nat.le_refl _) _).alloc (by simp) _
  have HY : Hid (Row w0 (w.heap.size + 1) 41 rs) := by rw [hw0]; exact Row.newAt 41 rs (by simp)
  have HF := Lib.hid (Jfits_any (hD.below HB0.out) n hr.1 hr.2)
  rw [decide_eq_true hn] at HF
  have Hzk : Hid (ks.toArray.size = 48) := hks
  have Hzr : Hid (rs.toArray.size = 34) := by show _ = _; rw [hrs.out]; exact regV_length hroot
  have HC : Hid (∀ W, Below w0.heap.size w0 W → W.cell? ⟨w.heap.size + 1, 0, none⟩ = some (.int .u64 0) ∧ W.cell? ⟨w.heap.size + 1, 1, none⟩ = some (IV bank)) := fun W hW => by
    have := (HY.out.below hW HY.out.lt)
    rw [hrs.out] at this
    exact ⟨(this.cell 0).trans rfl, (this.cell 1).trans rfl⟩
  have Hb0 : Hid (¬ (bank : Int) < 0 ∧ ¬ 1 < (bank : Int)) := by show _ ∧ _; omega
  clear hD hn hr hks hrs hroot hb1 HY
  go_enter Tryz.func10, Tryz.ntmps10
  go_wp2_with fail
  rw [← hw0]
  clear hw0
  refine HF.out.mono ?_
  rintro e w1 ⟨rfl, hb⟩
  have HB1 := Lib.hid (HB0.out.trans (hb.mono HB0.out.size))
  obtain ⟨hc0, hc1⟩ := HC.out _ hb
  obtain ⟨hb0, hb1⟩ := Hb0.out
  clear hb HF HC Hb0
  go_wp2
  go_ret2
  exact ⟨rfl, HB1.out⟩
set_option maxRecDepth 100000 in
set_option maxHeartbeats 4000000 in
theorem Jmount_ok {w : World} {G : Nat → Prop} {d : Nat} {D : List Blk} (ek mk : List UInt8) (ks : List Value) (n ep bank : Nat) (root : List UInt8) (rs : List Value) (hD : DiskAt w G d D) (hk : KeysV ek mk ks) (hn : 8 ≤ n ∧ n ≤ 100) (hl : D.length = 2 * n) (hT : Hm.Tab w) (hb1 : bank ≤ 1) (hep : 1 ≤ ep ∧ ep ≤ 1000000) (hroot : root.length = 32) (hrs : Hid (rs = regV ep bank root)) :
    Calls Tryz.prog 10 #[PT d, .agg ks.toArray, IV n, .agg rs.toArray] w fun e w' =>
      match Bk.mount mk n ep bank root D with
      | some s => ∃ P F, e = .returned (.tuple #[PT P, .int .i64 0]) ∧ BL w' F P d ek mk s ∧ (∀ k, F k → w.heap.size ≤ k) ∧ Below w.heap.size w w'
      | none => e = .returned (.tuple #[.pointer none, .int .i64 10]) ∧ Below w.heap.size w w' := by
  obtain ⟨m, hm⟩ : ∃ m, m = Bk.mount mk n ep bank root D := ⟨_, rfl⟩
  rw [← hm]
  have HM := Lib.hid hm
  clear hm
  obtain ⟨w0, hw0⟩ : ∃ w0, w0 = (w.alloc (.cells ks.toArray 29)).alloc (.cells rs.toArray 41) := ⟨_, rfl⟩
  have HB0 : Hid (Below w.heap.size w w0) := by rw [hw0]; exact ((Below.refl _ _).alloc (Nat.le_refl _) _).alloc (by simp) _
  have HS0 : Hid (w.heap.size + 1 < w0.heap.size) := by show _ < _; rw [hw0]; simp
  have HX : Hid (Row w0 w.heap.size 29 ks) := by rw [hw0]; exact (Row.new w 29 ks).alloc _
  have HY : Hid (Row w0 (w.heap.size + 1) 41 rs) := by rw [hw0]; exact Row.newAt 41 rs (by simp)
  have HF := Lib.hid (Jfits_any (hD.below HB0.out) (n : Int) (by omega) (by omega))
  rw [decide_eq_true (show (8 ≤ (n : Int) ∧ (n : Int) ≤ 128 ∧ (D.length : Int) = 2 * (n : Int)) by omega)] at HF
  have Hzk : Hid (ks.toArray.size = 48) := hk.size
  have Hzr : Hid (rs.toArray.size = 34) := by show _ = _; rw [hrs.out]; exact regV_length hroot
  have HC : Hid (∀ W, Below w0.heap.size w0 W → W.cell? ⟨w.heap.size + 1, 0, none⟩ = some (.int .u64 (ep : Int)) ∧ W.cell? ⟨w.heap.size + 1, 1, none⟩ = some (IV bank) ∧ W.rangeAt w.heap.size 0 ks ∧ W.rangeAt (w.heap.size + 1) 2 (root.map V8)) := fun W hW => by
    have := (HY.out.below hW HY.out.lt)
    rw [hrs.out] at this
    have h2 : Here W (w.heap.size + 1) 0 ([Value.int .u64 (ep : Int), .int .i64 (bank : Int)] ++ root.map V8) := this.here
    exact ⟨(this.cell 0).trans rfl, (this.cell 1).trans rfl, range_row (HX.out.below hW HX.out.lt), h2.right.1⟩
  have Hb0 : Hid (¬ (bank : Int) < 0 ∧ ¬ 1 < (bank : Int) ∧ ((ep : Int) == 0) = false) := ⟨by omega, by omega, beq_false_of_ne (by omega)⟩
  have HNb := Lib.hid (fun W (hW : Below w.heap.size w W) => JnewBank_any d ek mk ks hk n hn.1 hn.2 ep bank hb1 root hroot rs hrs W (hT.below hW))
  have HD := Lib.hid hD
  have HT := Lib.hid hT
  have Hn := Lib.hid hn
  have HDl := Lib.hid hl
  have HKv := Lib.hid hk
  have HRv : Hid (Vec 32 root (root.map V8)) := Vec.mk 32 root hroot
  have hi1 : (Tryz.prog.info? 29).map (·.size) = some ks.length := by rw [hk.vec.len]; kernel_rfl
  have hi2 : (Tryz.prog.info? 27).map (·.size) = some (root.map V8).length := by rw [List.length_map, hroot]; kernel_rfl
  have HTl : Hid (0 < w.heap.size) := HT.out.1
  clear hD hk hn hl hT hb1 hep hroot hrs
  go_enter Tryz.func10, Tryz.ntmps10
  go_wp2_with fail
  rw [← hw0]
  clear hw0
  refine HF.out.mono ?_
  rintro e w1 ⟨rfl, hb⟩
  have HB1 := Lib.hid hb
  obtain ⟨hc0, hc1, hcx, hcy⟩ := HC.out _ hb
  clear hcx hcy
  have hx1 : Hid (Row w1 w.heap.size 29 ks ∧ Row w1 (w.heap.size + 1) 41 rs) := ⟨HX.out.below hb HX.out.lt, HY.out.below hb HY.out.lt⟩
  obtain ⟨hb0, hb2, hb3⟩ := Hb0.out
  clear hb HF Hb0 HX HY
  go_wp2_with (first
    | (refine wpList_load_row rfl 29 (.tmp 5) rfl w.heap.size rfl 29 ks.toArray (0, 0) _ hx1.out.1 Tryz.underlying29 rfl (by rw [Hzk.out]; kernel_rfl) ?_)
    | (refine wpList_load_row rfl 41 (.tmp 7) rfl (w.heap.size + 1) rfl 41 rs.toArray (0, 0) _ hx1.out.2 Tryz.underlying41 rfl (by rw [Hzr.out]; kernel_rfl) ?_))
  refine (HNb.out w1 (HB0.out.trans (HB1.out.mono HB0.out.size))).mono ?_
  rintro e w2 ⟨P, T, FT, rfl, hH, hFT, hP, hPl, hb⟩
  have HB2 : Hid (Below w0.heap.size w0 w2) := HB1.out.trans (hb.mono HB1.out.size)
  have HH2 : Hid (∃ FT S, HeadL w2 P d ek mk ⟨n, ep, bank, root, Bk.tagsK mk n bank D 0, [], 0, []⟩ ks T FT .nilFunc S 0 ∧ ∀ k, FT k → w0.heap.size ≤ k) := ⟨FT, _, by rw [Bk.tagsK_zero]; exact hH, fun k hk => Nat.le_trans HB1.out.size (hFT k hk)⟩
  have HP2 : Hid (w0.heap.size ≤ P) := Nat.le_trans HB1.out.size hP
  clear hH hFT hP hPl hb HNb hx1 HB1 hc0 hc1 hb0 hb2 hb3 w1
  go_wp2
  go_loopw [11, 37] (fun _ i wr => ∃ k : Nat, k ≤ n ∧ i = .int .i64 k ∧ Hid (Below w0.heap.size w0 wr) ∧ Hid (∃ FT S, HeadL wr P d ek mk ⟨n, ep, bank, root, Bk.tagsK mk n bank D k, [], 0, []⟩ ks T FT .nilFunc S 0 ∧ ∀ k, FT k → w0.heap.size ≤ k)) (fun _ i _ => n - (RowKit.intOf i).toNat)
  case atStart => exact ⟨0, by omega, rfl, HB2, HH2⟩
  case round =>
    obtain ⟨k, hkn, rfl, HB, HHk⟩ := hrel
    rename World => w3
    clear HB2 HH2
    by_cases hlt : k < n
    · obtain ⟨FTk, Sk, hH, hFTk⟩ := HHk.out
      have HFT := Lib.hid hFTk
      have HH := Lib.hid hH
      have HBw : Hid (Below w.heap.size w w3) := HB0.out.trans (HB.out.mono HB0.out.size)
      have hcl : (Bk.curAt D (bank * n + k)).length = 72 := diskAt_cur HD.out (by
        have := HDl.out
        have := Nat.mul_le_mul_right n (show bank ≤ 1 from hH.b1)
        omega)
      have HRw := Lib.hid (fun W (hW : Below w3.heap.size w3 W) => Jraw_any (hH.below hW) (HD.out.below (HBw.out.trans (hW.mono HBw.out.size))) k hlt HDl.out)
      dsimp only at HRw
      have HTk : Hid (tg mk k (Bk.curAt D (bank * n + k)) = tg mk k (Bk.curAt D (bank * n + k))) := rfl
      have HSet : Hid ((Bk.tagsK mk n bank D k).set k (tg mk k (Bk.curAt D (bank * n + k))) = Bk.tagsK mk n bank D (k + 1)) := Bk.tagsK_succ k hlt
      have HLk : Hid (k < (Bk.tagsK mk n bank D k).length) := by show _ < _; rw [Bk.tagsK_length k (by omega)]; exact hlt
      have HTg : Hid (∀ (W : World) (v : Value), Below w3.heap.size w3 W → Arg W v (Bk.curAt D (bank * n + k)) → Calls Tryz.prog 36 #[.agg ks.toArray, IV k, v] W fun e w' => ∃ rs : List Value, Hid (Vec 32 (tg mk k (Bk.curAt D (bank * n + k))) rs) ∧ e = .returned (.agg rs.toArray) ∧ Below W.heap.size W w') := fun W v hW hv => by
        have := STag_any ek mk ks HKv.out (k : Int) _ (by rw [hcl]; omega) v W (HT.out.below (HBw.out.trans (hW.mono HBw.out.size))) hv
        rw [nmN k (by have := Hn.out; omega)] at this
        exact this
      have HC72 := Lib.hid hcl
      generalize tg mk k (Bk.curAt D (bank * n + k)) = tag at *
      generalize Bk.curAt D (bank * n + k) = cur at *
      have HKeep : Hid (∀ W, Below w3.heap.size w3 W → W.cell? ⟨P, 83, none⟩ = some (PT T) ∧ W.rangeAt w.heap.size 0 ks) := fun W hW => ⟨(HH.out.below hW).at_.cells.2.2.2.1, (HC.out W (HB.out.trans (hW.mono HB.out.size))).2.2.1⟩
      have HKc : Hid (∀ W, Chg (fun k _ => FTk k) w3 W → W.cell? ⟨P, 83, none⟩ = some (PT T) ∧ W.rangeAt w.heap.size 0 ks) := fun W hW => by
        have hW0 : Below w0.heap.size w0 W := Mr.below_chg HB.out HB.out.size hW fun k _ hk => HFT.out k hk
        exact ⟨(HH.out.at_.chg hW fun _ => HH.out.PF).cells.2.2.2.1, (HC.out W hW0).2.2.1⟩
      have HEnd : Hid (∀ W, (∃ F', Mr.T9 W F' T mk ((Bk.tagsK mk n bank D k).set k tag) (Sk.set k true) 0 ∧ (∀ k, F' k → FTk k ∨ w3.heap.size ≤ k)) → Chg (fun k _ => FTk k) w3 W → Below w0.heap.size w0 W ∧ ∃ FT S, HeadL W P d ek mk ⟨n, ep, bank, root, Bk.tagsK mk n bank D (k + 1), [], 0, []⟩ ks T FT .nilFunc S 0 ∧ ∀ k, FT k → w0.heap.size ≤ k) := fun W ⟨F', hT', hF'⟩ hC => by
        rw [HSet.out] at hT'
        have hPl := HH.out.at_.c0.lt (by simp)
        refine ⟨Mr.below_chg HB.out HB.out.size hC fun k _ hk => HFT.out k hk, F', _, ⟨HH.out.at_.chg hC fun _ => HH.out.PF, HH.out.keys, hT', Bk.tagsK_length _ (by omega), HH.out.n8, HH.out.r32, HH.out.b1, fun hk => (hF' P hk).elim HH.out.PF fun h => by omega⟩, fun k hk => (hF' k hk).elim (HFT.out k) fun h => Nat.le_trans HB.out.size h⟩
      clear hH hFTk hcl HHk HTk HBw
      go_wp2_with fail
      have hC : Below w3.heap.size w3 w3.drew := below_drewN (Below.refl _ _) 1
      refine wp_region_held_drew (S := (fun W => W.cell? ⟨P, 83, none⟩ = some (PT T) ∧ W.rangeAt w.heap.size 0 ks)) (by kernel_rfl) (HKeep.out _ hC) (fun hHeld => ?_)
      generalize w3.drew = w3d at *
      refine wpAnyH_take (i := 0) (oi := ⟨some 40, _, _, _, _, _⟩) (v := ?_) rfl (by kernel_rfl) (by kernel_rfl) (by kernel_rfl) (fun _ _ _ h => h) (Or.inl ⟨by rfl, ?_⟩) hHeld ?_
      rotate_left
      · intro w hSw
        go_simp
        with_reducible rfl
      try go_frame
      refine wpAnyH_take (i := 1) (oi := ⟨some 41, _, _, _, _, _⟩) (v := ?_) rfl (by kernel_rfl) (by kernel_rfl) (by kernel_rfl) (fun _ _ _ h => h) (Or.inl ⟨by rfl, ?_⟩) hHeld ?_
      rotate_left
      · intro w hSw
        go_simp
        with_reducible rfl
      try go_frame
      refine wpAnyH_take (i := 2) (oi := ⟨some 42, _, _, _, _, _⟩) (v := ?_) rfl (by kernel_rfl) (by kernel_rfl) (by kernel_rfl) (fun _ _ _ h => h) (Or.inl ⟨by rfl, ?_⟩) hHeld ?_
      rotate_left
      · intro w hSw
        go_simp
        with_reducible rfl
      try go_frame
      refine wpAnyH_take (i := 3) (oi := ⟨some 43, _, _, _, _, _⟩) (v := ?_) rfl (by kernel_rfl) (by kernel_rfl) (by kernel_rfl) (fun _ _ _ h => h) (Or.inl ⟨by rfl, ?_⟩) hHeld ?_
      rotate_left
      · intro w hSw
        have hc := hSw.1
        go_simp
        with_reducible rfl
      try go_frame
      refine wpAnyH_take (i := 4) (oi := ⟨some 44, _, _, _, _, _⟩) (v := ?_) rfl (by kernel_rfl) (by kernel_rfl) (by kernel_rfl) (fun _ _ _ h => h) (Or.inl ⟨by rfl, ?_⟩) hHeld ?_
      rotate_left
      · intro w hSw
        go_simp
        with_reducible rfl
      try go_frame
      refine wpAnyH_take (i := 5) (oi := ⟨some 45, _, _, _, _, _⟩) (v := .agg (ks).toArray) rfl (by kernel_rfl) (by kernel_rfl) (by kernel_rfl) (fun _ _ _ h => h) (yieldsIf_load_mid (by rfl) 29 (.tmp 5) rfl (w.heap.size) 0 rfl (ks) _ (fun W h => h.2) Tryz.underlying29 rfl hi1) hHeld ?_
      try go_frame
      refine wpAnyH_take (i := 6) (oi := ⟨some 46, _, _, _, _, _⟩) (v := ?_) rfl (by kernel_rfl) (by kernel_rfl) (by kernel_rfl) (fun _ _ _ h => h) (Or.inl ⟨by rfl, ?_⟩) hHeld ?_
      rotate_left
      · intro w hSw
        go_simp
        with_reducible rfl
      try go_frame
      refine wpAnyH_take (i := 7) (oi := ⟨some 47, _, _, _, _, _⟩) (v := ?_) rfl (by kernel_rfl) (by kernel_rfl) (by kernel_rfl) (fun _ _ _ h => h) (Or.inl ⟨by rfl, ?_⟩) hHeld ?_
      rotate_left
      · intro w hSw
        go_simp
        with_reducible rfl
      try go_frame
      refine wpAnyH_take (i := 8) (oi := ⟨some 48, _, _, _, _, _⟩) (v := ?_) rfl (by kernel_rfl) (by kernel_rfl) (by kernel_rfl) (fun _ _ _ h => h) (Or.inl ⟨by rfl, ?_⟩) hHeld ?_
      rotate_left
      · intro w hSw
        go_simp
        with_reducible rfl
      try go_frame
      refine wpAnyH_ready (rs := [9]) (by kernel_rfl) (by simp) ?_
      refine AllReadyH.cons (o := ⟨some 49, _, _, _, _, _⟩) rfl (fun K hK => ?_) AllReadyH.nil
      go_simp
      go_at_call 37
      refine (HRw.out w3d hC).mono ?_
      rintro e w3d_rd ⟨g_rd, rfl, _, hR, hb⟩
      have F_rd : Hid (Arg w3d_rd (.slice (some ⟨g_rd, 0, none⟩) 72 72) cur) := .inr ⟨g_rd, 0, 72, by rw [HC72.out], hR.out.lt (by rw [List.length_map, HC72.out]; omega), by rw [HC72.out]; omega, hR.out.1⟩
      replace hC := hC.trans (hb.mono hC.size)
      refine hK.out _ _ (HKeep.out _ hC) (fun hHeld => ?_)
      clear hK K hb 
      clear hR
      try go_frame
      refine wpAnyH_ready (rs := [10]) (by kernel_rfl) (by simp) ?_
      refine AllReadyH.cons (o := ⟨some 50, _, _, _, _, _⟩) rfl (fun K hK => ?_) AllReadyH.nil
      go_simp
      go_at_call 36
      refine (HTg.out w3d_rd _ hC F_rd.out).mono ?_
      rintro e w3d_rd_tg ⟨ts, Hts, rfl, hb⟩
      replace hC := hC.trans (hb.mono hC.size)
      replace F_rd := Lib.hid (F_rd.out.below hb)
      refine hK.out _ _ (HKeep.out _ hC) (fun hHeld => ?_)
      clear hK K hb 
      try go_frame
      refine wpAnyH_ready (rs := [11]) (by kernel_rfl) (by simp) ?_
      refine AllReadyH.cons (o := ⟨some 51, _, _, _, _, _⟩) rfl (fun K hK => ?_) AllReadyH.nil
      go_simp
      go_at_call 35
      have HTr := (HH.out.below hC).tree
      have hsC := hC.size
      refine (Mr.treeAll.setOk HTr k tag ts HLk.out Hts.out).mono ?_
      rintro e w7 ⟨rfl, F', hT7, hF7, hC7⟩
      have HC7 : Hid (Chg (fun k _ => FTk k) w3 w7) := (Chg.below hC _).then hC7
      have HE7 := Lib.hid (HEnd.out w7 ⟨F', hT7, fun k hk => (hF7 k hk).imp id fun h => Nat.le_trans hsC h⟩ HC7.out)
      clear hT7 hF7 hC7 HTr hsC
      refine hK.out _ _ (HKc.out _ HC7.out) (fun hHeld => ?_)
      clear hK K
      try go_frame
      refine wpAnyH_done (by kernel_rfl) ?_ _
      clear HKeep hHeld HKc HRw HTg HEnd HH HFT hC
      have hn100 := Hn.out.2
      go_wp2
      go_roundw
      case rel => exact ⟨k + 1, by omega, by go_num, HE7.out.1, HE7.out.2⟩
      case measure => simp [RowKit.intOf]; omega
    · obtain rfl : k = n := by omega
      rw [Bk.tagsK_all] at HHk
      obtain ⟨FTk, Sk, hH, hFTk⟩ := HHk.out
      have hBw : Below w.heap.size w w3 := HB0.out.trans (HB.out.mono HB0.out.size)
      have HRt := Lib.hid (fun W (hW : Below w3.heap.size w3 W) => Mr.treeAll.root (hH.below hW).tree (HT.out.below (hBw.trans (hW.mono hBw.size))) (fun k hk e => by have := hFTk k hk; have := HTl.out; have := HB0.out.size; omega) (by omega) (Bk.hB (Bk.tagsOf mk k bank D).length) (Bk.hB_is _ (by rw [Bk.tagsOf_length]; exact Hn.out.2)))
      have HKeep : Hid (∀ W, Below w3.heap.size w3 W → W.cell? ⟨P, 83, none⟩ = some (PT T) ∧ W.rangeAt (w.heap.size + 1) 2 (root.map V8)) := fun W hW => ⟨(hH.below hW).at_.cells.2.2.2.1, (HC.out W (HB.out.trans (hW.mono HB.out.size))).2.2.2⟩
      have HKc : Hid (∀ W, Chg (fun k _ => FTk k) w3 W → W.cell? ⟨P, 83, none⟩ = some (PT T) ∧ W.rangeAt (w.heap.size + 1) 2 (root.map V8)) := fun W hW => by
        have hW0 : Below w0.heap.size w0 W := Mr.below_chg HB.out HB.out.size hW fun k _ hk => hFTk k hk
        exact ⟨(hH.at_.chg hW fun _ => hH.PF).cells.2.2.2.1, (HC.out W hW0).2.2.2⟩
      have HEnd : Hid (∀ W V', (∃ F' S', Mr.T9 W F' T mk (Bk.tagsOf mk k bank D) S' V' ∧ (∀ k, F' k → FTk k ∨ w3.heap.size ≤ k)) → Chg (fun k _ => FTk k) w3 W → Below w.heap.size w W ∧ ∃ F, BL W F P d ek mk ⟨k, ep, bank, root, Bk.tagsOf mk k bank D, [], 0, []⟩ ∧ (∀ k, F k → w.heap.size ≤ k)) := fun W V' ⟨F', S', hT', hF'⟩ hC => by
        have hPl := hH.at_.c0.lt (by simp)
        have hb : Below w0.heap.size w0 W := Mr.below_chg HB.out HB.out.size hC fun k _ hk => hFTk k hk
        have hw0 := HB0.out.size
        refine ⟨HB0.out.trans (hb.mono HB0.out.size), fun k => k = P ∨ F' k, ⟨ks, T, F', .nilFunc, S', V', ⟨hH.at_.chg hC fun _ => hH.PF, hH.keys, hT', Bk.tagsOf_length, hH.n8, hH.r32, hH.b1, fun hk => (hF' P hk).elim hH.PF fun h => by omega⟩, .inl rfl, fun _ hk => .inr hk, fun k hk => hk.elim (fun e => by rw [e]; exact Nat.lt_of_lt_of_le hPl hC.size) (Mr.treeAll.lt hT' k), .inl ⟨rfl, rfl⟩⟩, fun k hk => ?_⟩
        rcases hk with e | hk
        · rw [e]; have := HP2.out; omega
        · have h3 := HB.out.size
          exact (hF' k hk).elim (fun h => by have := hFTk k h; omega) fun h => by omega
      have HBk : Hid ((Bk.rootB mk (Bk.tagsOf mk k bank D) = root → Bk.mount mk k ep bank root D = some ⟨k, ep, bank, root, Bk.tagsOf mk k bank D, [], 0, []⟩) ∧ (Bk.rootB mk (Bk.tagsOf mk k bank D) ≠ root → Bk.mount mk k ep bank root D = none)) := ⟨fun h => by unfold Bk.mount; rw [if_pos h], fun h => by unfold Bk.mount; rw [if_neg h]⟩
      have HRB : Hid (Bk.rootB mk (Bk.tagsOf mk k bank D) = Mr.Mk.root mk (Bk.tagsOf mk k bank D) (Bk.hB (Bk.tagsOf mk k bank D).length)) := rfl
      rw [← HRB.out] at HRt
      generalize Bk.rootB mk (Bk.tagsOf mk k bank D) = rt at *
      by_cases hrt : rt = root
      · have hm2 := HM.out.trans (HBk.out.1 hrt)
        subst hm2
        subst hrt
        clear HM
        clear HBk hH hFTk hBw HHk HRB hi1
        go_wp2_with fail
        have hC : Below w3.heap.size w3 w3.drew := below_drewN (Below.refl _ _) 1
        refine wp_region_held_drew (S := (fun W => W.cell? ⟨P, 83, none⟩ = some (PT T) ∧ W.rangeAt (w.heap.size + 1) 2 (rt.map V8))) (by kernel_rfl) (HKeep.out _ hC) (fun hHeld => ?_)
        generalize w3.drew = w3d at *
        refine wpAnyH_take (i := 0) (oi := ⟨some 53, _, _, _, _, _⟩) (v := ?_) rfl (by kernel_rfl) (by kernel_rfl) (by kernel_rfl) (fun _ _ _ h => h) (Or.inl ⟨by rfl, ?_⟩) hHeld ?_
        rotate_left
        · intro w hSw
          go_simp
          with_reducible rfl
        try go_frame
        refine wpAnyH_take (i := 1) (oi := ⟨some 54, _, _, _, _, _⟩) (v := ?_) rfl (by kernel_rfl) (by kernel_rfl) (by kernel_rfl) (fun _ _ _ h => h) (Or.inl ⟨by rfl, ?_⟩) hHeld ?_
        rotate_left
        · intro w hSw
          go_simp
          with_reducible rfl
        try go_frame
        refine wpAnyH_take (i := 2) (oi := ⟨some 55, _, _, _, _, _⟩) (v := ?_) rfl (by kernel_rfl) (by kernel_rfl) (by kernel_rfl) (fun _ _ _ h => h) (Or.inl ⟨by rfl, ?_⟩) hHeld ?_
        rotate_left
        · intro w hSw
          go_simp
          with_reducible rfl
        try go_frame
        refine wpAnyH_take (i := 3) (oi := ⟨some 56, _, _, _, _, _⟩) (v := ?_) rfl (by kernel_rfl) (by kernel_rfl) (by kernel_rfl) (fun _ _ _ h => h) (Or.inl ⟨by rfl, ?_⟩) hHeld ?_
        rotate_left
        · intro w hSw
          have hc := hSw.1
          go_simp
          with_reducible rfl
        try go_frame
        refine wpAnyH_take (i := 5) (oi := ⟨some 58, _, _, _, _, _⟩) (v := ?_) rfl (by kernel_rfl) (by kernel_rfl) (by kernel_rfl) (fun _ _ _ h => h) (Or.inl ⟨by rfl, ?_⟩) hHeld ?_
        rotate_left
        · intro w hSw
          go_simp
          with_reducible rfl
        try go_frame
        refine wpAnyH_take (i := 6) (oi := ⟨some 59, _, _, _, _, _⟩) (v := .agg (rt.map V8).toArray) rfl (by kernel_rfl) (by kernel_rfl) (by kernel_rfl) (fun _ _ _ h => h) (yieldsIf_load_mid (by rfl) 27 (.tmp 58) rfl ((w.heap.size + 1)) 2 rfl (rt.map V8) _ (fun W h => h.2) Tryz.underlying27 rfl hi2) hHeld ?_
        try go_frame
        refine wpAnyH_ready (rs := [4]) (by kernel_rfl) (by simp) ?_
        refine AllReadyH.cons (o := ⟨some 57, _, _, _, _, _⟩) rfl (fun K hK => ?_) AllReadyH.nil
        go_simp
        go_at_call 38
        have hsC := hC.size
        refine (HRt.out _ hC).mono ?_
        rintro e w7 ⟨rs7, ⟨Hrs7, rfl⟩, F', hT7, hF7, hC7⟩
        have HC7 : Hid (Chg (fun k _ => FTk k) w3 w7) := (Chg.below hC _).then hC7
        have HE7 := Lib.hid (HEnd.out w7 _ ⟨F', _, hT7, fun k hk => (hF7 k hk).imp id fun h => Nat.le_trans hsC h⟩ HC7.out)
        clear hT7 hF7 hC7 hsC
        have HEq : Hid (∀ W, (Op.equalIn 10000 27 (.agg rs7.toArray) (.agg (rt.map V8).toArray)).run Tryz.prog W = .ok true W) := fun W => by
          have := arr_eq 27 32 Tryz.underlying27 rt rt rs7 (rt.map V8) Hrs7.out HRv.out W
          rwa [decide_eq_true rfl] at this
        refine hK.out _ _ (HKc.out _ HC7.out) (fun hHeld => ?_)
        clear hK K
        try go_frame
        refine wpAnyH_take (i := 7) (oi := ⟨some 60, _, _, _, _, _⟩) (v := ?_) rfl (by kernel_rfl) (by kernel_rfl) (by kernel_rfl) (fun _ _ _ h => h) (Or.inl ⟨by rfl, ?_⟩) hHeld ?_
        rotate_left
        · intro w hSw
          have hc := HEq.out w
          go_simp
          with_reducible rfl
        try go_frame
        refine wpAnyH_done (by kernel_rfl) ?_ _
        clear HKeep hHeld HKc HRt HEnd hC HEq
        go_wp2
        go_ret2
        exact ⟨P, rfl, HE7.out.2.choose, HE7.out.2.choose_spec.1, HE7.out.2.choose_spec.2, HE7.out.1⟩
      · have hm2 := HM.out.trans (HBk.out.2 hrt)
        subst hm2
        clear HM
        have HNE := Lib.hid hrt
        clear HBk hH hFTk hBw HHk HRB hi1 hrt
        go_wp2_with fail
        have hC : Below w3.heap.size w3 w3.drew := below_drewN (Below.refl _ _) 1
        refine wp_region_held_drew (S := (fun W => W.cell? ⟨P, 83, none⟩ = some (PT T) ∧ W.rangeAt (w.heap.size + 1) 2 (root.map V8))) (by kernel_rfl) (HKeep.out _ hC) (fun hHeld => ?_)
        generalize w3.drew = w3d at *
        refine wpAnyH_take (i := 0) (oi := ⟨some 53, _, _, _, _, _⟩) (v := ?_) rfl (by kernel_rfl) (by kernel_rfl) (by kernel_rfl) (fun _ _ _ h => h) (Or.inl ⟨by rfl, ?_⟩) hHeld ?_
        rotate_left
        · intro w hSw
          go_simp
          with_reducible rfl
        try go_frame
        refine wpAnyH_take (i := 1) (oi := ⟨some 54, _, _, _, _, _⟩) (v := ?_) rfl (by kernel_rfl) (by kernel_rfl) (by kernel_rfl) (fun _ _ _ h => h) (Or.inl ⟨by rfl, ?_⟩) hHeld ?_
        rotate_left
        · intro w hSw
          go_simp
          with_reducible rfl
        try go_frame
        refine wpAnyH_take (i := 2) (oi := ⟨some 55, _, _, _, _, _⟩) (v := ?_) rfl (by kernel_rfl) (by kernel_rfl) (by kernel_rfl) (fun _ _ _ h => h) (Or.inl ⟨by rfl, ?_⟩) hHeld ?_
        rotate_left
        · intro w hSw
          go_simp
          with_reducible rfl
        try go_frame
        refine wpAnyH_take (i := 3) (oi := ⟨some 56, _, _, _, _, _⟩) (v := ?_) rfl (by kernel_rfl) (by kernel_rfl) (by kernel_rfl) (fun _ _ _ h => h) (Or.inl ⟨by rfl, ?_⟩) hHeld ?_
        rotate_left
        · intro w hSw
          have hc := hSw.1
          go_simp
          with_reducible rfl
        try go_frame
        refine wpAnyH_take (i := 5) (oi := ⟨some 58, _, _, _, _, _⟩) (v := ?_) rfl (by kernel_rfl) (by kernel_rfl) (by kernel_rfl) (fun _ _ _ h => h) (Or.inl ⟨by rfl, ?_⟩) hHeld ?_
        rotate_left
        · intro w hSw
          go_simp
          with_reducible rfl
        try go_frame
        refine wpAnyH_take (i := 6) (oi := ⟨some 59, _, _, _, _, _⟩) (v := .agg (root.map V8).toArray) rfl (by kernel_rfl) (by kernel_rfl) (by kernel_rfl) (fun _ _ _ h => h) (yieldsIf_load_mid (by rfl) 27 (.tmp 58) rfl ((w.heap.size + 1)) 2 rfl (root.map V8) _ (fun W h => h.2) Tryz.underlying27 rfl hi2) hHeld ?_
        try go_frame
        refine wpAnyH_ready (rs := [4]) (by kernel_rfl) (by simp) ?_
        refine AllReadyH.cons (o := ⟨some 57, _, _, _, _, _⟩) rfl (fun K hK => ?_) AllReadyH.nil
        go_simp
        go_at_call 38
        have hsC := hC.size
        refine (HRt.out _ hC).mono ?_
        rintro e w7 ⟨rs7, ⟨Hrs7, rfl⟩, F', hT7, hF7, hC7⟩
        have HC7 : Hid (Chg (fun k _ => FTk k) w3 w7) := (Chg.below hC _).then hC7
        have HE7 := Lib.hid (HEnd.out w7 _ ⟨F', _, hT7, fun k hk => (hF7 k hk).imp id fun h => Nat.le_trans hsC h⟩ HC7.out)
        clear hT7 hF7 hC7 hsC
        have HEq : Hid (∀ W, (Op.equalIn 10000 27 (.agg rs7.toArray) (.agg (root.map V8).toArray)).run Tryz.prog W = .ok false W) := fun W => by
          have := arr_eq 27 32 Tryz.underlying27 rt root rs7 (root.map V8) Hrs7.out HRv.out W
          rwa [decide_eq_false HNE.out] at this
        refine hK.out _ _ (HKc.out _ HC7.out) (fun hHeld => ?_)
        clear hK K
        try go_frame
        refine wpAnyH_take (i := 7) (oi := ⟨some 60, _, _, _, _, _⟩) (v := ?_) rfl (by kernel_rfl) (by kernel_rfl) (by kernel_rfl) (fun _ _ _ h => h) (Or.inl ⟨by rfl, ?_⟩) hHeld ?_
        rotate_left
        · intro w hSw
          have hc := HEq.out w
          go_simp
          with_reducible rfl
        try go_frame
        refine wpAnyH_done (by kernel_rfl) ?_ _
        clear HKeep hHeld HKc HRt HEnd hC HEq
        go_wp2
        go_ret2
        exact ⟨rfl, HE7.out.1⟩
end Go.Proofs.YthbmknpbcgnabaaGreatDoor
namespace Go.Proofs.YthbmknpbcgnabaaGreatDoor
open Go.RowKit Aes Ctr Sl Dsk
theorem bankAll : BankC BL where
  lt := fun ⟨_, _, _, _, _, _, _, _, _, h, _⟩ => h
  stay := fun h hc hn => h.stay hc hn
  formatBad := fun ek mk ks n hD hk hr hn => Jformat_bad ek mk ks n hD hk hr hn
  formatOk := fun ek mk ks n hD hk hn hl hT hG => Jformat_ok ek mk ks n hD hk hn hl hT hG
  mountBad := fun {_ _ _ D} ek mk ks n ep bank root rs hD hk hr hroot hrs hb1 hep hn => by
    by_cases h : n < 8 ∨ 128 < n ∨ (D.length : Int) ≠ 2 * n
    · exact Jmount_unfit ks hk.vec.len n rs (by rw [hrs.out, regV_length hroot]) hD hr h
    · obtain rfl : ep = 0 := by omega
      exact Jmount_zero ks hk.vec.len n bank root rs hroot hrs hb1 hD hr (by omega)
  mountOk := fun ek mk ks n ep bank root rs hD hk hn hl hT _ hb1 hep hroot hrs => Jmount_ok ek mk ks n ep bank root rs hD hk hn hl hT hb1 hep hroot hrs
  reg := fun ⟨_, _, _, _, _, _, hH, _⟩ rs hrs => JReg_any hH.at_ hH.r32 rs hrs
  busy := fun h => JBusy_any h
  readBad := fun ⟨_, _, _, _, _, _, hH, _⟩ i _ hi => (Jread_out hH i hi).mono fun e w' ⟨he, hb⟩ => ⟨_, he, Own.nil _ _ _, hb⟩
  readOk := fun h hD hl _ hT i hi => Jread_any h hD hl hT i hi
  begin_ := fun h K v l hP _ hep hT hl _ => Jbegin_any h K v l hP hep hT hl
  step := fun h hD hFG hl _ hep hT hF _ => Jstep_any h hD hFG hl hep hT hF
end Go.Proofs.YthbmknpbcgnabaaGreatDoor
