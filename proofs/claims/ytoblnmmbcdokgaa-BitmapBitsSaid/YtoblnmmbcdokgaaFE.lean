/-
  THE WALK of the law BitmapBits, over the contracts.
-/
import Derived.Test.YtoblnmmbcdokgaaFD
import Derived.Deep.RegionHeld3
import Derived.Laws.OwnMore
namespace Go.Proofs.Ytoblnmmbcdokgaa
open Go.RowKit Bm

theorem setR_no {b : List UInt8} {i : Int} (on : Bool) (h : has b i = false) : setR b i on = [] := by rw [setR, h]; rfl

set_option maxRecDepth 100000 in
set_option maxHeartbeats 2000000 in
theorem BmBits_any (X : BitC) (A : Option Addr) (n cap : Nat) (b : List UInt8) (hn : b.length = n) (i : Int) (on : Bool) (f t : Int) (hi : In64 i) (hf : In64 f) (ht : In64 t) (w : World) (h : Arg w (.slice A n cap) b) :
    Calls Try.prog 3 #[.slice A n cap, .int .i64 i, .bool on, .int .i64 f, .int .i64 t] w fun e w' => e = .returned (.bool true) ∧ Below w.heap.size w w' := by
  have HK : Hid (∀ W, Calls Try.prog 5 #[] W fun e w' => e = .returned (.bool true) ∧ Below W.heap.size W w') := fun W => Bmknows_any X W
  rcases Nat.lt_or_ge 100 n with hl | hl
  · clear hf ht hi h
    go_enter Try.func3, Try.ntmps3
    go_wp2_with fail
    refine (HK.out w).mono ?_
    rintro e w1 ⟨rfl, hb⟩
    go_wp2
    go_ret
    exact ⟨rfl, hb⟩
  have hL : b.length ≤ 1000 := by omega
  have HBits : Hid (Calls Try.prog 6 #[.slice A n cap] w fun e w' => ∃ r, e = .returned r ∧ Hid (Own w' w.heap.size 4 r ((bitsOf b).map Value.bool)) ∧ Below w.heap.size w w') := RBits_any b hL _ w h
  have HSet : Hid (∀ W v, Arg W v b → Calls Try.prog 7 #[v, .int .i64 i, .bool on] W fun e w' => ∃ r, e = .returned (.tuple #[r, .int .i64 (setE (has b i))]) ∧ Hid (ArgHi w' W.heap.size r (setR b i on)) ∧ Below W.heap.size W w') := fun W v hv => X.set b i on v W hL hi hv
  have HCnt : Hid (∀ W, Below w.heap.size w W → Calls Try.prog 8 #[.slice A n cap, .int .i64 f, .int .i64 t] W fun e w' => e = .returned (.int .i64 (count b f t)) ∧ Below W.heap.size W w') := fun W hW => X.count b f t _ W hL hf ht (h.below hW)
  have HFst : Hid (∀ W, Below w.heap.size w W → Calls Try.prog 10 #[.slice A n cap, .int .i64 f, .int .i64 t] W fun e w' => e = .returned (.int .i64 (first b f t)) ∧ Below W.heap.size W w') := fun W hW => X.first b f t _ W hL hf ht (h.below hW)
  have HRCnt : Hid (∀ W v, From W v ((bitsOf b).map Value.bool) → Calls Try.prog 9 #[v, .int .i64 f, .int .i64 t] W fun e w' => e = .returned (.int .i64 (count b f t)) ∧ Below W.heap.size W w') := fun W v hv => RBmCount_any b hL f t v W hv
  have HRFst : Hid (∀ W v, From W v ((bitsOf b).map Value.bool) → Calls Try.prog 11 #[v, .int .i64 f, .int .i64 t] W fun e w' => e = .returned (.int .i64 (first b f t)) ∧ Below W.heap.size W w') := fun W v hv => RBmFirst_any b hL f t v W hv
  have HGet : Hid (∀ W, Below w.heap.size w W → Calls Try.prog 12 #[.slice A n cap, .int .i64 i] W fun e w' => e = .returned (.bool (get b i)) ∧ Below W.heap.size W w') := fun W hW => X.get b i _ W hL hi (h.below hW)
  have HA := Lib.hid h
  have Hn := Lib.hid hn
  generalize (count b f t : Int) = c at *
  generalize first b f t = q at *
  clear hf ht h hi
  go_enter Try.func3, Try.ntmps3
  go_wp2_with fail
  refine HBits.out.mono ?_
  rintro e w1 ⟨v1, rfl, HL, hb⟩
  have HC : Hid (Below w.heap.size w w1) := hb
  replace HA := Lib.hid (HA.out.below hb)
  clear hb HBits
  have HF : Hid (From (w1.alloc (.cells #[] 5)) (.slice A n cap) (b.map V8)) := (arg_from HA.out).alloc _
  have HO : Hid (Own (w1.alloc (.cells #[] 5)) w1.heap.size 5 (.slice (some ⟨w1.heap.size, 0, none⟩) 0 0) []) := Own.lit w1 _ _ [] (Nat.le_refl _) (by decide)
  have HLen : Hid (([] : List Value).length + (b.map V8).length ≤ 100000000) := by show _ ≤ _; rw [List.length_map, hn]; simp; omega
  have H1 := Lib.hid (oneC8 b)
  go_wp2_with (at_builtin; refine wpList_app rfl (.tmp 22) (.tmp 23) 22 rfl w1.heap.size 5 Try.underlying22 info8 rfl (by decide) _ [] rfl HO.out _ (b.map V8) rfl HF.out H1.out HLen.out (by simp) ?_; intro v2 w2 hown2 hg2 _; have hb : Below w1.heap.size w1 w2 := below_app ((Below.refl _ w1).alloc (Nat.le_refl _) _) HO.out hg2 (Nat.le_refl _) (by simp); rw [List.nil_append] at hown2; have HOwn : Hid (Arg w2 v2 b) := hown2.arg; clear hown2 hg2)
  replace HC := Lib.hid (HC.out.trans (hb.mono HC.out.size))
  replace HA := Lib.hid (HA.out.below hb)
  replace HL := Lib.hid (Own.below HL.out hb (Nat.le_refl _))
  clear hb HF HO HLen H1
  have hl2 : Hid (∀ g, v1.ownBlock = some g → g < w2.heap.size) := fun g hg => (HL.out.lt hg).2
  refine (HSet.out w2 _ HOwn.out).mono ?_
  rintro e w3 ⟨r, rfl, HR, hb⟩
  replace HC := Lib.hid (HC.out.trans (hb.mono HC.out.size))
  replace HA := Lib.hid (HA.out.below hb)
  replace HOwn := Lib.hid (HOwn.out.below hb)
  replace HL := Lib.hid (Own.below HL.out hb (Nat.le_refl _))
  clear hb
  have cv1 := conv_arg HOwn.out
  have cv2 := conv_arg HA.out
  clear HOwn HSet
  obtain ⟨sb, hsb⟩ : ∃ sb, sb = strB b := ⟨_, rfl⟩
  rw [← hsb] at cv1 cv2
  clear hsb
  go_wp2_with fail
  refine (HCnt.out w3 HC.out).mono ?_
  rintro e w4 ⟨rfl, hb⟩
  clear cv1 cv2
  replace HC := Lib.hid (HC.out.trans (hb.mono HC.out.size))
  replace HR := Lib.hid (HR.out.below hb)
  replace HL := Lib.hid (Own.below HL.out hb (Nat.le_refl _))
  clear hb
  go_wp2_with fail
  refine (HRCnt.out w4 _ HL.out.from_).mono ?_
  rintro e w5 ⟨rfl, hb⟩
  replace HC := Lib.hid (HC.out.trans (hb.mono HC.out.size))
  replace HR := Lib.hid (HR.out.below hb)
  replace HL := Lib.hid (Own.below HL.out hb (Nat.le_refl _))
  clear hb
  go_wp2_with fail
  refine (HFst.out w5 HC.out).mono ?_
  rintro e w6 ⟨rfl, hb⟩
  replace HC := Lib.hid (HC.out.trans (hb.mono HC.out.size))
  replace HR := Lib.hid (HR.out.below hb)
  replace HL := Lib.hid (Own.below HL.out hb (Nat.le_refl _))
  clear hb
  go_wp2_with fail
  refine (HRFst.out w6 _ HL.out.from_).mono ?_
  rintro e w7 ⟨rfl, hb⟩
  replace HC := Lib.hid (HC.out.trans (hb.mono HC.out.size))
  replace HR := Lib.hid (HR.out.below hb)
  replace HL := Lib.hid (Own.below HL.out hb (Nat.le_refl _))
  clear hb
  clear HCnt HRCnt HFst HRFst
  by_cases hin : 0 ≤ i ∧ i < 8 * (n : Int)
  · obtain ⟨k, rfl⟩ : ∃ k : Nat, i = k := ⟨i.toNat, by omega⟩
    have hk : k < 8 * n := by omega
    have hh : has b k = true := has_iff.2 ⟨by omega, by rw [Hn.out]; omega⟩
    have hg : Bm.get b k = tb b k := by unfold Bm.get; rw [hh]; rfl
    rw [setR_has on hh] at HR
    rw [hh, show setE true = 0 from rfl]
    rw [hg] at HGet
    have hblen : ((bitsOf b).map Value.bool).length = 8 * n := by rw [List.length_map, bits_length, Hn.out]
    obtain ⟨g, cp, hv1, _, hgl, hsee⟩ := HL.out.form (by rw [hblen]; omega)
    rw [hblen] at hv1
    subst hv1
    have hx := atBo hsee k (by rw [bits_length, Hn.out]; exact hk)
    rw [bits_get b k (by rw [Hn.out]; exact hk), Nat.zero_add] at hx
    have hO : w7.ownsRow w.heap.size 4 1 (.slice (some ⟨g, 0, none⟩) (8 * n) cp) (8 * n) ((bitsOf b).map Value.bool) := by have := HL.out; unfold Hid Own at this; rwa [hblen] at this
    have hfz := hO.frozenAt k
    obtain ⟨hst, hgr⟩ := hO.stored k (.bool on)
    obtain ⟨w8, hw8⟩ : ∃ w8, w8 = w7.setCell ⟨g, k, none⟩ (.bool on) := ⟨_, rfl⟩
    have hkn := HL.out.lt (k := g) rfl
    have hbytes : bytesN ((bitsOf b).set k on) n = setB b k on := by rw [← Hn.out]; exact bytes_set b k on (by rw [Hn.out]; exact hk)
    have hb8 : Below w.heap.size w w8 := by rw [hw8]; exact HC.out.grown hgr HC.out.size fun _ hk' => by cases hk'; exact hkn.1
    clear HL hsee hgr hblen
    generalize tb b k = z at *
    go_wp2
    have hg2 : g < w2.heap.size := hl2.out g rfl
    have HR8 : Hid (Arg w8 r (setB b (k : Int).toNat on)) := by rw [hw8]; exact HR.out.turned (p := ⟨g, k, none⟩) hg2 _
    rw [show ((k : Int)).toNat = k by omega] at HR8
    have HL8 : Hid (Own w8 w.heap.size 4 (.slice (some ⟨g, 0, none⟩) (8 * n) cp) (((bitsOf b).set k on).map Value.bool)) := by
      show Own _ _ _ _ _
      unfold Own
      rw [hw8, List.map_set, show ((List.map Value.bool (bitsOf b)).set k (Value.bool on)).length = 8 * n by rw [List.length_set, List.length_map, bits_length, Hn.out]]
      exact hst
    have HByt : Hid (∀ W, From W (.slice (some ⟨g, 0, none⟩) (8 * n) cp) (((bitsOf b).set k on).map Value.bool) → Calls Try.prog 13 #[.slice (some ⟨g, 0, none⟩) (8 * n) cp] W fun e w' => ∃ r, e = .returned r ∧ Hid (Own w' W.heap.size 5 r ((setB b k on).map V8)) ∧ Below W.heap.size W w') := fun W hW => by
      have := RBytes_any n (by omega) ((bitsOf b).set k on) (by rw [List.length_set, bits_length, Hn.out]) _ W hW
      rwa [hbytes] at this
    clear HR hO hst hfz hx hbytes hg hh
    rw [← hw8]
    clear hw8 HC HA
    have HC : Hid (Below w.heap.size w w8) := hb8
    clear hb8
    generalize (bitsOf b).set k on = l2 at *
    generalize setB b k on = b2 at *
    have HKeep : Hid (∀ W, Below w8.heap.size w8 W → (convert 22 9 r).run Try.prog W = .ok (.string (strB b2)) W) := fun W hW => conv_arg (HR8.out.below hW)
    clear HR8
    have hC : Below w8.heap.size w8 w8.drew := below_drewN (Below.refl _ _) 1
    refine wp_region_held_drew (S := (fun W => (convert 22 9 r).run Try.prog W = .ok (.string (strB b2)) W)) (by kernel_rfl) (HKeep.out _ hC) (fun hHeld => ?_)
    generalize w8.drew = w8d at *
    refine wpAnyH_take (i := 0) (oi := ⟨some 91, _, _, _, _, _⟩) (v := ?_) rfl (by kernel_rfl) (by kernel_rfl) (by kernel_rfl) (fun _ _ _ h => h) (Or.inl ⟨by rfl, ?_⟩) hHeld ?_
    rotate_left
    · intro w hSw
      go_simp
      with_reducible rfl
    try go_frame
    refine wpAnyH_take (i := 1) (oi := ⟨some 92, _, _, _, _, _⟩) (v := ?_) rfl (by kernel_rfl) (by kernel_rfl) (by kernel_rfl) (fun _ _ _ h => h) (Or.inl ⟨by rfl, ?_⟩) hHeld ?_
    rotate_left
    · intro w hSw
      go_simp
      with_reducible rfl
    try go_frame
    refine wpAnyH_take (i := 3) (oi := ⟨some 94, _, _, _, _, _⟩) (v := ?_) rfl (by kernel_rfl) (by kernel_rfl) (by kernel_rfl) (fun _ _ _ h => h) (Or.inl ⟨by rfl, ?_⟩) hHeld ?_
    rotate_left
    · intro w hSw
      go_simp
      with_reducible rfl
    try go_frame
    refine wpAnyH_ready (rs := [2]) (by kernel_rfl) (by simp) ?_
    refine AllReadyH.cons (o := ⟨some 93, _, _, _, _, _⟩) rfl (fun K hK => ?_) AllReadyH.nil
    go_simp
    go_at_call 12
    refine (HGet.out w8d (HC.out.trans (hC.mono HC.out.size))).mono ?_
    rintro e w8d_gt ⟨rfl, hb⟩
    replace hC := hC.trans (hb.mono hC.size)
    refine hK.out _ _ (HKeep.out _ hC) (fun hHeld => ?_)
    clear hK K hb 
    try go_frame
    refine wpAnyH_take (i := 4) (oi := ⟨some 95, _, _, _, _, _⟩) (v := ?_) rfl (by kernel_rfl) (by kernel_rfl) (by kernel_rfl) (fun _ _ _ h => h) (Or.inl ⟨by rfl, ?_⟩) hHeld ?_
    rotate_left
    · intro w hSw
      go_simp
      with_reducible rfl
    try go_frame
    refine wpAnyH_take (i := 5) (oi := ⟨some 96, _, _, _, _, _⟩) (v := ?_) rfl (by kernel_rfl) (by kernel_rfl) (by kernel_rfl) (fun _ _ _ h => h) (Or.inl ⟨by rfl, ?_⟩) hHeld ?_
    rotate_left
    · intro w hSw
      go_simp
      with_reducible rfl
    try go_frame
    refine wpAnyH_take (i := 6) (oi := ⟨some 97, _, _, _, _, _⟩) (v := ?_) rfl (by kernel_rfl) (by kernel_rfl) (by kernel_rfl) (fun _ _ _ h => h) (Or.inl ⟨by rfl, ?_⟩) hHeld ?_
    rotate_left
    · intro w hSw
      go_simp
      with_reducible rfl
    try go_frame
    refine wpAnyH_take (i := 7) (oi := ⟨some 98, _, _, _, _, _⟩) (v := ?_) rfl (by kernel_rfl) (by kernel_rfl) (by kernel_rfl) (fun _ _ _ h => h) (Or.inl ⟨by rfl, ?_⟩) hHeld ?_
    rotate_left
    · intro w hSw
      have hS1 := hSw
      go_simp
      with_reducible rfl
    try go_frame
    refine wpAnyH_take (i := 8) (oi := ⟨some 99, _, _, _, _, _⟩) (v := ?_) rfl (by kernel_rfl) (by kernel_rfl) (by kernel_rfl) (fun _ _ _ h => h) (Or.inl ⟨by rfl, ?_⟩) hHeld ?_
    rotate_left
    · intro w hSw
      go_simp
      with_reducible rfl
    try go_frame
    refine wpAnyH_ready (rs := [9]) (by kernel_rfl) (by simp) ?_
    refine AllReadyH.cons (o := ⟨some 100, _, _, _, _, _⟩) rfl (fun K hK => ?_) AllReadyH.nil
    go_simp
    go_at_call 13
    refine (HByt.out w8d_gt (HL8.out.from_.below hC)).mono ?_
    rintro e w8d_gt_by ⟨rb, rfl, HB, hb⟩
    have F_by : Hid (Arg w8d_gt_by rb b2) := HB.out.arg
    replace hC := hC.trans (hb.mono hC.size)
    refine hK.out _ _ (HKeep.out _ hC) (fun hHeld => ?_)
    clear hK K hb HB
    try go_frame
    refine wpAnyH_ready (rs := [10]) (by kernel_rfl) (by simp) ?_
    refine AllReadyH.cons (o := ⟨some 101, _, _, _, _, _⟩) rfl (fun K hK => ?_) AllReadyH.nil
    have hcv := conv_arg F_by.out
    go_simp
    clear hcv
    refine hK.out _ _ (HKeep.out _ hC) (fun hHeld => ?_)
    clear hK K
    try go_frame
    refine wpAnyH_take (i := 11) (oi := ⟨some 102, _, _, _, _, _⟩) (v := ?_) rfl (by kernel_rfl) (by kernel_rfl) (by kernel_rfl) (fun _ _ _ h => h) (Or.inl ⟨by rfl, ?_⟩) hHeld ?_
    rotate_left
    · intro w hSw
      go_simp
      with_reducible rfl
    try go_frame
    refine wpAnyH_take (i := 12) (oi := ⟨some 103, _, _, _, _, _⟩) (v := ?_) rfl (by kernel_rfl) (by kernel_rfl) (by kernel_rfl) (fun _ _ _ h => h) (Or.inl ⟨by rfl, ?_⟩) hHeld ?_
    rotate_left
    · intro w hSw
      go_simp
      with_reducible rfl
    try go_frame
    refine wpAnyH_take (i := 13) (oi := ⟨some 104, _, _, _, _, _⟩) (v := ?_) rfl (by kernel_rfl) (by kernel_rfl) (by kernel_rfl) (fun _ _ _ h => h) (Or.inl ⟨by rfl, ?_⟩) hHeld ?_
    rotate_left
    · intro w hSw
      go_simp
      with_reducible rfl
    try go_frame
    refine wpAnyH_take (i := 14) (oi := ⟨some 105, _, _, _, _, _⟩) (v := ?_) rfl (by kernel_rfl) (by kernel_rfl) (by kernel_rfl) (fun _ _ _ h => h) (Or.inl ⟨by rfl, ?_⟩) hHeld ?_
    rotate_left
    · intro w hSw
      go_simp
      with_reducible rfl
    try go_frame
    refine wpAnyH_take (i := 15) (oi := ⟨some 106, _, _, _, _, _⟩) (v := ?_) rfl (by kernel_rfl) (by kernel_rfl) (by kernel_rfl) (fun _ _ _ h => h) (Or.inl ⟨by rfl, ?_⟩) hHeld ?_
    rotate_left
    · intro w hSw
      go_simp
      with_reducible rfl
    try go_frame
    refine wpAnyH_take (i := 16) (oi := ⟨some 107, _, _, _, _, _⟩) (v := ?_) rfl (by kernel_rfl) (by kernel_rfl) (by kernel_rfl) (fun _ _ _ h => h) (Or.inl ⟨by rfl, ?_⟩) hHeld ?_
    rotate_left
    · intro w hSw
      go_simp
      with_reducible rfl
    try go_frame
    refine wpAnyH_take (i := 17) (oi := ⟨some 108, _, _, _, _, _⟩) (v := ?_) rfl (by kernel_rfl) (by kernel_rfl) (by kernel_rfl) (fun _ _ _ h => h) (Or.inl ⟨by rfl, ?_⟩) hHeld ?_
    rotate_left
    · intro w hSw
      go_simp
      with_reducible rfl
    try go_frame
    refine wpAnyH_ready (rs := [18]) (by kernel_rfl) (by simp) ?_
    refine AllReadyH.cons (o := ⟨some 109, _, _, _, _, _⟩) rfl (fun K hK => ?_) AllReadyH.nil
    go_simp
    go_at_call 5
    refine (HK.out w8d_gt_by).mono ?_
    rintro e w8d_gt_by_kn ⟨rfl, hb⟩
    replace hC := hC.trans (hb.mono hC.size)
    replace F_by := Lib.hid (F_by.out.below hb)
    refine hK.out _ _ (HKeep.out _ hC) (fun hHeld => ?_)
    clear hK K hb 
    try go_frame
    refine wpAnyH_take (i := 19) (oi := ⟨some 110, _, _, _, _, _⟩) (v := ?_) rfl (by kernel_rfl) (by kernel_rfl) (by kernel_rfl) (fun _ _ _ h => h) (Or.inl ⟨by rfl, ?_⟩) hHeld ?_
    rotate_left
    · intro w hSw
      go_simp
      with_reducible rfl
    try go_frame
    refine wpAnyH_take (i := 20) (oi := ⟨some 10, _, _, _, _, _⟩) (v := ?_) rfl (by kernel_rfl) (by kernel_rfl) (by kernel_rfl) (fun _ _ _ h => h) (Or.inl ⟨by rfl, ?_⟩) hHeld ?_
    rotate_left
    · intro w hSw
      go_simp
      with_reducible rfl
    try go_frame
    refine wpAnyH_done (by kernel_rfl) ?_ _
    clear hHeld HKeep
    have HF : Hid (Below w.heap.size w w8d_gt_by_kn) := HC.out.trans (hC.mono HC.out.size)
    go_wp2
    go_ret
    exact ⟨rfl, HF.out⟩
  · have hh : has b i = false := has_no (by rw [Hn.out]; exact hin)
    have hg : Bm.get b i = false := by unfold Bm.get; rw [hh]; rfl
    rw [setR_no on hh] at HR
    rw [hh, show setE false = 1 from rfl]
    rw [hg] at HGet
    obtain ⟨Ar, cr, rfl⟩ := HR.out.arg.form
    have hvl : ∃ A1 c1, v1 = .slice A1 (8 * n) c1 := by
      obtain ⟨A1, c1, e, _⟩ := HL.out.from_.parts
      rw [List.length_map, bits_length, Hn.out] at e
      exact ⟨A1, c1, e⟩
    obtain ⟨A1, c1, rfl⟩ := hvl
    clear HL HR hh hg
    rcases Int.lt_or_le i 0 with hneg | hpos
    · go_wp2_with fail
      refine (HGet.out w7 HC.out).mono ?_
      rintro e w8 ⟨rfl, hb⟩
      replace HC := Lib.hid (HC.out.trans (hb.mono HC.out.size))
      clear hb
      go_wp2_with fail
      refine (HK.out w8).mono ?_
      rintro e w9 ⟨rfl, hb⟩
      replace HC := Lib.hid (HC.out.trans (hb.mono HC.out.size))
      clear hb
      go_wp2
      go_ret
      exact ⟨rfl, HC.out⟩
    · have hge : 8 * (n : Int) ≤ i := by omega
      go_wp2_with fail
      refine (HGet.out w7 HC.out).mono ?_
      rintro e w8 ⟨rfl, hb⟩
      replace HC := Lib.hid (HC.out.trans (hb.mono HC.out.size))
      clear hb
      go_wp2_with fail
      refine (HK.out w8).mono ?_
      rintro e w9 ⟨rfl, hb⟩
      replace HC := Lib.hid (HC.out.trans (hb.mono HC.out.size))
      clear hb
      go_wp2
      go_ret
      exact ⟨rfl, HC.out⟩
end Go.Proofs.Ytoblnmmbcdokgaa
