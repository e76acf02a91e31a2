/-
  THE WALK of the law InodePuts, over the contracts.
-/
import Derived.Test.YtcpdhfgigopfoaaIF
import Derived.Deep.RegionHeld3
import Derived.Deep.MidRow
namespace Go.Proofs.Ytcpdhfgigopfoaa
open Go.RowKit Cdc Inn

set_option maxRecDepth 100000 in
set_option maxHeartbeats 2000000 in
theorem InPuts_any (X : InC) (x : Ino) (hx : x.fits) (A : Option Addr) (n cap : Nat) (b : List UInt8) (hn : b.length = n) (p : Int) (hp : In64 p) (w : World) (h : Arg w (.slice A n cap) b) :
    Calls Try.prog 3 #[.agg (inoC x), .slice A n cap, .int .i64 p] w fun e w' => e = .returned (.bool true) ∧ Below w.heap.size w w' := by
  have HK : Hid (∀ W, Calls Try.prog 5 #[] W fun e w' => e = .returned (.bool true) ∧ Below W.heap.size W w') := fun W => Inknows_any X W
  obtain ⟨rs, hrs⟩ : ∃ rs, rs = x.l.map VI := ⟨_, rfl⟩
  rw [inoC_l, ← hrs]
  obtain ⟨w0, hw0⟩ : ∃ w0, w0 = w.alloc (.cells rs.toArray 24) := ⟨_, rfl⟩
  have HRX : Hid (Row w0 w.heap.size 24 rs) := by rw [hw0]; exact Row.new w 24 rs
  have HC : Hid (Below w.heap.size w w0) := by rw [hw0]; exact (Below.refl _ _).alloc (Nat.le_refl _) _
  have HB : Hid (Arg w0 (.slice A n cap) b) := h.below HC.out
  have Hsz : Hid (rs.toArray.size = 7) := by show _ = _; rw [hrs]; rfl
  have hinfo : (Try.prog.info? 24).map (·.size) = some rs.length := by rw [hrs]; kernel_rfl
  by_cases hl : 100 < n ∨ 100000 < p
  · clear HRX hrs h HB hp
    rcases Nat.lt_or_ge 100 n with hl1 | hl1
    · clear hl
      go_enter Try.func3, Try.ntmps3
      go_wp2_with fail
      rw [← hw0]
      refine (HK.out w0).mono ?_
      rintro e w1 ⟨rfl, hb⟩
      replace HC := Lib.hid (HC.out.trans (hb.mono HC.out.size))
      go_wp2
      go_ret
      exact ⟨rfl, HC.out⟩
    · have hl2 : 100000 < p := by omega
      clear hl
      go_enter Try.func3, Try.ntmps3
      go_wp2_with fail
      rw [← hw0]
      refine (HK.out w0).mono ?_
      rintro e w1 ⟨rfl, hb⟩
      replace HC := Lib.hid (HC.out.trans (hb.mono HC.out.size))
      go_wp2
      go_ret
      exact ⟨rfl, HC.out⟩
  have hl1 : n ≤ 100 := by omega
  have hl2 : p ≤ 100000 := by omega
  clear hl
  have HPut : Hid (∀ W, Calls Try.prog 6 #[.agg rs.toArray] W fun e w' => ∃ r, e = .returned (.tuple #[r, .int .i64 (putE x)]) ∧ Hid (Arg w' r (Inn.putB x)) ∧ Below W.heap.size W w') := fun W => by rw [hrs]; exact X.put x W hx
  have HMay : Hid (∀ W, Calls Try.prog 8 #[.agg rs.toArray] W fun e w' => e = .returned (.bool (may x)) ∧ Below W.heap.size W w') := fun W => by rw [hrs]; exact X.may x W hx
  have HRMay : Hid (∀ W, Calls Try.prog 7 #[.agg rs.toArray] W fun e w' => e = .returned (.bool (may x)) ∧ Below W.heap.size W w') := fun W => by rw [hrs]; exact RInMay_any x hx W
  have HN1 : Hid (∀ W, Calls Try.prog 9 #[.int .i64 p] W fun e w' => e = .returned (.int .i64 (need p)) ∧ Below W.heap.size W w') := fun W => X.need _ W hp (by omega)
  have HN2 : Hid (∀ W, Calls Try.prog 10 #[.int .i64 p] W fun e w' => e = .returned (.int .i64 (need p)) ∧ Below W.heap.size W w') := fun W => RInNeed_any p (by omega) hp W
  have HPut2 : Hid (may x = true → ∀ W, Calls Try.prog 11 #[.agg rs.toArray] W fun e w' => ∃ r, e = .returned r ∧ Hid (Arg w' r (Inn.putB x)) ∧ Below W.heap.size W w') := fun hm W => by
    have := RInPut_any x hm W
    rw [hrs, show Inn.putB x = enc x from if_pos hm]
    exact this
  obtain ⟨ys, hys⟩ : ∃ ys, ys = inoC (getI b) := ⟨_, rfl⟩
  have Hysz : Hid (ys.size = 7) := by show _ = _; rw [hys]; rfl
  have Hyone : Hid (ys.all (·.oneCell') = true) := by show _ = _; rw [hys]; exact oneI (getI b).l
  have hte : ∀ W, (Op.equalIn 10000 24 (.agg ys) (.agg ys)).run Try.prog W = .ok true W := fun W => by rw [hys, ino_eqD, decide_eq_true rfl]
  have HG1 : Hid (∀ W, Arg W (.slice A n cap) b → Calls Try.prog 12 #[.slice A n cap] W fun e w' => e = .returned (.tuple #[.agg ys, .int .i64 (getE b)]) ∧ Below W.heap.size W w') := fun W hv => by rw [hys]; exact X.get b _ W (by omega) hv
  have HG2 : Hid (∀ W, Arg W (.slice A n cap) b → Calls Try.prog 13 #[.slice A n cap] W fun e w' => e = .returned (.tuple #[.agg ys, .int .i64 (getE b)]) ∧ Below W.heap.size W w') := fun W hv => by rw [hys]; exact RInGet_any b _ W hv
  have hz := zeroIno
  have hmx : (may x = true ∧ putE x = 0) ∨ (may x = false ∧ putE x = 1 ∧ Inn.putB x = []) := by
    by_cases hm : may x = true
    · exact .inl ⟨hm, if_pos hm⟩
    · exact .inr ⟨by simpa using hm, if_neg hm, if_neg hm⟩
  generalize need p = N1 at *
  generalize getE b = GE at *
  clear h hys hn hrs hp
  generalize Inn.putB x = E at *
  generalize putE x = PE at *
  generalize may x = m at *
  go_enter Try.func3, Try.ntmps3
  go_wp2_with (refine wpList_load_row rfl 24 (.tmp 3) rfl w.heap.size rfl 24 rs.toArray (0, 0) _ (by rw [← hw0]; exact HRX.out) Try.underlying24 rfl (by rw [Hsz.out]; kernel_rfl) ?_)
  rw [← hw0]
  clear hw0
  refine (HPut.out w0).mono ?_
  rintro e w1 ⟨r1, rfl, HR1, hb⟩
  replace HRX : Hid (Row w1 w.heap.size 24 rs) := HRX.out.below hb HRX.out.lt
  replace HC := Lib.hid (HC.out.trans (hb.mono HC.out.size))
  replace HB := Lib.hid (HB.out.below hb)
  clear hb
  go_wp2_with (refine wpList_load_row rfl 24 (.tmp 3) rfl w.heap.size rfl 24 rs.toArray (0, 0) _ HRX.out Try.underlying24 rfl (by rw [Hsz.out]; kernel_rfl) ?_)
  refine (HRMay.out w1).mono ?_
  rintro e w2 ⟨rfl, hb⟩
  replace HRX : Hid (Row w2 w.heap.size 24 rs) := HRX.out.below hb HRX.out.lt
  replace HC := Lib.hid (HC.out.trans (hb.mono HC.out.size))
  replace HB := Lib.hid (HB.out.below hb)
  replace HR1 := Lib.hid (HR1.out.below hb)
  clear hb
  go_wp2_with (refine wpList_load_row rfl 24 (.tmp 3) rfl w.heap.size rfl 24 rs.toArray (0, 0) _ HRX.out Try.underlying24 rfl (by rw [Hsz.out]; kernel_rfl) ?_)
  refine (HMay.out w2).mono ?_
  rintro e w3 ⟨rfl, hb⟩
  replace HRX : Hid (Row w3 w.heap.size 24 rs) := HRX.out.below hb HRX.out.lt
  replace HC := Lib.hid (HC.out.trans (hb.mono HC.out.size))
  replace HB := Lib.hid (HB.out.below hb)
  replace HR1 := Lib.hid (HR1.out.below hb)
  clear hb
  go_wp2_with fail
  refine (HN1.out w3).mono ?_
  rintro e w4 ⟨rfl, hb⟩
  replace HRX : Hid (Row w4 w.heap.size 24 rs) := HRX.out.below hb HRX.out.lt
  replace HC := Lib.hid (HC.out.trans (hb.mono HC.out.size))
  replace HB := Lib.hid (HB.out.below hb)
  replace HR1 := Lib.hid (HR1.out.below hb)
  clear hb
  go_wp2_with fail
  refine (HN2.out w4).mono ?_
  rintro e w5 ⟨rfl, hb⟩
  replace HRX : Hid (Row w5 w.heap.size 24 rs) := HRX.out.below hb HRX.out.lt
  replace HC := Lib.hid (HC.out.trans (hb.mono HC.out.size))
  replace HB := Lib.hid (HB.out.below hb)
  replace HR1 := Lib.hid (HR1.out.below hb)
  clear hb
  clear HPut HMay HRMay HN1 HN2
  rcases hmx with ⟨rfl, rfl⟩ | ⟨rfl, rfl, rfl⟩
  · replace HPut2 := Lib.hid (HPut2.out rfl)
    have HKeep : Hid (∀ W, Below w5.heap.size w5 W → W.rangeAt w.heap.size 0 rs ∧ (convert 25 9 r1).run Try.prog W = .ok (.string (strB E)) W) := fun W hW => ⟨(HRX.out.below hW HRX.out.lt).sees, conv_arg (HR1.out.below hW)⟩
    clear HR1 HRX
    go_wp2
    have hC : Below w5.heap.size w5 w5.drew := below_drewN (Below.refl _ _) 1
    refine wp_region_held_drew (S := (fun W => W.rangeAt w.heap.size 0 rs ∧ (convert 25 9 r1).run Try.prog W = .ok (.string (strB E)) W)) (by kernel_rfl) (HKeep.out _ hC) (fun hHeld => ?_)
    generalize w5.drew = w5d at *
    refine wpAnyH_take (i := 0) (oi := ⟨some 40, _, _, _, _, _⟩) (v := ?_) rfl (by kernel_rfl) (by kernel_rfl) (by kernel_rfl) (fun _ _ _ h => h) (Or.inl ⟨by rfl, ?_⟩) hHeld ?_
    rotate_left
    · intro w hSw
      go_simp
      with_reducible rfl
    try go_frame
    refine wpAnyH_take (i := 1) (oi := ⟨some 41, _, _, _, _, _⟩) (v := ?_) rfl (by kernel_rfl) (by kernel_rfl) (by kernel_rfl) (fun _ _ _ h => h) (Or.inl ⟨by rfl, ?_⟩) hHeld ?_
    rotate_left
    · intro w hSw
      go_simp
      with_reducible rfl
    try go_frame
    refine wpAnyH_take (i := 2) (oi := ⟨some 42, _, _, _, _, _⟩) (v := ?_) rfl (by kernel_rfl) (by kernel_rfl) (by kernel_rfl) (fun _ _ _ h => h) (Or.inl ⟨by rfl, ?_⟩) hHeld ?_
    rotate_left
    · intro w hSw
      go_simp
      with_reducible rfl
    try go_frame
    refine wpAnyH_take (i := 3) (oi := ⟨some 43, _, _, _, _, _⟩) (v := ?_) rfl (by kernel_rfl) (by kernel_rfl) (by kernel_rfl) (fun _ _ _ h => h) (Or.inl ⟨by rfl, ?_⟩) hHeld ?_
    rotate_left
    · intro w hSw
      obtain ⟨_, hS1⟩ := hSw
      go_simp
      with_reducible rfl
    try go_frame
    refine wpAnyH_take (i := 4) (oi := ⟨some 44, _, _, _, _, _⟩) (v := .agg (rs).toArray) rfl (by kernel_rfl) (by kernel_rfl) (by kernel_rfl) (fun _ _ _ h => h) (yieldsIf_load_mid (by rfl) 24 (.tmp 3) rfl (w.heap.size) 0 rfl (rs) _ (fun W h => h.1) Try.underlying24 rfl hinfo) hHeld ?_
    try go_frame
    refine wpAnyH_ready (rs := [5]) (by kernel_rfl) (by simp) ?_
    refine AllReadyH.cons (o := ⟨some 45, _, _, _, _, _⟩) rfl (fun K hK => ?_) AllReadyH.nil
    go_simp
    go_at_call 11
    refine (HPut2.out w5d).mono ?_
    rintro e w5d_pt ⟨rp, rfl, HP, hb⟩
    have F_p : Hid (Arg w5d_pt rp E) := HP.out
    replace hC := hC.trans (hb.mono hC.size)
    refine hK.out _ _ (HKeep.out _ hC) (fun hHeld => ?_)
    clear hK K hb HP
    try go_frame
    refine wpAnyH_ready (rs := [6]) (by kernel_rfl) (by simp) ?_
    refine AllReadyH.cons (o := ⟨some 46, _, _, _, _, _⟩) rfl (fun K hK => ?_) AllReadyH.nil
    have hcv := conv_arg F_p.out
    go_simp
    clear hcv
    refine hK.out _ _ (HKeep.out _ hC) (fun hHeld => ?_)
    clear hK K
    try go_frame
    refine wpAnyH_take (i := 7) (oi := ⟨some 47, _, _, _, _, _⟩) (v := ?_) rfl (by kernel_rfl) (by kernel_rfl) (by kernel_rfl) (fun _ _ _ h => h) (Or.inl ⟨by rfl, ?_⟩) hHeld ?_
    rotate_left
    · intro w hSw
      go_simp
      with_reducible rfl
    try go_frame
    refine wpAnyH_take (i := 8) (oi := ⟨some 48, _, _, _, _, _⟩) (v := ?_) rfl (by kernel_rfl) (by kernel_rfl) (by kernel_rfl) (fun _ _ _ h => h) (Or.inl ⟨by rfl, ?_⟩) hHeld ?_
    rotate_left
    · intro w hSw
      go_simp
      with_reducible rfl
    try go_frame
    refine wpAnyH_take (i := 9) (oi := ⟨some 49, _, _, _, _, _⟩) (v := ?_) rfl (by kernel_rfl) (by kernel_rfl) (by kernel_rfl) (fun _ _ _ h => h) (Or.inl ⟨by rfl, ?_⟩) hHeld ?_
    rotate_left
    · intro w hSw
      go_simp
      with_reducible rfl
    try go_frame
    refine wpAnyH_take (i := 10) (oi := ⟨some 50, _, _, _, _, _⟩) (v := ?_) rfl (by kernel_rfl) (by kernel_rfl) (by kernel_rfl) (fun _ _ _ h => h) (Or.inl ⟨by rfl, ?_⟩) hHeld ?_
    rotate_left
    · intro w hSw
      go_simp
      with_reducible rfl
    try go_frame
    refine wpAnyH_take (i := 11) (oi := ⟨some 51, _, _, _, _, _⟩) (v := ?_) rfl (by kernel_rfl) (by kernel_rfl) (by kernel_rfl) (fun _ _ _ h => h) (Or.inl ⟨by rfl, ?_⟩) hHeld ?_
    rotate_left
    · intro w hSw
      go_simp
      with_reducible rfl
    try go_frame
    refine wpAnyH_take (i := 12) (oi := ⟨some 52, _, _, _, _, _⟩) (v := ?_) rfl (by kernel_rfl) (by kernel_rfl) (by kernel_rfl) (fun _ _ _ h => h) (Or.inl ⟨by rfl, ?_⟩) hHeld ?_
    rotate_left
    · intro w hSw
      go_simp
      with_reducible rfl
    try go_frame
    refine wpAnyH_take (i := 13) (oi := ⟨some 53, _, _, _, _, _⟩) (v := ?_) rfl (by kernel_rfl) (by kernel_rfl) (by kernel_rfl) (fun _ _ _ h => h) (Or.inl ⟨by rfl, ?_⟩) hHeld ?_
    rotate_left
    · intro w hSw
      go_simp
      with_reducible rfl
    try go_frame
    refine wpAnyH_take (i := 14) (oi := ⟨some 54, _, _, _, _, _⟩) (v := ?_) rfl (by kernel_rfl) (by kernel_rfl) (by kernel_rfl) (fun _ _ _ h => h) (Or.inl ⟨by rfl, ?_⟩) hHeld ?_
    rotate_left
    · intro w hSw
      go_simp
      with_reducible rfl
    try go_frame
    refine wpAnyH_take (i := 15) (oi := ⟨some 55, _, _, _, _, _⟩) (v := ?_) rfl (by kernel_rfl) (by kernel_rfl) (by kernel_rfl) (fun _ _ _ h => h) (Or.inl ⟨by rfl, ?_⟩) hHeld ?_
    rotate_left
    · intro w hSw
      go_simp
      with_reducible rfl
    try go_frame
    refine wpAnyH_take (i := 16) (oi := ⟨some 56, _, _, _, _, _⟩) (v := ?_) rfl (by kernel_rfl) (by kernel_rfl) (by kernel_rfl) (fun _ _ _ h => h) (Or.inl ⟨by rfl, ?_⟩) hHeld ?_
    rotate_left
    · intro w hSw
      go_simp
      with_reducible rfl
    try go_frame
    refine wpAnyH_take (i := 17) (oi := ⟨some 57, _, _, _, _, _⟩) (v := undef) rfl (by kernel_rfl) (by kernel_rfl) (by kernel_rfl) (fun _ _ _ h => h) (Or.inr ⟨by rfl, rfl⟩) hHeld ?_
    try go_frame
    refine wpAnyH_take (i := 18) (oi := ⟨some 58, _, _, _, _, _⟩) (v := undef) rfl (by kernel_rfl) (by kernel_rfl) (by kernel_rfl) (fun _ _ _ h => h) (Or.inr ⟨by rfl, rfl⟩) hHeld ?_
    try go_frame
    refine wpAnyH_take (i := 19) (oi := ⟨some 59, _, _, _, _, _⟩) (v := undef) rfl (by kernel_rfl) (by kernel_rfl) (by kernel_rfl) (fun _ _ _ h => h) (Or.inr ⟨by rfl, rfl⟩) hHeld ?_
    try go_frame
    refine wpAnyH_take (i := 20) (oi := ⟨some 60, _, _, _, _, _⟩) (v := undef) rfl (by kernel_rfl) (by kernel_rfl) (by kernel_rfl) (fun _ _ _ h => h) (Or.inr ⟨by rfl, rfl⟩) hHeld ?_
    try go_frame
    refine wpAnyH_take (i := 21) (oi := ⟨some 61, _, _, _, _, _⟩) (v := undef) rfl (by kernel_rfl) (by kernel_rfl) (by kernel_rfl) (fun _ _ _ h => h) (Or.inr ⟨by rfl, rfl⟩) hHeld ?_
    try go_frame
    refine wpAnyH_take (i := 22) (oi := ⟨some 62, _, _, _, _, _⟩) (v := undef) rfl (by kernel_rfl) (by kernel_rfl) (by kernel_rfl) (fun _ _ _ h => h) (Or.inr ⟨by rfl, rfl⟩) hHeld ?_
    try go_frame
    refine wpAnyH_take (i := 23) (oi := ⟨some 63, _, _, _, _, _⟩) (v := undef) rfl (by kernel_rfl) (by kernel_rfl) (by kernel_rfl) (fun _ _ _ h => h) (Or.inr ⟨by rfl, rfl⟩) hHeld ?_
    try go_frame
    refine wpAnyH_take (i := 24) (oi := ⟨some 64, _, _, _, _, _⟩) (v := ?_) rfl (by kernel_rfl) (by kernel_rfl) (by kernel_rfl) (fun _ _ _ h => h) (Or.inl ⟨by rfl, ?_⟩) hHeld ?_
    rotate_left
    · intro w hSw
      go_simp
      with_reducible rfl
    try go_frame
    refine wpAnyH_take (i := 25) (oi := ⟨some 65, _, _, _, _, _⟩) (v := ?_) rfl (by kernel_rfl) (by kernel_rfl) (by kernel_rfl) (fun _ _ _ h => h) (Or.inl ⟨by rfl, ?_⟩) hHeld ?_
    rotate_left
    · intro w hSw
      go_simp
      with_reducible rfl
    try go_frame
    refine wpAnyH_done (by kernel_rfl) ?_ _
    clear hHeld HKeep HPut2
    replace HC := Lib.hid (HC.out.trans (hC.mono HC.out.size))
    replace HB : Hid (Arg w5d_pt (.slice A n cap) b) := HB.out.below hC
    clear hC
    go_wp2_with fail
    refine (HG1.out w5d_pt HB.out).mono ?_
    rintro e wg ⟨rfl, hb⟩
    replace HC := Lib.hid (HC.out.trans (hb.mono HC.out.size))
    replace HB := Lib.hid (HB.out.below hb)
    clear hb HG1
    have HS : Hid (((wg.alloc (.cells Z7.toArray 24)).setRow wg.heap.size ys).heap[wg.heap.size]? = some (.cells ys 24 (0, 0))) := by
      have := (Row.new wg 24 Z7).whole ys.toList
      unfold Row at this
      rwa [Array.toArray_toList] at this
    have hbs : Below wg.heap.size wg ((wg.alloc (.cells Z7.toArray 24)).setRow wg.heap.size ys) := below_setRow' ((Below.refl _ _).alloc (Nat.le_refl _) _) (Nat.le_refl _) _
    replace HC := Lib.hid (HC.out.trans (hbs.mono HC.out.size))
    replace HB := Lib.hid (HB.out.below hbs)
    clear hbs
    go_wp2_with (refine wpList_store_row rfl 24 (.tmp 10) (.tmp 69) rfl wg.heap.size ys rfl rfl 24 _ (Row.new wg _ Z7) (by rw [Hysz.out]; kernel_rfl) (by rw [Hysz.out]; rfl) Hyone.out ?_)
    obtain ⟨g1, hg1⟩ : ∃ g, g = wg.heap.size := ⟨_, rfl⟩
    rw [← hg1] at HS HC HB ⊢
    clear hg1
    generalize (wg.alloc (.cells Z7.toArray 24)).setRow g1 ys = wh at *
    refine (HG2.out wh HB.out).mono ?_
    rintro e wi ⟨rfl, hb⟩
    replace HC := Lib.hid (HC.out.trans (hb.mono HC.out.size))
    replace HS : Hid (wi.heap[g1]? = some (.cells ys 24 (0, 0))) := by
      have := HS.out
      have hlt : g1 < wh.heap.size := (Array.getElem?_eq_some_iff.1 this).1
      exact (hb.block _ hlt).trans this
    clear hb HG2 HB
    have HT : Hid (((wi.alloc (.cells Z7.toArray 24)).setRow wi.heap.size ys).heap[wi.heap.size]? = some (.cells ys 24 (0, 0))) := by
      have := (Row.new wi 24 Z7).whole ys.toList
      unfold Row at this
      rwa [Array.toArray_toList] at this
    have hbs : Below wi.heap.size wi ((wi.alloc (.cells Z7.toArray 24)).setRow wi.heap.size ys) := below_setRow' ((Below.refl _ _).alloc (Nat.le_refl _) _) (Nat.le_refl _) _
    have HS2 : Hid (((wi.alloc (.cells Z7.toArray 24)).setRow wi.heap.size ys).heap[g1]? = some (.cells ys 24 (0, 0))) := by
      have := HS.out
      have hlt : g1 < wi.heap.size := (Array.getElem?_eq_some_iff.1 this).1
      exact (hbs.block _ hlt).trans this
    replace HC := Lib.hid (HC.out.trans (hbs.mono HC.out.size))
    clear hbs HS
    go_wp2_with (first | (refine wpList_store_row rfl 24 (.tmp 12) (.tmp 74) rfl wi.heap.size ys rfl rfl 24 _ (Row.new wi _ Z7) (by rw [Hysz.out]; kernel_rfl) (by rw [Hysz.out]; rfl) Hyone.out ?_) | (refine wpList_load_row rfl 24 (.tmp 10) rfl g1 rfl 24 ys (0, 0) _ HS2.out Try.underlying24 rfl (by rw [Hysz.out]; kernel_rfl) ?_) | (refine wpList_load_row rfl 24 (.tmp 12) rfl wi.heap.size rfl 24 ys (0, 0) _ HT.out Try.underlying24 rfl (by rw [Hysz.out]; kernel_rfl) ?_))
    clear HT HS2 hte
    generalize (wi.alloc (.cells Z7.toArray 24)).setRow wi.heap.size ys = wj at *
    refine (HK.out wj).mono ?_
    rintro e wk ⟨rfl, hb⟩
    replace HC := Lib.hid (HC.out.trans (hb.mono HC.out.size))
    clear hb
    go_wp2
    go_ret
    exact ⟨rfl, HC.out⟩
  · obtain ⟨Ar, cr, rfl⟩ := HR1.out.form
    have HKeep : Hid (∀ W, Below w5.heap.size w5 W → True) := fun _ _ => trivial
    clear HR1 HRX HPut2
    go_wp2
    have hC : Below w5.heap.size w5 w5.drew := below_drewN (Below.refl _ _) 1
    refine wp_region_held_drew (S := (fun _ => True)) (by kernel_rfl) (HKeep.out _ hC) (fun hHeld => ?_)
    generalize w5.drew = w5d at *
    refine wpAnyH_take (i := 0) (oi := ⟨some 40, _, _, _, _, _⟩) (v := ?_) rfl (by kernel_rfl) (by kernel_rfl) (by kernel_rfl) (fun _ _ _ h => h) (Or.inl ⟨by rfl, ?_⟩) hHeld ?_
    rotate_left
    · intro w hSw
      go_simp
      with_reducible rfl
    try go_frame
    refine wpAnyH_take (i := 1) (oi := ⟨some 41, _, _, _, _, _⟩) (v := ?_) rfl (by kernel_rfl) (by kernel_rfl) (by kernel_rfl) (fun _ _ _ h => h) (Or.inl ⟨by rfl, ?_⟩) hHeld ?_
    rotate_left
    · intro w hSw
      go_simp
      with_reducible rfl
    try go_frame
    refine wpAnyH_take (i := 2) (oi := ⟨some 42, _, _, _, _, _⟩) (v := undef) rfl (by kernel_rfl) (by kernel_rfl) (by kernel_rfl) (fun _ _ _ h => h) (Or.inr ⟨by rfl, rfl⟩) hHeld ?_
    try go_frame
    refine wpAnyH_take (i := 3) (oi := ⟨some 43, _, _, _, _, _⟩) (v := undef) rfl (by kernel_rfl) (by kernel_rfl) (by kernel_rfl) (fun _ _ _ h => h) (Or.inr ⟨by rfl, rfl⟩) hHeld ?_
    try go_frame
    refine wpAnyH_take (i := 4) (oi := ⟨some 44, _, _, _, _, _⟩) (v := undef) rfl (by kernel_rfl) (by kernel_rfl) (by kernel_rfl) (fun _ _ _ h => h) (Or.inr ⟨by rfl, rfl⟩) hHeld ?_
    try go_frame
    refine wpAnyH_take (i := 5) (oi := ⟨some 45, _, _, _, _, _⟩) (v := undef) rfl (by kernel_rfl) (by kernel_rfl) (by kernel_rfl) (fun _ _ _ h => h) (Or.inr ⟨by rfl, rfl⟩) hHeld ?_
    try go_frame
    refine wpAnyH_take (i := 6) (oi := ⟨some 46, _, _, _, _, _⟩) (v := undef) rfl (by kernel_rfl) (by kernel_rfl) (by kernel_rfl) (fun _ _ _ h => h) (Or.inr ⟨by rfl, rfl⟩) hHeld ?_
    try go_frame
    refine wpAnyH_take (i := 7) (oi := ⟨some 47, _, _, _, _, _⟩) (v := undef) rfl (by kernel_rfl) (by kernel_rfl) (by kernel_rfl) (fun _ _ _ h => h) (Or.inr ⟨by rfl, rfl⟩) hHeld ?_
    try go_frame
    refine wpAnyH_take (i := 8) (oi := ⟨some 48, _, _, _, _, _⟩) (v := undef) rfl (by kernel_rfl) (by kernel_rfl) (by kernel_rfl) (fun _ _ _ h => h) (Or.inr ⟨by rfl, rfl⟩) hHeld ?_
    try go_frame
    refine wpAnyH_take (i := 9) (oi := ⟨some 49, _, _, _, _, _⟩) (v := undef) rfl (by kernel_rfl) (by kernel_rfl) (by kernel_rfl) (fun _ _ _ h => h) (Or.inr ⟨by rfl, rfl⟩) hHeld ?_
    try go_frame
    refine wpAnyH_take (i := 10) (oi := ⟨some 50, _, _, _, _, _⟩) (v := undef) rfl (by kernel_rfl) (by kernel_rfl) (by kernel_rfl) (fun _ _ _ h => h) (Or.inr ⟨by rfl, rfl⟩) hHeld ?_
    try go_frame
    refine wpAnyH_take (i := 11) (oi := ⟨some 51, _, _, _, _, _⟩) (v := undef) rfl (by kernel_rfl) (by kernel_rfl) (by kernel_rfl) (fun _ _ _ h => h) (Or.inr ⟨by rfl, rfl⟩) hHeld ?_
    try go_frame
    refine wpAnyH_take (i := 12) (oi := ⟨some 52, _, _, _, _, _⟩) (v := ?_) rfl (by kernel_rfl) (by kernel_rfl) (by kernel_rfl) (fun _ _ _ h => h) (Or.inl ⟨by rfl, ?_⟩) hHeld ?_
    rotate_left
    · intro w hSw
      go_simp
      with_reducible rfl
    try go_frame
    refine wpAnyH_take (i := 13) (oi := ⟨some 53, _, _, _, _, _⟩) (v := ?_) rfl (by kernel_rfl) (by kernel_rfl) (by kernel_rfl) (fun _ _ _ h => h) (Or.inl ⟨by rfl, ?_⟩) hHeld ?_
    rotate_left
    · intro w hSw
      go_simp
      with_reducible rfl
    try go_frame
    refine wpAnyH_take (i := 14) (oi := ⟨some 54, _, _, _, _, _⟩) (v := ?_) rfl (by kernel_rfl) (by kernel_rfl) (by kernel_rfl) (fun _ _ _ h => h) (Or.inl ⟨by rfl, ?_⟩) hHeld ?_
    rotate_left
    · intro w hSw
      go_simp
      with_reducible rfl
    try go_frame
    refine wpAnyH_take (i := 15) (oi := ⟨some 55, _, _, _, _, _⟩) (v := ?_) rfl (by kernel_rfl) (by kernel_rfl) (by kernel_rfl) (fun _ _ _ h => h) (Or.inl ⟨by rfl, ?_⟩) hHeld ?_
    rotate_left
    · intro w hSw
      go_simp
      with_reducible rfl
    try go_frame
    refine wpAnyH_take (i := 16) (oi := ⟨some 56, _, _, _, _, _⟩) (v := ?_) rfl (by kernel_rfl) (by kernel_rfl) (by kernel_rfl) (fun _ _ _ h => h) (Or.inl ⟨by rfl, ?_⟩) hHeld ?_
    rotate_left
    · intro w hSw
      go_simp
      with_reducible rfl
    try go_frame
    refine wpAnyH_take (i := 17) (oi := ⟨some 57, _, _, _, _, _⟩) (v := ?_) rfl (by kernel_rfl) (by kernel_rfl) (by kernel_rfl) (fun _ _ _ h => h) (Or.inl ⟨by rfl, ?_⟩) hHeld ?_
    rotate_left
    · intro w hSw
      go_simp
      with_reducible rfl
    try go_frame
    refine wpAnyH_take (i := 18) (oi := ⟨some 58, _, _, _, _, _⟩) (v := ?_) rfl (by kernel_rfl) (by kernel_rfl) (by kernel_rfl) (fun _ _ _ h => h) (Or.inl ⟨by rfl, ?_⟩) hHeld ?_
    rotate_left
    · intro w hSw
      go_simp
      with_reducible rfl
    try go_frame
    refine wpAnyH_take (i := 19) (oi := ⟨some 59, _, _, _, _, _⟩) (v := ?_) rfl (by kernel_rfl) (by kernel_rfl) (by kernel_rfl) (fun _ _ _ h => h) (Or.inl ⟨by rfl, ?_⟩) hHeld ?_
    rotate_left
    · intro w hSw
      go_simp
      with_reducible rfl
    try go_frame
    refine wpAnyH_take (i := 20) (oi := ⟨some 60, _, _, _, _, _⟩) (v := ?_) rfl (by kernel_rfl) (by kernel_rfl) (by kernel_rfl) (fun _ _ _ h => h) (Or.inl ⟨by rfl, ?_⟩) hHeld ?_
    rotate_left
    · intro w hSw
      go_simp
      with_reducible rfl
    try go_frame
    refine wpAnyH_take (i := 21) (oi := ⟨some 61, _, _, _, _, _⟩) (v := ?_) rfl (by kernel_rfl) (by kernel_rfl) (by kernel_rfl) (fun _ _ _ h => h) (Or.inl ⟨by rfl, ?_⟩) hHeld ?_
    rotate_left
    · intro w hSw
      go_simp
      with_reducible rfl
    try go_frame
    refine wpAnyH_take (i := 22) (oi := ⟨some 62, _, _, _, _, _⟩) (v := ?_) rfl (by kernel_rfl) (by kernel_rfl) (by kernel_rfl) (fun _ _ _ h => h) (Or.inl ⟨by rfl, ?_⟩) hHeld ?_
    rotate_left
    · intro w hSw
      go_simp
      with_reducible rfl
    try go_frame
    refine wpAnyH_take (i := 23) (oi := ⟨some 63, _, _, _, _, _⟩) (v := ?_) rfl (by kernel_rfl) (by kernel_rfl) (by kernel_rfl) (fun _ _ _ h => h) (Or.inl ⟨by rfl, ?_⟩) hHeld ?_
    rotate_left
    · intro w hSw
      go_simp
      with_reducible rfl
    try go_frame
    refine wpAnyH_take (i := 24) (oi := ⟨some 64, _, _, _, _, _⟩) (v := ?_) rfl (by kernel_rfl) (by kernel_rfl) (by kernel_rfl) (fun _ _ _ h => h) (Or.inl ⟨by rfl, ?_⟩) hHeld ?_
    rotate_left
    · intro w hSw
      go_simp
      with_reducible rfl
    try go_frame
    refine wpAnyH_take (i := 25) (oi := ⟨some 65, _, _, _, _, _⟩) (v := ?_) rfl (by kernel_rfl) (by kernel_rfl) (by kernel_rfl) (fun _ _ _ h => h) (Or.inl ⟨by rfl, ?_⟩) hHeld ?_
    rotate_left
    · intro w hSw
      go_simp
      with_reducible rfl
    try go_frame
    refine wpAnyH_done (by kernel_rfl) ?_ _
    clear hHeld HKeep
    replace HC := Lib.hid (HC.out.trans (hC.mono HC.out.size))
    replace HB : Hid (Arg w5d (.slice A n cap) b) := HB.out.below hC
    clear hC
    go_wp2_with fail
    refine (HG1.out w5d HB.out).mono ?_
    rintro e wg ⟨rfl, hb⟩
    replace HC := Lib.hid (HC.out.trans (hb.mono HC.out.size))
    replace HB := Lib.hid (HB.out.below hb)
    clear hb HG1
    have HS : Hid (((wg.alloc (.cells Z7.toArray 24)).setRow wg.heap.size ys).heap[wg.heap.size]? = some (.cells ys 24 (0, 0))) := by
      have := (Row.new wg 24 Z7).whole ys.toList
      unfold Row at this
      rwa [Array.toArray_toList] at this
    have hbs : Below wg.heap.size wg ((wg.alloc (.cells Z7.toArray 24)).setRow wg.heap.size ys) := below_setRow' ((Below.refl _ _).alloc (Nat.le_refl _) _) (Nat.le_refl _) _
    replace HC := Lib.hid (HC.out.trans (hbs.mono HC.out.size))
    replace HB := Lib.hid (HB.out.below hbs)
    clear hbs
    go_wp2_with (refine wpList_store_row rfl 24 (.tmp 10) (.tmp 69) rfl wg.heap.size ys rfl rfl 24 _ (Row.new wg _ Z7) (by rw [Hysz.out]; kernel_rfl) (by rw [Hysz.out]; rfl) Hyone.out ?_)
    obtain ⟨g1, hg1⟩ : ∃ g, g = wg.heap.size := ⟨_, rfl⟩
    rw [← hg1] at HS HC HB ⊢
    clear hg1
    generalize (wg.alloc (.cells Z7.toArray 24)).setRow g1 ys = wh at *
    refine (HG2.out wh HB.out).mono ?_
    rintro e wi ⟨rfl, hb⟩
    replace HC := Lib.hid (HC.out.trans (hb.mono HC.out.size))
    replace HS : Hid (wi.heap[g1]? = some (.cells ys 24 (0, 0))) := by
      have := HS.out
      have hlt : g1 < wh.heap.size := (Array.getElem?_eq_some_iff.1 this).1
      exact (hb.block _ hlt).trans this
    clear hb HG2 HB
    have HT : Hid (((wi.alloc (.cells Z7.toArray 24)).setRow wi.heap.size ys).heap[wi.heap.size]? = some (.cells ys 24 (0, 0))) := by
      have := (Row.new wi 24 Z7).whole ys.toList
      unfold Row at this
      rwa [Array.toArray_toList] at this
    have hbs : Below wi.heap.size wi ((wi.alloc (.cells Z7.toArray 24)).setRow wi.heap.size ys) := below_setRow' ((Below.refl _ _).alloc (Nat.le_refl _) _) (Nat.le_refl _) _
    have HS2 : Hid (((wi.alloc (.cells Z7.toArray 24)).setRow wi.heap.size ys).heap[g1]? = some (.cells ys 24 (0, 0))) := by
      have := HS.out
      have hlt : g1 < wi.heap.size := (Array.getElem?_eq_some_iff.1 this).1
      exact (hbs.block _ hlt).trans this
    replace HC := Lib.hid (HC.out.trans (hbs.mono HC.out.size))
    clear hbs HS
    go_wp2_with (first | (refine wpList_store_row rfl 24 (.tmp 12) (.tmp 74) rfl wi.heap.size ys rfl rfl 24 _ (Row.new wi _ Z7) (by rw [Hysz.out]; kernel_rfl) (by rw [Hysz.out]; rfl) Hyone.out ?_) | (refine wpList_load_row rfl 24 (.tmp 10) rfl g1 rfl 24 ys (0, 0) _ HS2.out Try.underlying24 rfl (by rw [Hysz.out]; kernel_rfl) ?_) | (refine wpList_load_row rfl 24 (.tmp 12) rfl wi.heap.size rfl 24 ys (0, 0) _ HT.out Try.underlying24 rfl (by rw [Hysz.out]; kernel_rfl) ?_))
    clear HT HS2 hte
    generalize (wi.alloc (.cells Z7.toArray 24)).setRow wi.heap.size ys = wj at *
    refine (HK.out wj).mono ?_
    rintro e wk ⟨rfl, hb⟩
    replace HC := Lib.hid (HC.out.trans (hb.mono HC.out.size))
    clear hb
    go_wp2
    go_ret
    exact ⟨rfl, HC.out⟩
end Go.Proofs.Ytcpdhfgigopfoaa
