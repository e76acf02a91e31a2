/-
  THE WALK of the law InodeBack, over the contracts.
-/
import Derived.Test.YtcpdhfgigopfoaaIE
namespace Go.Proofs.Ytcpdhfgigopfoaa
open Go.RowKit Cdc Inn

theorem zeroIno (w : World) : (zeroValue 24).run Try.prog w = .ok (.agg Z7.toArray) w := by kernel_rfl
theorem getI_fits (b : List UInt8) : (getI b).fits := by
  unfold getI
  split
  · exact dec_fits b
  · unfold Ino.fits In64; decide

set_option maxRecDepth 100000 in
set_option maxHeartbeats 2000000 in
theorem InBack_any (X : InC) (x : Ino) (hx : x.fits) (A : Option Addr) (n cap : Nat) (b : List UInt8) (hn : b.length = n) (p q : Nat) (hp : p < 65536) (hq : q < 65536) (w : World) (h : Arg w (.slice A n cap) b) :
    Calls Try.prog 4 #[.agg (inoC x), .slice A n cap, .int .u16 p, .int .u16 q] w fun e w' => e = .returned (.bool true) ∧ Below w.heap.size w w' := by
  have HK : Hid (∀ W, Calls Try.prog 5 #[] W fun e w' => e = .returned (.bool true) ∧ Below W.heap.size W w') := fun W => Inknows_any X W
  obtain ⟨w0, hw0⟩ : ∃ w0, w0 = w.alloc (.cells (inoC x) 24) := ⟨_, rfl⟩
  have HRX : Hid (w0.heap[w.heap.size]? = some (.cells (inoC x) 24 (0, 0))) := by
    have := Row.new w 24 (x.l.map VI)
    rw [hw0]; exact this
  have HC : Hid (Below w.heap.size w w0) := by rw [hw0]; exact (Below.refl _ _).alloc (Nat.le_refl _) _
  have HB : Hid (Arg w0 (.slice A n cap) b) := h.below HC.out
  obtain ⟨cs, hcs⟩ : ∃ cs, cs = inoC x := ⟨_, rfl⟩
  have Hsz : Hid (cs.size = 7) := by show _ = _; rw [hcs]; rfl
  have Hone : Hid (cs.all (·.oneCell') = true) := by show _ = _; rw [hcs]; exact oneI x.l
  have hte : ∀ W, (Op.equalIn 10000 24 (.agg cs) (.agg cs)).run Try.prog W = .ok true W := fun W => by rw [hcs, ino_eqD, decide_eq_true rfl]
  have HPut : Hid (∀ W, Calls Try.prog 6 #[.agg cs] W fun e w' => ∃ r, e = .returned (.tuple #[r, .int .i64 (putE x)]) ∧ Hid (Arg w' r (Inn.putB x)) ∧ Below W.heap.size W w') := fun W => by rw [hcs]; exact X.put x W hx
  rcases Nat.lt_or_ge 100 n with hl | hl
  · rw [← hcs] at hw0 ⊢
    clear HRX hcs HPut hte h HB
    go_enter Try.func4, Try.ntmps4
    go_wp2_with fail
    rw [← hw0]
    refine (HK.out w0).mono ?_
    rintro e w1 ⟨rfl, hb⟩
    replace HC := Lib.hid (HC.out.trans (hb.mono HC.out.size))
    go_wp2
    go_ret
    exact ⟨rfl, HC.out⟩
  have HGx : Hid (may x = true → ∀ W v, Arg W v (Inn.putB x) → Calls Try.prog 12 #[v] W fun e w' => e = .returned (.tuple #[.agg cs, .int .i64 0]) ∧ Below W.heap.size W w') := fun hm W v hv => by
    have := X.get (Inn.putB x) v W (by unfold Inn.putB; rw [if_pos hm, enc_length]; omega) hv
    rw [(back_put hm).1, (back_put hm).2] at this
    rw [hcs]; exact this
  rw [← hcs] at hw0 HRX ⊢
  obtain ⟨ys, hys⟩ : ∃ ys, ys = inoC (getI b) := ⟨_, rfl⟩
  have Hysz : Hid (ys.size = 7) := by show _ = _; rw [hys]; rfl
  have Hyone : Hid (ys.all (·.oneCell') = true) := by show _ = _; rw [hys]; exact oneI (getI b).l
  have HGb : Hid (∀ W, Arg W (.slice A n cap) b → Calls Try.prog 12 #[.slice A n cap] W fun e w' => e = .returned (.tuple #[.agg ys, .int .i64 (getE b)]) ∧ Below W.heap.size W w') := fun W hv => by rw [hys]; exact X.get b _ W (by omega) hv
  have HPy : Hid (∀ W, Calls Try.prog 6 #[.agg ys] W fun e w' => ∃ r, e = .returned (.tuple #[r, .int .i64 (putE (getI b))]) ∧ Hid (Arg w' r (Inn.putB (getI b))) ∧ Below W.heap.size W w') := fun W => by rw [hys]; exact X.put (getI b) W (getI_fits b)
  have hgb : (getE b = 0 ∧ putE (getI b) = 0 ∧ Inn.putB (getI b) = b) ∨ getE b ≠ 0 := by
    by_cases h0 : getE b = 0
    · exact .inl ⟨h0, back_get h0⟩
    · exact .inr h0
  have HN1 : Hid (∀ W, Calls Try.prog 9 #[.int .i64 (p : Int)] W fun e w' => e = .returned (.int .i64 (need p)) ∧ Below W.heap.size W w') := fun W => X.need _ W ⟨by omega, by omega⟩ (by omega)
  have HN2 : Hid (∀ W, Calls Try.prog 9 #[.int .i64 ((p : Int) + q)] W fun e w' => e = .returned (.int .i64 (need ((p : Int) + q))) ∧ Below W.heap.size W w') := fun W => X.need _ W ⟨by omega, by omega⟩ (by omega)
  have hmono : (need p : Int) ≤ need ((p : Int) + q) := by have := need_mono (a := (p : Int)) (b := (p : Int) + q) (by omega); omega
  generalize need p = N1 at *
  generalize need ((p : Int) + q) = N2 at *
  have hz := zeroIno
  have hmx : (may x = true ∧ putE x = 0 ∧ (Inn.putB x).length = 8) ∨ putE x = 1 := by
    by_cases hm : may x = true
    · exact .inl ⟨hm, if_pos hm, by rw [Inn.putB, if_pos hm]; rfl⟩
    · exact .inr (if_neg hm)
  clear h hcs hys hn
  go_enter Try.func4, Try.ntmps4
  go_wp2_with (refine wpList_load_row rfl 24 (.tmp 4) rfl w.heap.size rfl 24 cs (0, 0) _ (by rw [← hw0]; exact HRX.out) Try.underlying24 rfl (by rw [Hsz.out]; kernel_rfl) ?_)
  rw [← hw0]
  clear hw0
  refine (HPut.out w0).mono ?_
  rintro e w1 ⟨r1, rfl, HR1, hb⟩
  replace HC := Lib.hid (HC.out.trans (hb.mono HC.out.size))
  replace HB := Lib.hid (HB.out.below hb)
  replace HRX : Hid (w1.heap[w.heap.size]? = some (.cells cs 24 (0, 0))) := by
    have := HRX.out
    have hlt : w.heap.size < w0.heap.size := (Array.getElem?_eq_some_iff.1 this).1
    exact (hb.block _ hlt).trans this
  clear hb HPut
  rcases hmx with ⟨hm, hE, hL⟩ | hE
  · rw [hE]
    obtain ⟨Ar, cr, rfl⟩ := HR1.out.form
    have HGx1 := Lib.hid (HGx.out hm w1 _ HR1.out)
    rw [hL] at HGx1 ⊢
    go_wp2_with fail
    refine HGx1.out.mono ?_
    rintro e w2 ⟨rfl, hb⟩
    replace HC := Lib.hid (HC.out.trans (hb.mono HC.out.size))
    replace HB := Lib.hid (HB.out.below hb)
    replace HRX : Hid (w2.heap[w.heap.size]? = some (.cells cs 24 (0, 0))) := by
      have := HRX.out
      have hlt : w.heap.size < w1.heap.size := (Array.getElem?_eq_some_iff.1 this).1
      exact (hb.block _ hlt).trans this
    clear hb HGx HGx1 HR1
    have HS : Hid (((w2.alloc (.cells Z7.toArray 24)).setRow w2.heap.size cs).heap[w2.heap.size]? = some (.cells cs 24 (0, 0))) := by
      have := (Row.new w2 24 Z7).whole cs.toList
      unfold Row at this
      rwa [Array.toArray_toList] at this
    have hbs : Below w2.heap.size w2 ((w2.alloc (.cells Z7.toArray 24)).setRow w2.heap.size cs) := below_setRow' ((Below.refl _ _).alloc (Nat.le_refl _) _) (Nat.le_refl _) _
    have HX2 : Hid (((w2.alloc (.cells Z7.toArray 24)).setRow w2.heap.size cs).heap[w.heap.size]? = some (.cells cs 24 (0, 0))) := by
      have := HRX.out
      have hlt : w.heap.size < w2.heap.size := (Array.getElem?_eq_some_iff.1 this).1
      exact (hbs.block _ hlt).trans this
    replace HC := Lib.hid (HC.out.trans (hbs.mono HC.out.size))
    replace HB := Lib.hid (HB.out.below hbs)
    clear hbs HRX
    go_wp2_with (first | (refine wpList_store_row rfl 24 (.tmp 11) (.tmp 29) rfl w2.heap.size cs rfl rfl 24 _ (Row.new w2 _ Z7) (by rw [Hsz.out]; kernel_rfl) (by rw [Hsz.out]; rfl) Hone.out ?_) | (refine wpList_load_row rfl 24 (.tmp 11) rfl w2.heap.size rfl 24 cs (0, 0) _ HS.out Try.underlying24 rfl (by rw [Hsz.out]; kernel_rfl) ?_) | (refine wpList_load_row rfl 24 (.tmp 4) rfl w.heap.size rfl 24 cs (0, 0) _ HX2.out Try.underlying24 rfl (by rw [Hsz.out]; kernel_rfl) ?_))
    clear HS HX2 hte
    generalize (w2.alloc (.cells Z7.toArray 24)).setRow w2.heap.size cs = w3 at *
    refine (HGb.out w3 HB.out).mono ?_
    rintro e wg ⟨rfl, hb⟩
    replace HC := Lib.hid (HC.out.trans (hb.mono HC.out.size))
    replace HB := Lib.hid (HB.out.below hb)
    clear hb HGb
    rcases hgb with hgb | hgb
    · obtain ⟨hE, hPE, hPB⟩ := hgb
      rw [hE]
      have HS : Hid (((wg.alloc (.cells Z7.toArray 24)).setRow wg.heap.size ys).heap[wg.heap.size]? = some (.cells ys 24 (0, 0))) := by
        have := (Row.new wg 24 Z7).whole ys.toList
        unfold Row at this
        rwa [Array.toArray_toList] at this
      have hbs : Below wg.heap.size wg ((wg.alloc (.cells Z7.toArray 24)).setRow wg.heap.size ys) := below_setRow' ((Below.refl _ _).alloc (Nat.le_refl _) _) (Nat.le_refl _) _
      replace HC := Lib.hid (HC.out.trans (hbs.mono HC.out.size))
      replace HB := Lib.hid (HB.out.below hbs)
      clear hbs
      go_wp2_with (first | (refine wpList_store_row rfl 24 (.tmp 13) (.tmp 46) rfl wg.heap.size ys rfl rfl 24 _ (Row.new wg _ Z7) (by rw [Hysz.out]; kernel_rfl) (by rw [Hysz.out]; rfl) Hyone.out ?_) | (refine wpList_load_row rfl 24 (.tmp 13) rfl wg.heap.size rfl 24 ys (0, 0) _ HS.out Try.underlying24 rfl (by rw [Hysz.out]; kernel_rfl) ?_))
      clear HS
      generalize (wg.alloc (.cells Z7.toArray 24)).setRow wg.heap.size ys = wh at *
      refine (HPy.out wh).mono ?_
      rintro e wi ⟨r, rfl, HR, hb⟩
      rw [hPE]
      rw [hPB] at HR
      replace HC := Lib.hid (HC.out.trans (hb.mono HC.out.size))
      replace HB := Lib.hid (HB.out.below hb)
      clear hb HPy hE hPE hPB
      have cv1 := conv_arg HR.out
      have cv2 := conv_arg HB.out
      obtain ⟨sb, hsb⟩ : ∃ sb, sb = strB b := ⟨_, rfl⟩
      rw [← hsb] at cv1 cv2
      clear hsb HR HB
      go_wp2_with fail
      clear cv1 cv2
      refine (HN1.out wi).mono ?_
      rintro e wa ⟨rfl, hb⟩
      replace HC := Lib.hid (HC.out.trans (hb.mono HC.out.size))
      clear hb
      go_wp2_with fail
      refine (HN2.out wa).mono ?_
      rintro e wb ⟨rfl, hb⟩
      replace HC := Lib.hid (HC.out.trans (hb.mono HC.out.size))
      clear hb
      go_wp2_with fail
      refine (HK.out wb).mono ?_
      rintro e wc ⟨rfl, hb⟩
      replace HC := Lib.hid (HC.out.trans (hb.mono HC.out.size))
      clear hb
      go_wp2
      go_ret
      exact ⟨rfl, HC.out⟩
    · have HS : Hid (Below wg.heap.size wg ((wg.alloc (.cells Z7.toArray 24)).setRow wg.heap.size ys)) := below_setRow' ((Below.refl _ _).alloc (Nat.le_refl _) _) (Nat.le_refl _) _
      generalize getE b = E at *
      go_wp2_with (refine wpList_store_row rfl 24 (.tmp 13) (.tmp 46) rfl wg.heap.size ys rfl rfl 24 _ (Row.new wg _ Z7) (by rw [Hysz.out]; kernel_rfl) (by rw [Hysz.out]; rfl) Hyone.out ?_)
      replace HC := Lib.hid (HC.out.trans (HS.out.mono HC.out.size))
      clear HS HB HPy
      generalize (wg.alloc (.cells Z7.toArray 24)).setRow wg.heap.size ys = wh at *
      refine (HN1.out wh).mono ?_
      rintro e wa ⟨rfl, hb⟩
      replace HC := Lib.hid (HC.out.trans (hb.mono HC.out.size))
      clear hb
      go_wp2_with fail
      refine (HN2.out wa).mono ?_
      rintro e wb ⟨rfl, hb⟩
      replace HC := Lib.hid (HC.out.trans (hb.mono HC.out.size))
      clear hb
      go_wp2_with fail
      refine (HK.out wb).mono ?_
      rintro e wc ⟨rfl, hb⟩
      replace HC := Lib.hid (HC.out.trans (hb.mono HC.out.size))
      clear hb
      go_wp2
      go_ret
      exact ⟨rfl, HC.out⟩
  · rw [hE]
    clear HGx HR1 HRX hte
    go_wp2_with fail
    refine (HGb.out w1 HB.out).mono ?_
    rintro e wg ⟨rfl, hb⟩
    replace HC := Lib.hid (HC.out.trans (hb.mono HC.out.size))
    replace HB := Lib.hid (HB.out.below hb)
    clear hb HGb
    rcases hgb with hgb | hgb
    · obtain ⟨hE, hPE, hPB⟩ := hgb
      rw [hE]
      have HS : Hid (((wg.alloc (.cells Z7.toArray 24)).setRow wg.heap.size ys).heap[wg.heap.size]? = some (.cells ys 24 (0, 0))) := by
        have := (Row.new wg 24 Z7).whole ys.toList
        unfold Row at this
        rwa [Array.toArray_toList] at this
      have hbs : Below wg.heap.size wg ((wg.alloc (.cells Z7.toArray 24)).setRow wg.heap.size ys) := below_setRow' ((Below.refl _ _).alloc (Nat.le_refl _) _) (Nat.le_refl _) _
      replace HC := Lib.hid (HC.out.trans (hbs.mono HC.out.size))
      replace HB := Lib.hid (HB.out.below hbs)
      clear hbs
      go_wp2_with (first | (refine wpList_store_row rfl 24 (.tmp 13) (.tmp 46) rfl wg.heap.size ys rfl rfl 24 _ (Row.new wg _ Z7) (by rw [Hysz.out]; kernel_rfl) (by rw [Hysz.out]; rfl) Hyone.out ?_) | (refine wpList_load_row rfl 24 (.tmp 13) rfl wg.heap.size rfl 24 ys (0, 0) _ HS.out Try.underlying24 rfl (by rw [Hysz.out]; kernel_rfl) ?_))
      clear HS
      generalize (wg.alloc (.cells Z7.toArray 24)).setRow wg.heap.size ys = wh at *
      refine (HPy.out wh).mono ?_
      rintro e wi ⟨r, rfl, HR, hb⟩
      rw [hPE]
      rw [hPB] at HR
      replace HC := Lib.hid (HC.out.trans (hb.mono HC.out.size))
      replace HB := Lib.hid (HB.out.below hb)
      clear hb HPy hE hPE hPB
      have cv1 := conv_arg HR.out
      have cv2 := conv_arg HB.out
      obtain ⟨sb, hsb⟩ : ∃ sb, sb = strB b := ⟨_, rfl⟩
      rw [← hsb] at cv1 cv2
      clear hsb HR HB
      go_wp2_with fail
      clear cv1 cv2
      refine (HN1.out wi).mono ?_
      rintro e wa ⟨rfl, hb⟩
      replace HC := Lib.hid (HC.out.trans (hb.mono HC.out.size))
      clear hb
      go_wp2_with fail
      refine (HN2.out wa).mono ?_
      rintro e wb ⟨rfl, hb⟩
      replace HC := Lib.hid (HC.out.trans (hb.mono HC.out.size))
      clear hb
      go_wp2_with fail
      refine (HK.out wb).mono ?_
      rintro e wc ⟨rfl, hb⟩
      replace HC := Lib.hid (HC.out.trans (hb.mono HC.out.size))
      clear hb
      go_wp2
      go_ret
      exact ⟨rfl, HC.out⟩
    · have HS : Hid (Below wg.heap.size wg ((wg.alloc (.cells Z7.toArray 24)).setRow wg.heap.size ys)) := below_setRow' ((Below.refl _ _).alloc (Nat.le_refl _) _) (Nat.le_refl _) _
      generalize getE b = E at *
      go_wp2_with (refine wpList_store_row rfl 24 (.tmp 13) (.tmp 46) rfl wg.heap.size ys rfl rfl 24 _ (Row.new wg _ Z7) (by rw [Hysz.out]; kernel_rfl) (by rw [Hysz.out]; rfl) Hyone.out ?_)
      replace HC := Lib.hid (HC.out.trans (HS.out.mono HC.out.size))
      clear HS HB HPy
      generalize (wg.alloc (.cells Z7.toArray 24)).setRow wg.heap.size ys = wh at *
      refine (HN1.out wh).mono ?_
      rintro e wa ⟨rfl, hb⟩
      replace HC := Lib.hid (HC.out.trans (hb.mono HC.out.size))
      clear hb
      go_wp2_with fail
      refine (HN2.out wa).mono ?_
      rintro e wb ⟨rfl, hb⟩
      replace HC := Lib.hid (HC.out.trans (hb.mono HC.out.size))
      clear hb
      go_wp2_with fail
      refine (HK.out wb).mono ?_
      rintro e wc ⟨rfl, hb⟩
      replace HC := Lib.hid (HC.out.trans (hb.mono HC.out.size))
      clear hb
      go_wp2
      go_ret
      exact ⟨rfl, HC.out⟩
end Go.Proofs.Ytcpdhfgigopfoaa
