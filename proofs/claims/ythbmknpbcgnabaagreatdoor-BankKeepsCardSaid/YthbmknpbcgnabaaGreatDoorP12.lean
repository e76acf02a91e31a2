/-
  OF THE WALK: EJ.
-/
import Derived.Test.YthbmknpbcgnabaaGreatDoorP10
import Derived.Test.YthbmknpbcgnabaaGreatDoorP11
namespace Go.Proofs.YthbmknpbcgnabaaGreatDoor
open Go.RowKit Aes
structure Enc (w W : World) (S K : Nat) (key : List UInt8) (cs : List Value) : Prop where
  blk : Row W (w.heap.size + 1) 25 cs
  res : Row W (w.heap.size + 1 + 1) 25 Z16
  tab : Row W S 266 (SBL.map V8)
  keys : Row W K 270 ((rks key).map V8)
  s : w.heap.size + 1 + 1 < S
  k : S < K
  bel : Below w.heap.size w W
section
variable {w W V : World} {S K : Nat} {key : List UInt8} {cs : List Value}
theorem Enc.call (h : Enc w W S K key cs) (hb : Below W.heap.size W V) : Enc w V S K key cs :=
  ⟨h.blk.below hb h.blk.lt, h.res.below hb h.res.lt, h.tab.below hb h.tab.lt, h.keys.below hb h.keys.lt, h.s, h.k, h.bel.trans (hb.mono h.bel.size)⟩
theorem Enc.put (h : Enc w W S K key cs) (ds : List Value) : Enc w (W.setRow (w.heap.size + 1) ds.toArray) S K key ds :=
  ⟨h.blk.whole ds, h.res.wholeOff (by omega) _, h.tab.wholeOff (by have := h.s; omega) _, h.keys.wholeOff (by have := h.s; have := h.k; omega) _, h.s, h.k, below_setRow' h.bel (by omega) _⟩
end
def stK (key b : List UInt8) (r : Nat) : List UInt8 := st key b r
theorem stK_zero (key b : List UInt8) : stK key b 0 = xorL b (((rks key).drop (16 * 0)).take 16) := rfl
theorem stK_succ (key b : List UInt8) (r : Nat) : stK key b (r + 1) = rnd key (r + 1) (stK key b r) := by unfold stK; rw [st]
theorem stK_mid (key b : List UInt8) (r : Nat) (h : r < 9) : stK key b (r + 1) = xorL (mixC (shR (subB (stK key b r)))) (((rks key).drop (16 * (r + 1))).take 16) := by
  rw [stK_succ, rnd, if_pos (by omega), rk]
theorem stK_last (key b : List UInt8) (r : Nat) (h : r = 9) : stK key b (r + 1) = xorL (shR (subB (stK key b r))) (((rks key).drop (16 * (r + 1))).take 16) := by
  rw [stK_succ, rnd, if_neg (by omega), rk]
theorem stK_enc (key b : List UInt8) (r : Nat) (h : r = 10) : stK key b r = enc key b := by subst h; unfold stK enc; rfl
theorem addKey_at (K r : Nat) (hr : r ≤ 10) (i : Int) (hi : i = (r : Int)) (ks b : List UInt8) (rs : List Value) (hv : Vec 16 b rs) (w : World) (hks : ks.length = 176) (hK : Row w K 270 (ks.map V8)) :
    Calls Tryz.prog 175 #[.agg rs.toArray, .pointer (some ⟨K, 0, none⟩), .int .i64 i] w fun e w' => ∃ ts : List Value, Hid (Vec 16 (xorL b ((ks.drop (16 * r)).take 16)) ts) ∧ e = .returned (.agg ts.toArray) ∧ Below w.heap.size w w' := by
  subst hi
  exact addKey_any K r hr ks b rs hv w hK.lt hks hK.sees
set_option maxRecDepth 100000 in
set_option maxHeartbeats 1000000 in
theorem AEnc_any (key b : List UInt8) (kr br : List Value) (hk : Vec 16 key kr) (hb : Vec 16 b br) (w : World) :
    Calls Tryz.prog 162 #[.agg kr.toArray, .agg br.toArray] w fun e w' => ∃ ts : List Value, Hid (Vec 16 (enc key b) ts) ∧ e = .returned (.agg ts.toArray) ∧ Below w.heap.size w w' := by
  have HK := Lib.hid hk
  have HBv := Lib.hid hb
  have Hzkr : Hid (kr.toArray.size = 16) := hk.size
  have Hzbr : Hid (br.toArray.size = 16) := hb.size
  clear hk hb
  have hz := zero16
  have hz2 := zeroSub
  have hz3 := zeroKeys
  have hr0 : Row (((w.alloc (.cells kr.toArray 25)).alloc (.cells br.toArray 25)).alloc (.cells Z16.toArray 25)) w.heap.size 25 kr := ((Row.new w 25 kr).alloc _).alloc _
  have hr1 : Row (((w.alloc (.cells kr.toArray 25)).alloc (.cells br.toArray 25)).alloc (.cells Z16.toArray 25)) (w.heap.size + 1) 25 br := (Row.newAt 25 br (by simp)).alloc _
  have hr2 : Row (((w.alloc (.cells kr.toArray 25)).alloc (.cells br.toArray 25)).alloc (.cells Z16.toArray 25)) (w.heap.size + 1 + 1) 25 Z16 := Row.newAt 25 Z16 (by simp)
  have hbl : Below w.heap.size w (((w.alloc (.cells kr.toArray 25)).alloc (.cells br.toArray 25)).alloc (.cells Z16.toArray 25)) := (((Below.refl _ _).alloc (Nat.le_refl _) _).alloc (by simp) _).alloc (by simp; omega) _
  have HR0 := Lib.hid hr0
  have HR1 := Lib.hid hr1
  have HR2 := Lib.hid hr2
  have HBL := Lib.hid hbl
  clear hr0 hr1 hr2 hbl
  go_enter Tryz.func162, Tryz.ntmps162
  go_wp2_with fail
  generalize ((w.alloc (.cells kr.toArray 25)).alloc (.cells br.toArray 25)).alloc (.cells Z16.toArray 25) = w0 at *
  refine (newSub_any w0).mono ?_
  rintro e w1 ⟨ss, Hss, rfl, hb1⟩
  have Hzss : Hid (ss.toArray.size = 256) := Hss.out.size
  have Hoss : Hid (ss.toArray.all (·.oneCell') = true) := Hss.out.one
  obtain ⟨S, hS⟩ : ∃ S, S = w1.heap.size := ⟨_, rfl⟩
  have hs1 : w.heap.size + 1 + 1 < S := by have := HR2.out.lt; have := hb1.size; omega
  have hbS : Below w1.heap.size w1 ((w1.alloc (.cells Z256.toArray 266)).setRow w1.heap.size ss.toArray) := below_setRow' ((Below.refl _ _).alloc (Nat.le_refl _) _) (Nat.le_refl _) _
  have hb2 : Below w0.heap.size w0 ((w1.alloc (.cells Z256.toArray 266)).setRow w1.heap.size ss.toArray) := hb1.trans (hbS.mono hb1.size)
  have HS2 : Hid (Row ((w1.alloc (.cells Z256.toArray 266)).setRow w1.heap.size ss.toArray) S 266 (SBL.map V8)) := Hss.out.row (hS ▸ (Row.new w1 266 Z256).whole ss)
  have HB2 := Lib.hid hb2
  have hsz2 : ((w1.alloc (.cells Z256.toArray 266)).setRow w1.heap.size ss.toArray).heap.size = S + 1 := by rw [hS]; simp
  have HK2 : Hid (Row ((w1.alloc (.cells Z256.toArray 266)).setRow w1.heap.size ss.toArray) w.heap.size 25 kr) := HR0.out.below hb2 HR0.out.lt
  go_wp2_with (first
    | (refine wpList_store_row rfl 266 (.tmp 5) (.tmp 8) rfl w1.heap.size ss.toArray rfl rfl 266 _ (Row.new w1 _ Z256) (by rw [Hzss.out]; kernel_rfl) (by rw [Hzss.out]; rfl) Hoss.out ?_)
    | (refine wpList_load_row rfl 25 (.tmp 2) rfl w.heap.size rfl 25 kr.toArray (0, 0) _ HK2.out Tryz.underlying25 rfl (by rw [Hzkr.out]; kernel_rfl) ?_))
  clear hbS hb2 hb1
  generalize (w1.alloc (.cells Z256.toArray 266)).setRow w1.heap.size ss.toArray = w2 at *
  rw [← hS]
  clear hS
  refine (roundKeys_any S key kr HK.out w2 HS2.out.lt HS2.out.sees).mono ?_
  rintro e w3 ⟨ks, Hks, rfl, hb3⟩
  have Hzks : Hid (ks.toArray.size = 176) := Hks.out.size
  have Hoks : Hid (ks.toArray.all (·.oneCell') = true) := Hks.out.one
  obtain ⟨K, hKe⟩ : ∃ K, K = w3.heap.size := ⟨_, rfl⟩
  have HE4 : Hid (Enc w ((w3.alloc (.cells Z176.toArray 270)).setRow w3.heap.size ks.toArray) S K key br) := by
    have hbK : Below w3.heap.size w3 ((w3.alloc (.cells Z176.toArray 270)).setRow w3.heap.size ks.toArray) := below_setRow' ((Below.refl _ _).alloc (Nat.le_refl _) _) (Nat.le_refl _) _
    have hb4 : Below w2.heap.size w2 ((w3.alloc (.cells Z176.toArray 270)).setRow w3.heap.size ks.toArray) := hb3.trans (hbK.mono hb3.size)
    have hb04 := HB2.out.trans (hb4.mono HB2.out.size)
    refine ⟨HR1.out.below hb04 HR1.out.lt, HR2.out.below hb04 HR2.out.lt, HS2.out.below hb4 HS2.out.lt, Hks.out.row (hKe ▸ (Row.new w3 270 Z176).whole ks), hs1, ?_, HBL.out.trans (hb04.mono HBL.out.size)⟩
    have := hb3.size
    omega
  go_wp2_with (first | (refine wpList_store_row rfl 270 (.tmp 6) (.tmp 10) rfl w3.heap.size ks.toArray rfl rfl 270 _ (Row.new w3 _ Z176) (by rw [Hzks.out]; kernel_rfl) (by rw [Hzks.out]; rfl) Hoks.out ?_) | (refine wpList_load_row rfl 25 (.tmp 3) rfl (w.heap.size + 1) rfl 25 br.toArray (0, 0) _ HE4.out.blk Tryz.underlying25 rfl (by rw [Hzbr.out]; kernel_rfl) ?_))
  clear HR0 HR1 HR2 HBL HS2 HB2 HK2 hb3 hsz2 hz hz2 hz3
  generalize (w3.alloc (.cells Z176.toArray 270)).setRow w3.heap.size ks.toArray = w4 at *
  rw [← hKe]
  clear hKe
  refine (addKey_at K 0 (by omega) 0 rfl (rks key) b br HBv.out w4 (rks_length key HK.out.2) HE4.out.keys).mono ?_
  rintro e v5 ⟨cs5, Hcs5, rfl, hb5⟩
  have Hzcs5 : Hid (cs5.toArray.size = 16) := Hcs5.out.size
  have Hocs5 : Hid (cs5.toArray.all (·.oneCell') = true) := Hcs5.out.one
  have HF5 : Hid (Enc w v5 S K key br) := HE4.out.call hb5
  have HE5 : Hid (Enc w (v5.setRow (w.heap.size + 1) cs5.toArray) S K key cs5) := HF5.out.put cs5
  clear hb5
  go_wp2_with (refine wpList_store_row rfl 25 (.tmp 3) (.tmp 12) rfl (w.heap.size + 1) cs5.toArray rfl rfl 25 _ HF5.out.blk (by rw [Hzcs5.out]; kernel_rfl) (by rw [Hzcs5.out]; exact Hzbr.out) Hocs5.out ?_)
  generalize v5.setRow (w.heap.size + 1) cs5.toArray = w5 at *
  clear HF5 HE4
  rw [← stK_zero] at Hcs5
  go_wp2
  go_loopw [7] (fun i wr => ∃ (r : Nat) (cs : List Value), r ≤ 10 ∧ i = .int .i64 ((r : Int) + 1) ∧ Hid (Vec 16 (stK key b r) cs) ∧ Hid (Enc w wr S K key cs)) (fun i _ => 11 - (intOf i).toNat)
  case atStart => exact ⟨0, cs5, by omega, rfl, Hcs5, HE5⟩
  case round =>
    clear HE5 Hcs5 Hzcs5 Hocs5
    obtain ⟨r, cs, hr, rfl, Hcs, HEr⟩ := hrel
    have Hzcs : Hid (cs.toArray.size = 16) := Hcs.out.size
    rcases Nat.lt_or_ge r 10 with hlt | hge
    · rcases Nat.lt_or_ge r 9 with h9 | h9
      · skip
        go_wp2_with (refine wpList_load_row rfl 25 (.tmp 3) rfl (w.heap.size + 1) rfl 25 cs.toArray (0, 0) _ HEr.out.blk Tryz.underlying25 rfl (by rw [Hzcs.out]; kernel_rfl) ?_)
        refine (ofBlock_any S _ cs Hcs.out wr HEr.out.tab.lt HEr.out.tab.sees).mono ?_
        rintro e v6 ⟨cs6, Hcs6, rfl, hb6⟩
        have Hzcs6 : Hid (cs6.toArray.size = 16) := Hcs6.out.size
        have Hocs6 : Hid (cs6.toArray.all (·.oneCell') = true) := Hcs6.out.one
        have HF6 : Hid (Enc w v6 S K key cs) := HEr.out.call hb6
        have HE6 : Hid (Enc w (v6.setRow (w.heap.size + 1) cs6.toArray) S K key cs6) := HF6.out.put cs6
        clear hb6
        go_wp2_with (first | (refine wpList_store_row rfl 25 (.tmp 3) (.tmp 18) rfl (w.heap.size + 1) cs6.toArray rfl rfl 25 _ HF6.out.blk (by rw [Hzcs6.out]; kernel_rfl) (by rw [Hzcs6.out]; exact Hzcs.out) Hocs6.out ?_) | (refine wpList_load_row rfl 25 (.tmp 3) rfl (w.heap.size + 1) rfl 25 cs6.toArray (0, 0) _ HE6.out.blk Tryz.underlying25 rfl (by rw [Hzcs6.out]; kernel_rfl) ?_))
        generalize v6.setRow (w.heap.size + 1) cs6.toArray = w6 at *
        clear HF6 HEr
        refine (rotateRows_any _ cs6 Hcs6.out w6).mono ?_
        rintro e v7 ⟨cs7, Hcs7, rfl, hb7⟩
        have Hzcs7 : Hid (cs7.toArray.size = 16) := Hcs7.out.size
        have Hocs7 : Hid (cs7.toArray.all (·.oneCell') = true) := Hcs7.out.one
        have HF7 : Hid (Enc w v7 S K key cs6) := HE6.out.call hb7
        have HE7 : Hid (Enc w (v7.setRow (w.heap.size + 1) cs7.toArray) S K key cs7) := HF7.out.put cs7
        clear hb7
        go_wp2_with (first | (refine wpList_store_row rfl 25 (.tmp 3) (.tmp 20) rfl (w.heap.size + 1) cs7.toArray rfl rfl 25 _ HF7.out.blk (by rw [Hzcs7.out]; kernel_rfl) (by rw [Hzcs7.out]; exact Hzcs6.out) Hocs7.out ?_) | (refine wpList_load_row rfl 25 (.tmp 3) rfl (w.heap.size + 1) rfl 25 cs7.toArray (0, 0) _ HE7.out.blk Tryz.underlying25 rfl (by rw [Hzcs7.out]; kernel_rfl) ?_))
        generalize v7.setRow (w.heap.size + 1) cs7.toArray = w7 at *
        clear HF7 HE6
        refine (mixColumns_any _ cs7 Hcs7.out w7).mono ?_
        rintro e v8 ⟨cs8, Hcs8, rfl, hb8⟩
        have Hzcs8 : Hid (cs8.toArray.size = 16) := Hcs8.out.size
        have Hocs8 : Hid (cs8.toArray.all (·.oneCell') = true) := Hcs8.out.one
        have HF8 : Hid (Enc w v8 S K key cs7) := HE7.out.call hb8
        have HE8 : Hid (Enc w (v8.setRow (w.heap.size + 1) cs8.toArray) S K key cs8) := HF8.out.put cs8
        clear hb8
        go_wp2_with (first | (refine wpList_store_row rfl 25 (.tmp 3) (.tmp 24) rfl (w.heap.size + 1) cs8.toArray rfl rfl 25 _ HF8.out.blk (by rw [Hzcs8.out]; kernel_rfl) (by rw [Hzcs8.out]; exact Hzcs7.out) Hocs8.out ?_) | (refine wpList_load_row rfl 25 (.tmp 3) rfl (w.heap.size + 1) rfl 25 cs8.toArray (0, 0) _ HE8.out.blk Tryz.underlying25 rfl (by rw [Hzcs8.out]; kernel_rfl) ?_))
        generalize v8.setRow (w.heap.size + 1) cs8.toArray = w8 at *
        clear HF8 HE7
        refine (addKey_at K (r + 1) (by omega) _ (by omega) (rks key) _ cs8 Hcs8.out w8 (rks_length key HK.out.2) HE8.out.keys).mono ?_
        rintro e v9 ⟨cs9, Hcs9, rfl, hb9⟩
        have Hzcs9 : Hid (cs9.toArray.size = 16) := Hcs9.out.size
        have Hocs9 : Hid (cs9.toArray.all (·.oneCell') = true) := Hcs9.out.one
        have HF9 : Hid (Enc w v9 S K key cs8) := HE8.out.call hb9
        have HE9 : Hid (Enc w (v9.setRow (w.heap.size + 1) cs9.toArray) S K key cs9) := HF9.out.put cs9
        clear hb9
        go_wp2_with (refine wpList_store_row rfl 25 (.tmp 3) (.tmp 27) rfl (w.heap.size + 1) cs9.toArray rfl rfl 25 _ HF9.out.blk (by rw [Hzcs9.out]; kernel_rfl) (by rw [Hzcs9.out]; exact Hzcs8.out) Hocs9.out ?_)
        generalize v9.setRow (w.heap.size + 1) cs9.toArray = w9 at *
        clear HF9 HE8
        rw [← stK_mid key b r h9] at Hcs9
        go_wp2
        go_roundw
        case rel => exact ⟨r + 1, cs9, by omega, by go_num, Hcs9, HE9⟩
        case measure => simp [intOf]; omega
      · skip
        go_wp2_with (refine wpList_load_row rfl 25 (.tmp 3) rfl (w.heap.size + 1) rfl 25 cs.toArray (0, 0) _ HEr.out.blk Tryz.underlying25 rfl (by rw [Hzcs.out]; kernel_rfl) ?_)
        refine (ofBlock_any S _ cs Hcs.out wr HEr.out.tab.lt HEr.out.tab.sees).mono ?_
        rintro e v6 ⟨cs6, Hcs6, rfl, hb6⟩
        have Hzcs6 : Hid (cs6.toArray.size = 16) := Hcs6.out.size
        have Hocs6 : Hid (cs6.toArray.all (·.oneCell') = true) := Hcs6.out.one
        have HF6 : Hid (Enc w v6 S K key cs) := HEr.out.call hb6
        have HE6 : Hid (Enc w (v6.setRow (w.heap.size + 1) cs6.toArray) S K key cs6) := HF6.out.put cs6
        clear hb6
        go_wp2_with (first | (refine wpList_store_row rfl 25 (.tmp 3) (.tmp 18) rfl (w.heap.size + 1) cs6.toArray rfl rfl 25 _ HF6.out.blk (by rw [Hzcs6.out]; kernel_rfl) (by rw [Hzcs6.out]; exact Hzcs.out) Hocs6.out ?_) | (refine wpList_load_row rfl 25 (.tmp 3) rfl (w.heap.size + 1) rfl 25 cs6.toArray (0, 0) _ HE6.out.blk Tryz.underlying25 rfl (by rw [Hzcs6.out]; kernel_rfl) ?_))
        generalize v6.setRow (w.heap.size + 1) cs6.toArray = w6 at *
        clear HF6 HEr
        refine (rotateRows_any _ cs6 Hcs6.out w6).mono ?_
        rintro e v7 ⟨cs7, Hcs7, rfl, hb7⟩
        have Hzcs7 : Hid (cs7.toArray.size = 16) := Hcs7.out.size
        have Hocs7 : Hid (cs7.toArray.all (·.oneCell') = true) := Hcs7.out.one
        have HF7 : Hid (Enc w v7 S K key cs6) := HE6.out.call hb7
        have HE7 : Hid (Enc w (v7.setRow (w.heap.size + 1) cs7.toArray) S K key cs7) := HF7.out.put cs7
        clear hb7
        go_wp2_with (first | (refine wpList_store_row rfl 25 (.tmp 3) (.tmp 20) rfl (w.heap.size + 1) cs7.toArray rfl rfl 25 _ HF7.out.blk (by rw [Hzcs7.out]; kernel_rfl) (by rw [Hzcs7.out]; exact Hzcs6.out) Hocs7.out ?_) | (refine wpList_load_row rfl 25 (.tmp 3) rfl (w.heap.size + 1) rfl 25 cs7.toArray (0, 0) _ HE7.out.blk Tryz.underlying25 rfl (by rw [Hzcs7.out]; kernel_rfl) ?_))
        generalize v7.setRow (w.heap.size + 1) cs7.toArray = w7 at *
        clear HF7 HE6
        refine (addKey_at K (r + 1) (by omega) _ (by omega) (rks key) _ cs7 Hcs7.out w7 (rks_length key HK.out.2) HE7.out.keys).mono ?_
        rintro e v9 ⟨cs9, Hcs9, rfl, hb9⟩
        have Hzcs9 : Hid (cs9.toArray.size = 16) := Hcs9.out.size
        have Hocs9 : Hid (cs9.toArray.all (·.oneCell') = true) := Hcs9.out.one
        have HF9 : Hid (Enc w v9 S K key cs7) := HE7.out.call hb9
        have HE9 : Hid (Enc w (v9.setRow (w.heap.size + 1) cs9.toArray) S K key cs9) := HF9.out.put cs9
        clear hb9
        go_wp2_with (refine wpList_store_row rfl 25 (.tmp 3) (.tmp 27) rfl (w.heap.size + 1) cs9.toArray rfl rfl 25 _ HF9.out.blk (by rw [Hzcs9.out]; kernel_rfl) (by rw [Hzcs9.out]; exact Hzcs7.out) Hocs9.out ?_)
        generalize v9.setRow (w.heap.size + 1) cs9.toArray = w9 at *
        clear HF9 HE7
        rw [← stK_last key b r (by omega)] at Hcs9
        go_wp2
        go_roundw
        case rel => exact ⟨r + 1, cs9, by omega, by go_num, Hcs9, HE9⟩
        case measure => simp [intOf]; omega
    · rw [stK_enc key b r (by omega)] at Hcs
      have Hone : Hid (cs.toArray.all (·.oneCell') = true) := Hcs.out.one
      go_wp2_with (first
        | (refine wpList_load_row rfl 25 (.tmp 3) rfl (w.heap.size + 1) rfl 25 cs.toArray (0, 0) _ HEr.out.blk Tryz.underlying25 rfl (by rw [Hzcs.out]; kernel_rfl) ?_)
        | (refine wpList_store_row rfl 25 (.tmp 4) (.tmp 28) rfl (w.heap.size + 1 + 1) cs.toArray rfl rfl 25 _ HEr.out.res (by rw [Hzcs.out]; kernel_rfl) (by rw [Hzcs.out]; rfl) Hone.out ?_))
      have hlast := HEr.out.res.whole cs
      have hinfo : (Tryz.prog.info? 25).map (·.size) = some cs.toArray.size := by rw [Hzcs.out]; kernel_rfl
      refine bodyPost_ret (v := .agg cs.toArray) (results_cell_row rfl _ _ (w.heap.size + 1 + 1) 25 cs.toArray (0, 0) _ rfl hlast Tryz.underlying25 rfl hinfo) rfl ?_
      exact ⟨cs, Hcs, rfl, below_setRow' HEr.out.bel (by omega) _⟩
end Go.Proofs.YthbmknpbcgnabaaGreatDoor
