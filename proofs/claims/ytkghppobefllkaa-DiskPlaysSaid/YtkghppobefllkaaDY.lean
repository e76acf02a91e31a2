/-
  THE WALK of the law DiskPlays; written by wip/mkplays.py from wip/plays_head.txt.
-/
import Derived.Test.YtkghppobefllkaaDX
import Derived.Deep.RegionHeld3
namespace Go.Proofs.Ytkghppobefllkaa
open Go.RowKit Dsk

namespace Dsk
theorem alterL_length (L : List Blk) (i j : Int) (x : UInt8) : (alterL L i j x).length = L.length := by
  unfold alterL
  split
  · exact upd1_length _ _ _
  · rfl
theorem backL_length (L : List Blk) (i : Int) : (backL L i).length = L.length := upd1_length _ _ _
theorem swapL_length (L : List Blk) (i k : Int) : (swapL L i k).length = L.length := by
  unfold swapL
  split
  · split <;> simp
  · rfl
theorem crash_length (keep : Nat → Bool) (L : List Blk) : (crash keep L).length = L.length := crashTo_length _ _ _
end Dsk
theorem own_len {W : World} {B : Nat} {e : TypeId} {v : Value} {l : List Value} (h : Own W B e v l) : ∃ A c, v = .slice A l.length c := by
  have hl := h.1
  rcases h.2 with ⟨rfl, h0⟩ | ⟨g, cap, cur, rfl, _⟩
  · exact ⟨none, 0, by rw [h0]⟩
  · exact ⟨_, cap, rfl⟩
theorem inc_byte (y : Nat) : Value.int .u8 (((y : Int) + 1) % 256) = V8 (UInt8.ofNat (y + 1)) := by
  unfold V8
  rw [← byte_eq]
  rfl
theorem info33 : (Try.prog.info? 33).map (·.size) = some 6 := by kernel_rfl

set_option maxRecDepth 100000 in
set_option maxHeartbeats 40000000 in
theorem DPlays_short (n : Nat) (h1 : 1 ≤ n) (h2 : n ≤ 40) (A1 : Option Addr) (n1 c1 : Nat) (lb : List Deed) (hn1 : n1 ≤ 60) (w : World) (db : Deeds w (.slice A1 n1 c1) lb) :
    Calls Try.prog 3 #[.int .i64 n, .slice A1 n1 c1] w fun e w' => e = .returned (.bool true) ∧ Below w.heap.size w w' := by
  have HN := Lib.hid (DNew_any n h1 (by omega) w)
  have HRN : Hid (∀ W, _) := fun W => RDNew_any n h1 (by omega) W
  have HLen : Hid ((List.replicate n Blk.zero).length = n) := List.length_replicate
  have HDb := Lib.hid db
  generalize List.replicate n Blk.zero = L0 at *
  clear db
  go_enter Try.func3, Try.ntmps3
  go_wp2_with fail
  refine HN.out.mono ?_
  rintro e w1 ⟨D, F, rfl, hD, hF, hb1⟩
  have HD := Lib.hid hD
  have HF := Lib.hid hF
  have HB1 := Lib.hid hb1
  clear hD hF hb1 HN
  go_wp2_with fail
  refine (HRN.out w1).mono ?_
  rintro e w2 ⟨M, G, rfl, hR, hG, hb2⟩
  have HB0 : Hid (Both w w2 (fun _ => False) D M L0 L0) := both_new HD.out HF.out HB1.out hR hG hb2
  clear hR hG hb2 HD HF HB1 HRN
  go_wp2
  go_loopw [8] (fun i wr => ∃ (k : Nat) (L : List Blk), k ≤ n1 ∧ i = .int .i64 k ∧ Hid (Both w wr (fun _ => False) D M L L ∧ L.length = n)) (fun i _ => n1 - (intOf i).toNat)
  case atStart => exact ⟨0, L0, by omega, rfl, HB0.out, HLen.out⟩
  case round =>
    obtain ⟨k, L, hk, rfl, HB2⟩ := hrel
    clear HB0 HLen
    by_cases hlt : k < n1
    · obtain ⟨b0, o0, d, rfl, hd, hok, hcell⟩ := HDb.out.at_ hlt
      obtain ⟨dw, di, dk, dx, vb, vk, bs, ks⟩ := d
      obtain ⟨Ab, cb, hvb⟩ := hok.arg.form
      obtain ⟨Ak, ck, hvk, -⟩ := hok.keeps.parts
      rw [List.length_map] at hvk
      obtain ⟨nb, hnb⟩ : ∃ nb, nb = bs.length := ⟨_, rfl⟩
      obtain ⟨nk, hnk⟩ : ∃ nk, nk = ks.length := ⟨_, rfl⟩
      dsimp only at hvb hvk
      rw [← hnb] at hvb
      rw [← hnk] at hvk
      subst hvb hvk
      have HOk : Hid (Deed.ok w ⟨dw, di, dk, dx, .slice Ab nb cb, .slice Ak nk ck, bs, ks⟩) := hok
      obtain ⟨q0, q1, q2, q3, q4, q5⟩ := hcell wr HB2.out.1.below
      have HRg : Hid (wr.rangeAt b0 (o0 + k * 6) [.int .i64 dw, .int .i64 di, .int .i64 dk, .int .u8 dx.toNat, .slice Ab nb cb, .slice Ak nk ck]) := fun j u hu => by
        match j, hu with
        | 0, hu => injection hu with hu; rw [← hu]; exact q0
        | 1, hu => injection hu with hu; rw [← hu]; exact q1
        | 2, hu => injection hu with hu; rw [← hu]; exact q2
        | 3, hu => injection hu with hu; rw [← hu]; exact q3
        | 4, hu => injection hu with hu; rw [← hu]; exact q4
        | 5, hu => injection hu with hu; rw [← hu]; exact q5
        | j + 6, hu => simp at hu
      have hlo := hok.lo
      have hhi := hok.hi
      dsimp only at hlo hhi
      have hnbw : nb ≤ 9223372036854775807 ∨ True := .inr trivial
      have hlt' : (k : Int) < (n1 : Int) := by omega
      have Hnb := Lib.hid hnb
      have Hnk := Lib.hid hnk
      obtain ⟨r, hr⟩ : ∃ r, r = wr.heap.size := ⟨_, rfl⟩
      obtain ⟨w5, hw5⟩ : ∃ w5, w5 = wr.alloc (.cells #[.int .i64 dw, .int .i64 di, .int .i64 dk, .int .u8 dx.toNat, .slice Ab nb cb, .slice Ak nk ck] 33) := ⟨_, rfl⟩
      have HX : Hid (Here w5 r 0 [.int .i64 dw, .int .i64 di, .int .i64 dk, .int .u8 dx.toNat, .slice Ab nb cb, .slice Ak nk ck]) := by rw [hw5, hr]; exact (Row.new wr 33 [.int .i64 dw, .int .i64 di, .int .i64 dk, .int .u8 dx.toNat, .slice Ab nb cb, .slice Ak nk ck]).here
      have HB : Hid (Both w w5 (fun k => k = r) D M L L ∧ L.length = n) := by
        rw [hw5]
        exact ⟨HB2.out.1.also ((Below.refl _ _).alloc (Nat.le_refl _) _) _ (fun j hj => .inr ⟨by omega, by simp; omega⟩), HB2.out.2⟩
      have HWr : Hid (w.heap.size ≤ r) := by show _ ≤ _; rw [hr]; exact HB2.out.1.below.size
      have HW5 := Lib.hid hw5
      have Hr := Lib.hid hr
      clear hcell hd hok q0 q1 q2 q3 q4 q5 HB2 hnb hnk hw5 hr hnbw
      by_cases hbig : 100 < nb
      · skip
        go_wp2_with (refine wpList_load_mid rfl 33 (.tmp 68) rfl b0 (o0 + k * 6) rfl [.int .i64 dw, .int .i64 di, .int .i64 dk, .int .u8 dx.toNat, .slice Ab nb cb, .slice Ak nk ck] _ HRg.out Try.underlying33 rfl info33 ?_)
        rw [← HW5.out, ← Hr.out]
        clear HW5 Hr HRg
        refine (Dknows_any _).mono ?_
        rintro e w8 ⟨rfl, hb8⟩
        have HBe : Hid (Below w.heap.size w w8) := HB.out.1.below.trans (hb8.mono HB.out.1.below.size)
        clear hb8 HB HX
        go_wp2
        go_ret
        exact ⟨rfl, HBe.out⟩
      · by_cases hkig : 100 < nk
        · skip
          go_wp2_with (refine wpList_load_mid rfl 33 (.tmp 68) rfl b0 (o0 + k * 6) rfl [.int .i64 dw, .int .i64 di, .int .i64 dk, .int .u8 dx.toNat, .slice Ab nb cb, .slice Ak nk ck] _ HRg.out Try.underlying33 rfl info33 ?_)
          rw [← HW5.out, ← Hr.out]
          clear HW5 Hr HRg
          refine (Dknows_any _).mono ?_
          rintro e w8 ⟨rfl, hb8⟩
          have HBe : Hid (Below w.heap.size w w8) := HB.out.1.below.trans (hb8.mono HB.out.1.below.size)
          clear hb8 HB HX
          go_wp2
          go_ret
          exact ⟨rfl, HBe.out⟩
        · have hp7 : pk dw < 7 := Nat.mod_lt _ (by omega)
          rcases (show pk dw = 0 ∨ pk dw = 1 ∨ pk dw = 2 ∨ pk dw = 3 ∨ pk dw = 4 ∨ pk dw = 5 ∨ pk dw = 6 from by omega) with hp | hp | hp | hp | hp | hp | hp
          · clear hp7
            as_aux_lemma =>
              have HPk : Hid (Calls Try.prog 8 #[.int .i64 dw, .int .i64 7] w5 fun e w' => e = .returned (.int .i64 0) ∧ w' = w5) := by have := Dpick_any dw hlo hhi w5; rw [hp] at this; exact this
              clear hp hlo hhi
              go_wp2_with (refine wpList_load_mid rfl 33 (.tmp 68) rfl b0 (o0 + k * 6) rfl [.int .i64 dw, .int .i64 di, .int .i64 dk, .int .u8 dx.toNat, .slice Ab nb cb, .slice Ak nk ck] _ HRg.out Try.underlying33 rfl info33 ?_)
              rw [← HW5.out, ← Hr.out]
              clear HW5 Hr HRg
              refine HPk.out.mono ?_
              rintro e w5 ⟨rfl, rfl⟩
              clear HPk
              have HO : Hid (Own (w5.alloc (.cells #[] 5)) w5.heap.size 5 (.slice (some ⟨w5.heap.size, 0, none⟩) 0 0) []) := Own.lit w5 _ _ [] (Nat.le_refl _) (by decide)
              have HFr : Hid (From (w5.alloc (.cells #[] 5)) (.slice Ab nb cb) (bs.map V8)) := (arg_from (HOk.out.arg.below HB.out.1.below)).alloc _
              have Ho1 := Lib.hid (oneC8 bs)
              have HLn : Hid (([] : List Value).length + (bs.map V8).length ≤ 100000000) := by show _ ≤ _; rw [List.length_map, ← Hnb.out]; simp; omega
              have g4 := (HX.out.alloc (.cells #[] 5)).head (j := 4) rfl
              go_wp2_with (at_builtin; refine wpList_app rfl (.tmp 129) (.tmp 131) 30 rfl w5.heap.size 5 Try.underlying30 info8 rfl (by decide) _ [] rfl HO.out _ (bs.map V8) rfl HFr.out Ho1.out HLn.out (by simp) ?_; intro v6 w6 hown6 hg6 _; rw [List.nil_append] at hown6; have hb6 : Below w5.heap.size w5 w6 := below_app ((Below.refl _ _).alloc (Nat.le_refl _) _) HO.out hg6 (Nat.le_refl _) (by simp); obtain ⟨A6, c6, hv6⟩ := own_len hown6; rw [List.length_map, ← Hnb.out] at hv6; subst hv6; have hx6 := HX.out.stay hb6; have g61 := hx6.head (j := 1) rfl; have HOw6 := Lib.hid hown6; have HX6 := Lib.hid hx6; have Hb6 := Lib.hid hb6; clear hown6 hg6 hb6 hx6 g4 HO HFr Ho1 HLn)
              have hB6 : Both w w6 (fun k => k = r ∨ (w5.heap.size ≤ k ∧ k < w6.heap.size)) D M L L := HB.out.1.also Hb6.out _ (fun k hk => hk)
              have hArg6 : Arg w6 (.slice A6 nb c6) bs := HOw6.out.arg
              have hC1 := hB6.disk (f := 9) (args := #[.pointer (some ⟨D, 0, none⟩), .int .i64 di, .slice A6 nb c6]) (Q := fun e => e = .returned (.int .i64 (errI (okW L di bs)))) (Ld' := writeL L di bs) (P := Try.prog) fun F hF _ => DWrite_any hF di _ bs hArg6
              have hC2 : ∀ w', Both w w' (fun k => k = r ∨ (w5.heap.size ≤ k ∧ k < w6.heap.size)) D M (writeL L di bs) L → Calls Try.prog 10 #[.pointer (some ⟨M, 0, none⟩), .int .i64 di, .string (strB bs)] w' fun e w2 => e = .returned (.bool (okW L di bs)) ∧ Both w w2 (fun k => k = r ∨ (w5.heap.size ≤ k ∧ k < w6.heap.size)) D M (writeL L di bs) (writeL L di bs) ∧ Chg (Frm w (fun k => k = r ∨ (w5.heap.size ≤ k ∧ k < w6.heap.size))) w' w2 := fun w' hw' => hw'.ref (Q := fun e => e = .returned (.bool (okW L di bs))) fun G hG _ => RDWrite_any hG di bs
              have HLn : Hid ((writeL L di bs).length = n) := by show _ = _; rw [writeL_length]; exact HB.out.2
              have Hcv : Hid (∀ W, Below w.heap.size w W → (convert 30 9 (.slice Ab nb cb)).run Try.prog W = .ok (.string (strB bs)) W) := fun W hW => conv_arg (HOk.out.arg.below hW)
              have Hrl : Hid (r < w5.heap.size) := HX.out.lt (by simp)
              generalize okW L di bs = ok at *
              generalize writeL L di bs = L' at *
              generalize strB bs = sb at *
              clear hB6 hArg6 HB HX
              cases ok
              all_goals
                first | rw [show errI true = 0 from rfl] at hC1 | rw [show errI false = 1 from rfl] at hC1
                have HC1 := Lib.hid hC1
                have HC2 := Lib.hid hC2
                clear hC1 hC2
                by_cases hnb0 : 0 < nb
                · obtain ⟨g, c6', hv, hg1, hg2, hH6⟩ := own_here HOw6.out (by rw [List.length_map, ← Hnb.out]; exact hnb0)
                  injection hv with hv1 hv2 hv3
                  subst hv1
                  have HH6 := Lib.hid hH6
                  have Hg1 := Lib.hid hg1
                  have Hg2 := Lib.hid hg2
                  clear hv2 hv3 hH6 hg1 hg2 HOw6
                  refine HC1.out.mono ?_
                  rintro e w7 ⟨rfl, hB7, hC7⟩
                  have hH7 : Here w7 g 0 (bs.map V8) := HH6.out.chg hC7 fun j _ hs => hs.2 (.inr ⟨Hg1.out, Hg2.out⟩)
                  have hx7 : Here w7 r 0 [.int .i64 dw, .int .i64 di, .int .i64 dk, .int .u8 dx.toNat, .slice Ab nb cb, .slice Ak nk ck] := HX6.out.chg hC7 fun j _ hs => hs.2 (.inl rfl)
                  have hat : (bs.map V8)[0]? = some (.int .u8 (bs.getD 0 0).toNat) := by
                    rw [List.getElem?_map, List.getElem?_eq_getElem (by rw [← Hnb.out]; exact hnb0), List.getD_eq_getElem?_getD, List.getElem?_eq_getElem (by rw [← Hnb.out]; exact hnb0)]; rfl
                  have hc0 := hH7.head hat
                  have hf0 := hH7.headFree (j := 0) (by rw [List.length_map, ← Hnb.out]; exact hnb0)
                  generalize (bs.getD 0 0).toNat = y at *
                  have hx8 : Here (w7.setCell ⟨g, 0, none⟩ (.int .u8 (((y : Int) + 1) % 256))) r 0 [.int .i64 dw, .int .i64 di, .int .i64 dk, .int .u8 dx.toNat, .slice Ab nb cb, .slice Ak nk ck] := hx7.putOff (by show r ≠ g; have := Hrl.out; have := Hg1.out; omega) _
                  have hB8 : Both w (w7.setCell ⟨g, 0, none⟩ (.int .u8 (((y : Int) + 1) % 256))) (fun k => k = r ∨ (w5.heap.size ≤ k ∧ k < w6.heap.size)) D M L' L := hB7.chg (S := fun k _ => k = g) ((Chg.refl _ w7).setCell rfl (fun _ => rfl) (by rw [hc0]; rfl) _) (fun k o _ hs => ⟨.inr (by rw [hs]; exact ⟨Hg1.out, Hg2.out⟩), by rw [hs]; have := HWr.out; have := Hrl.out; have := Hg1.out; omega⟩)
                  have g81 := hx8.head (j := 1) rfl
                  have g84 := hx8.head (j := 4) rfl
                  have hcv := Hcv.out _ hB8.below
                  have HC3 := Lib.hid (HC2.out _ hB8)
                  clear hB7 hC7 hH7 hx7 hat hx8 hB8 HC1 HC2 HH6 HX6 g61
                  go_wp2_with fail
                  refine HC3.out.mono ?_
                  rintro e w9 ⟨rfl, hB9, _⟩
                  have HE : Hid (Both w w9 (fun k => k = r ∨ (w5.heap.size ≤ k ∧ k < w6.heap.size)) D M L' L' ∧ L'.length = n) := ⟨hB9, HLn.out⟩
                  clear hB9 HC3 g81 g84 hcv hc0 hf0
                  obtain ⟨F9, G9, hFD, hGR, -, -, -, -, -⟩ := HE.out.1
                  have HD1 := Lib.hid (DDirty_any hFD)
                  have HD2 : Hid (∀ w', Below w9.heap.size w9 w' → Calls Try.prog 24 #[.pointer (some ⟨M, 0, none⟩)] w' fun e w2 => e = .returned (.int .i64 (cnt L')) ∧ w2 = w') := fun w' hw' => RDDirty_any (hGR.below hw')
                  clear hFD hGR
                  generalize cnt L' = dirt at *
                  go_wp2_with fail
                  refine HD1.out.mono ?_
                  rintro e wA ⟨rfl, hbA⟩
                  have HEA : Hid (Both w wA (fun _ => False) D M L' L' ∧ L'.length = n) := ⟨(HE.out.1.stay hbA).less, HE.out.2⟩
                  have HD3 := Lib.hid (HD2.out wA hbA)
                  clear HE HD1 HD2 hbA
                  go_wp2_with fail
                  refine HD3.out.mono ?_
                  rintro e wB ⟨rfl, rfl⟩
                  clear HD3
                  go_wp2
                  go_roundw
                  case rel => exact ⟨k + 1, _, by omega, by go_num, HEA⟩
                  case measure => simp [intOf]; omega
                · obtain rfl : nb = 0 := by omega
                  refine HC1.out.mono ?_
                  rintro e w7 ⟨rfl, hB7, hC7⟩
                  have hx7 : Here w7 r 0 [.int .i64 dw, .int .i64 di, .int .i64 dk, .int .u8 dx.toNat, .slice Ab 0 cb, .slice Ak nk ck] := HX6.out.chg hC7 fun j _ hs => hs.2 (.inl rfl)
                  have g81 := hx7.head (j := 1) rfl
                  have g84 := hx7.head (j := 4) rfl
                  have hcv := Hcv.out _ hB7.below
                  have HC3 := Lib.hid (HC2.out _ hB7)
                  clear hB7 hC7 hx7 HC1 HC2 HX6 g61 HOw6
                  go_wp2_with fail
                  refine HC3.out.mono ?_
                  rintro e w9 ⟨rfl, hB9, _⟩
                  have HE : Hid (Both w w9 (fun k => k = r ∨ (w5.heap.size ≤ k ∧ k < w6.heap.size)) D M L' L' ∧ L'.length = n) := ⟨hB9, HLn.out⟩
                  clear hB9 HC3 g81 g84 hcv
                  obtain ⟨F9, G9, hFD, hGR, -, -, -, -, -⟩ := HE.out.1
                  have HD1 := Lib.hid (DDirty_any hFD)
                  have HD2 : Hid (∀ w', Below w9.heap.size w9 w' → Calls Try.prog 24 #[.pointer (some ⟨M, 0, none⟩)] w' fun e w2 => e = .returned (.int .i64 (cnt L')) ∧ w2 = w') := fun w' hw' => RDDirty_any (hGR.below hw')
                  clear hFD hGR
                  generalize cnt L' = dirt at *
                  go_wp2_with fail
                  refine HD1.out.mono ?_
                  rintro e wA ⟨rfl, hbA⟩
                  have HEA : Hid (Both w wA (fun _ => False) D M L' L' ∧ L'.length = n) := ⟨(HE.out.1.stay hbA).less, HE.out.2⟩
                  have HD3 := Lib.hid (HD2.out wA hbA)
                  clear HE HD1 HD2 hbA
                  go_wp2_with fail
                  refine HD3.out.mono ?_
                  rintro e wB ⟨rfl, rfl⟩
                  clear HD3
                  go_wp2
                  go_roundw
                  case rel => exact ⟨k + 1, _, by omega, by go_num, HEA⟩
                  case measure => simp [intOf]; omega
          · clear hp7
            as_aux_lemma =>
              have HPk : Hid (Calls Try.prog 8 #[.int .i64 dw, .int .i64 7] w5 fun e w' => e = .returned (.int .i64 1) ∧ w' = w5) := by have := Dpick_any dw hlo hhi w5; rw [hp] at this; exact this
              clear hp hlo hhi
              go_wp2_with (refine wpList_load_mid rfl 33 (.tmp 68) rfl b0 (o0 + k * 6) rfl [.int .i64 dw, .int .i64 di, .int .i64 dk, .int .u8 dx.toNat, .slice Ab nb cb, .slice Ak nk ck] _ HRg.out Try.underlying33 rfl info33 ?_)
              rw [← HW5.out, ← Hr.out]
              clear HW5 Hr HRg
              refine HPk.out.mono ?_
              rintro e w5 ⟨rfl, rfl⟩
              clear HPk
              have HC1 := Lib.hid (HB.out.1.disk (f := 11) (args := #[.pointer (some ⟨D, 0, none⟩)]) (Q := fun e => e = .returned (.tuple #[])) (Ld' := crash (fun _ => true) L) (P := Try.prog) fun F hF _ => DFlush_any hF)
              have HC2 : Hid (∀ w', Both w w' (fun k => k = r) D M (crash (fun _ => true) L) L → Calls Try.prog 12 #[.pointer (some ⟨M, 0, none⟩), .slice none 0 0, .bool true] w' fun e w2 => e = .returned (.tuple #[]) ∧ Both w w2 (fun k => k = r) D M (crash (fun _ => true) L) (crash (fun _ => true) L) ∧ Chg (Frm w (fun k => k = r)) w' w2) := fun w' hw' => hw'.ref (Q := fun e => e = .returned (.tuple #[])) fun G hG _ => RDCrash_any hG true none 0 0 [] rfl (.inl ⟨none, rfl, rfl⟩) (fun _ _ h _ => by cases h)
              have HLn : Hid ((crash (fun _ => true) L).length = n) := by show _ = _; rw [crash_length]; exact HB.out.2
              generalize crash (fun _ => true) L = L' at *
              have g5 := HX.out.head (j := 5) rfl
              clear HB
              go_wp2_with fail
              refine HC1.out.mono ?_
              rintro e w6 ⟨rfl, hB6, hC6⟩
              have hx6 : Here w6 r 0 [.int .i64 dw, .int .i64 di, .int .i64 dk, .int .u8 dx.toNat, .slice Ab nb cb, .slice Ak nk ck] := HX.out.chg hC6 fun j _ hs => hs.2 rfl
              have g65 := hx6.head (j := 5) rfl
              have HC3 := Lib.hid (HC2.out w6 hB6)
              clear hB6 hC6 HC1 HC2 g5
              go_wp2_with fail
              refine HC3.out.mono ?_
              rintro e w7 ⟨rfl, hB7, _⟩
              have HE : Hid (Both w w7 (fun k => k = r) D M L' L' ∧ L'.length = n) := ⟨hB7, HLn.out⟩
              clear hB7 HC3 hx6 g65 HX HLn
              obtain ⟨F9, G9, hFD, hGR, -, -, -, -, -⟩ := HE.out.1
              have HD1 := Lib.hid (DDirty_any hFD)
              have HD2 : Hid (∀ w', Below w7.heap.size w7 w' → Calls Try.prog 24 #[.pointer (some ⟨M, 0, none⟩)] w' fun e w2 => e = .returned (.int .i64 (cnt L')) ∧ w2 = w') := fun w' hw' => RDDirty_any (hGR.below hw')
              clear hFD hGR
              generalize cnt L' = dirt at *
              go_wp2_with fail
              refine HD1.out.mono ?_
              rintro e wA ⟨rfl, hbA⟩
              have HEA : Hid (Both w wA (fun _ => False) D M L' L' ∧ L'.length = n) := ⟨(HE.out.1.stay hbA).less, HE.out.2⟩
              have HD3 := Lib.hid (HD2.out wA hbA)
              clear HE HD1 HD2 hbA
              go_wp2_with fail
              refine HD3.out.mono ?_
              rintro e wB ⟨rfl, rfl⟩
              clear HD3
              go_wp2
              go_roundw
              case rel => exact ⟨k + 1, _, by omega, by go_num, HEA⟩
              case measure => simp [intOf]; omega
          · clear hp7
            as_aux_lemma =>
              have HPk : Hid (Calls Try.prog 8 #[.int .i64 dw, .int .i64 7] w5 fun e w' => e = .returned (.int .i64 2) ∧ w' = w5) := by have := Dpick_any dw hlo hhi w5; rw [hp] at this; exact this
              clear hp hlo hhi
              go_wp2_with (refine wpList_load_mid rfl 33 (.tmp 68) rfl b0 (o0 + k * 6) rfl [.int .i64 dw, .int .i64 di, .int .i64 dk, .int .u8 dx.toNat, .slice Ab nb cb, .slice Ak nk ck] _ HRg.out Try.underlying33 rfl info33 ?_)
              rw [← HW5.out, ← Hr.out]
              clear HW5 Hr HRg
              refine HPk.out.mono ?_
              rintro e w5 ⟨rfl, rfl⟩
              clear HPk
              have HKF : Hid (∀ F : Nat → Prop, (∀ k, F k → w.heap.size ≤ k) → ∀ b o, Ak = some ⟨b, o, none⟩ → 0 < nk → ¬ F b) := fun F hF => keep_apart HOk.out.keeps Hnk.out.symm hF
              have HC1 := Lib.hid (HB.out.1.disk (f := 13) (args := #[.pointer (some ⟨D, 0, none⟩), .slice Ak nk ck]) (Q := fun e => e = .returned (.tuple #[])) (Ld' := crash (fun n => ks.getD n false) L) (P := Try.prog) fun F hF hh => DCrash_any hF Ak nk ck ks Hnk.out.symm (HOk.out.keeps.below HB.out.1.below) (HKF.out _ fun k hk => (hh k hk).1))
              have HC2 : Hid (∀ w', Both w w' (fun k => k = r) D M (crash (fun n => ks.getD n false) L) L → Calls Try.prog 12 #[.pointer (some ⟨M, 0, none⟩), .slice Ak nk ck, .bool false] w' fun e w2 => e = .returned (.tuple #[]) ∧ Both w w2 (fun k => k = r) D M (crash (fun n => ks.getD n false) L) (crash (fun n => ks.getD n false) L) ∧ Chg (Frm w (fun k => k = r)) w' w2) := fun w' hw' => hw'.ref (Q := fun e => e = .returned (.tuple #[])) fun G hG hh => RDCrash_any hG false Ak nk ck ks Hnk.out.symm (HOk.out.keeps.below hw'.below) (HKF.out _ fun k hk => (hh k hk).1)
              have HLn : Hid ((crash (fun n => ks.getD n false) L).length = n) := by show _ = _; rw [crash_length]; exact HB.out.2
              generalize crash (fun n => ks.getD n false) L = L' at *
              have g5 := HX.out.head (j := 5) rfl
              clear HB
              go_wp2_with fail
              refine HC1.out.mono ?_
              rintro e w6 ⟨rfl, hB6, hC6⟩
              have hx6 : Here w6 r 0 [.int .i64 dw, .int .i64 di, .int .i64 dk, .int .u8 dx.toNat, .slice Ab nb cb, .slice Ak nk ck] := HX.out.chg hC6 fun j _ hs => hs.2 rfl
              have g65 := hx6.head (j := 5) rfl
              have HC3 := Lib.hid (HC2.out w6 hB6)
              clear hB6 hC6 HC1 HC2 g5
              go_wp2_with fail
              refine HC3.out.mono ?_
              rintro e w7 ⟨rfl, hB7, _⟩
              have HE : Hid (Both w w7 (fun k => k = r) D M L' L' ∧ L'.length = n) := ⟨hB7, HLn.out⟩
              clear hB7 HC3 hx6 g65 HX HLn
              obtain ⟨F9, G9, hFD, hGR, -, -, -, -, -⟩ := HE.out.1
              have HD1 := Lib.hid (DDirty_any hFD)
              have HD2 : Hid (∀ w', Below w7.heap.size w7 w' → Calls Try.prog 24 #[.pointer (some ⟨M, 0, none⟩)] w' fun e w2 => e = .returned (.int .i64 (cnt L')) ∧ w2 = w') := fun w' hw' => RDDirty_any (hGR.below hw')
              clear hFD hGR
              generalize cnt L' = dirt at *
              go_wp2_with fail
              refine HD1.out.mono ?_
              rintro e wA ⟨rfl, hbA⟩
              have HEA : Hid (Both w wA (fun _ => False) D M L' L' ∧ L'.length = n) := ⟨(HE.out.1.stay hbA).less, HE.out.2⟩
              have HD3 := Lib.hid (HD2.out wA hbA)
              clear HE HD1 HD2 hbA
              go_wp2_with fail
              refine HD3.out.mono ?_
              rintro e wB ⟨rfl, rfl⟩
              clear HD3
              go_wp2
              go_roundw
              case rel => exact ⟨k + 1, _, by omega, by go_num, HEA⟩
              case measure => simp [intOf]; omega
          · clear hp7
            as_aux_lemma =>
              have HPk : Hid (Calls Try.prog 8 #[.int .i64 dw, .int .i64 7] w5 fun e w' => e = .returned (.int .i64 3) ∧ w' = w5) := by have := Dpick_any dw hlo hhi w5; rw [hp] at this; exact this
              clear hp hlo hhi
              go_wp2_with (refine wpList_load_mid rfl 33 (.tmp 68) rfl b0 (o0 + k * 6) rfl [.int .i64 dw, .int .i64 di, .int .i64 dk, .int .u8 dx.toNat, .slice Ab nb cb, .slice Ak nk ck] _ HRg.out Try.underlying33 rfl info33 ?_)
              rw [← HW5.out, ← Hr.out]
              clear HW5 Hr HRg
              refine HPk.out.mono ?_
              rintro e w5 ⟨rfl, rfl⟩
              clear HPk
              have HLn : Hid ((alterL L di dk dx).length = n) := by show _ = _; rw [alterL_length]; exact HB.out.2
              have hB1 := HB.out.1.stay (below_drewN (Below.refl _ w5) 1)
              have hx1 : Here w5.drew r 0 [.int .i64 dw, .int .i64 di, .int .i64 dk, .int .u8 dx.toNat, .slice Ab nb cb, .slice Ak nk ck] := HX.out
              have HC1 := Lib.hid (hB1.disk (f := 14) (args := #[.pointer (some ⟨D, 0, none⟩), .int .i64 di, .int .i64 dk, .int .u8 dx.toNat]) (Q := fun e => e = .returned (.bool (okA L di dk dx))) (Ld' := alterL L di dk dx) (P := Try.prog) fun F hF _ => DAlter_any hF di dk dx)
              have HC2 : Hid (∀ w', Both w w' (fun k => k = r) D M (alterL L di dk dx) L → Calls Try.prog 15 #[.pointer (some ⟨M, 0, none⟩), .int .i64 di, .int .i64 dk, .int .u8 dx.toNat] w' fun e w2 => e = .returned (.bool (okA L di dk dx)) ∧ Both w w2 (fun k => k = r) D M (alterL L di dk dx) (alterL L di dk dx) ∧ Chg (Frm w (fun k => k = r)) w' w2) := fun w' hw' => hw'.ref (Q := fun e => e = .returned (.bool (okA L di dk dx))) fun G hG _ => RDAlter_any hG di dk dx
              have hS1 : (fun W => W.cell? ⟨r, 1, none⟩ = some (.int .i64 di) ∧ W.cell? ⟨r, 2, none⟩ = some (.int .i64 dk) ∧ W.cell? ⟨r, 3, none⟩ = some (.int .u8 dx.toNat)) w5.drew := ⟨(hx1).head (j := 1) rfl, (hx1).head (j := 2) rfl, (hx1).head (j := 3) rfl⟩
              have HX1 := Lib.hid hx1
              generalize okA L di dk dx = ok at *
              generalize alterL L di dk dx = L' at *
              clear hB1 hx1 HB HX
              go_wp2
              refine wp_region_held_drew (S := (fun W => W.cell? ⟨r, 1, none⟩ = some (.int .i64 di) ∧ W.cell? ⟨r, 2, none⟩ = some (.int .i64 dk) ∧ W.cell? ⟨r, 3, none⟩ = some (.int .u8 dx.toNat))) (by kernel_rfl) (hS1) (fun hHeld => ?_)
              refine wpAnyH_take (i := 0) (oi := ⟨some 183, _, _, _, _, _⟩) (v := ?_) rfl (by kernel_rfl) (by kernel_rfl) (by kernel_rfl) (fun _ _ _ h => h) (Or.inl ⟨by rfl, ?_⟩) hHeld ?_
              rotate_left
              · intro w hSw
                obtain ⟨hSw1, hSw2, hSw3⟩ := hSw
                go_simp
                with_reducible rfl
              try go_frame
              refine wpAnyH_take (i := 1) (oi := ⟨some 184, _, _, _, _, _⟩) (v := ?_) rfl (by kernel_rfl) (by kernel_rfl) (by kernel_rfl) (fun _ _ _ h => h) (Or.inl ⟨by rfl, ?_⟩) hHeld ?_
              rotate_left
              · intro w hSw
                obtain ⟨hSw1, hSw2, hSw3⟩ := hSw
                go_simp
                with_reducible rfl
              try go_frame
              refine wpAnyH_take (i := 2) (oi := ⟨some 185, _, _, _, _, _⟩) (v := ?_) rfl (by kernel_rfl) (by kernel_rfl) (by kernel_rfl) (fun _ _ _ h => h) (Or.inl ⟨by rfl, ?_⟩) hHeld ?_
              rotate_left
              · intro w hSw
                obtain ⟨hSw1, hSw2, hSw3⟩ := hSw
                go_simp
                with_reducible rfl
              try go_frame
              refine wpAnyH_take (i := 3) (oi := ⟨some 186, _, _, _, _, _⟩) (v := ?_) rfl (by kernel_rfl) (by kernel_rfl) (by kernel_rfl) (fun _ _ _ h => h) (Or.inl ⟨by rfl, ?_⟩) hHeld ?_
              rotate_left
              · intro w hSw
                obtain ⟨hSw1, hSw2, hSw3⟩ := hSw
                go_simp
                with_reducible rfl
              try go_frame
              refine wpAnyH_take (i := 4) (oi := ⟨some 187, _, _, _, _, _⟩) (v := ?_) rfl (by kernel_rfl) (by kernel_rfl) (by kernel_rfl) (fun _ _ _ h => h) (Or.inl ⟨by rfl, ?_⟩) hHeld ?_
              rotate_left
              · intro w hSw
                obtain ⟨hSw1, hSw2, hSw3⟩ := hSw
                go_simp
                with_reducible rfl
              try go_frame
              refine wpAnyH_take (i := 5) (oi := ⟨some 188, _, _, _, _, _⟩) (v := ?_) rfl (by kernel_rfl) (by kernel_rfl) (by kernel_rfl) (fun _ _ _ h => h) (Or.inl ⟨by rfl, ?_⟩) hHeld ?_
              rotate_left
              · intro w hSw
                obtain ⟨hSw1, hSw2, hSw3⟩ := hSw
                go_simp
                with_reducible rfl
              try go_frame
              refine wpAnyH_take (i := 6) (oi := ⟨some 189, _, _, _, _, _⟩) (v := ?_) rfl (by kernel_rfl) (by kernel_rfl) (by kernel_rfl) (fun _ _ _ h => h) (Or.inl ⟨by rfl, ?_⟩) hHeld ?_
              rotate_left
              · intro w hSw
                obtain ⟨hSw1, hSw2, hSw3⟩ := hSw
                go_simp
                with_reducible rfl
              try go_frame
              refine wpAnyH_take (i := 8) (oi := ⟨some 191, _, _, _, _, _⟩) (v := ?_) rfl (by kernel_rfl) (by kernel_rfl) (by kernel_rfl) (fun _ _ _ h => h) (Or.inl ⟨by rfl, ?_⟩) hHeld ?_
              rotate_left
              · intro w hSw
                obtain ⟨hSw1, hSw2, hSw3⟩ := hSw
                go_simp
                with_reducible rfl
              try go_frame
              refine wpAnyH_take (i := 9) (oi := ⟨some 192, _, _, _, _, _⟩) (v := ?_) rfl (by kernel_rfl) (by kernel_rfl) (by kernel_rfl) (fun _ _ _ h => h) (Or.inl ⟨by rfl, ?_⟩) hHeld ?_
              rotate_left
              · intro w hSw
                obtain ⟨hSw1, hSw2, hSw3⟩ := hSw
                go_simp
                with_reducible rfl
              try go_frame
              refine wpAnyH_take (i := 10) (oi := ⟨some 193, _, _, _, _, _⟩) (v := ?_) rfl (by kernel_rfl) (by kernel_rfl) (by kernel_rfl) (fun _ _ _ h => h) (Or.inl ⟨by rfl, ?_⟩) hHeld ?_
              rotate_left
              · intro w hSw
                obtain ⟨hSw1, hSw2, hSw3⟩ := hSw
                go_simp
                with_reducible rfl
              try go_frame
              refine wpAnyH_take (i := 11) (oi := ⟨some 194, _, _, _, _, _⟩) (v := ?_) rfl (by kernel_rfl) (by kernel_rfl) (by kernel_rfl) (fun _ _ _ h => h) (Or.inl ⟨by rfl, ?_⟩) hHeld ?_
              rotate_left
              · intro w hSw
                obtain ⟨hSw1, hSw2, hSw3⟩ := hSw
                go_simp
                with_reducible rfl
              try go_frame
              refine wpAnyH_take (i := 12) (oi := ⟨some 195, _, _, _, _, _⟩) (v := ?_) rfl (by kernel_rfl) (by kernel_rfl) (by kernel_rfl) (fun _ _ _ h => h) (Or.inl ⟨by rfl, ?_⟩) hHeld ?_
              rotate_left
              · intro w hSw
                obtain ⟨hSw1, hSw2, hSw3⟩ := hSw
                go_simp
                with_reducible rfl
              try go_frame
              refine wpAnyH_take (i := 13) (oi := ⟨some 196, _, _, _, _, _⟩) (v := ?_) rfl (by kernel_rfl) (by kernel_rfl) (by kernel_rfl) (fun _ _ _ h => h) (Or.inl ⟨by rfl, ?_⟩) hHeld ?_
              rotate_left
              · intro w hSw
                obtain ⟨hSw1, hSw2, hSw3⟩ := hSw
                go_simp
                with_reducible rfl
              try go_frame
              refine wpAnyH_take (i := 14) (oi := ⟨some 197, _, _, _, _, _⟩) (v := ?_) rfl (by kernel_rfl) (by kernel_rfl) (by kernel_rfl) (fun _ _ _ h => h) (Or.inl ⟨by rfl, ?_⟩) hHeld ?_
              rotate_left
              · intro w hSw
                obtain ⟨hSw1, hSw2, hSw3⟩ := hSw
                go_simp
                with_reducible rfl
              try go_frame
              refine wpAnyH_ready (rs := [7]) (by kernel_rfl) (by simp) ?_
              refine AllReadyH.cons (o := ⟨some 190, _, _, _, _, _⟩) rfl (fun K hK => ?_) AllReadyH.nil
              go_simp
              refine HC1.out.mono ?_
              rintro e w6 ⟨rfl, hB6, hC6⟩
              have hx6 : Here w6 r 0 [.int .i64 dw, .int .i64 di, .int .i64 dk, .int .u8 dx.toNat, .slice Ab nb cb, .slice Ak nk ck] := HX1.out.chg hC6 fun j _ hs => hs.2 rfl
              have hS2 : (fun W => W.cell? ⟨r, 1, none⟩ = some (.int .i64 di) ∧ W.cell? ⟨r, 2, none⟩ = some (.int .i64 dk) ∧ W.cell? ⟨r, 3, none⟩ = some (.int .u8 dx.toNat)) w6 := ⟨(hx6).head (j := 1) rfl, (hx6).head (j := 2) rfl, (hx6).head (j := 3) rfl⟩
              have HC3 := Lib.hid (HC2.out w6 hB6)
              clear hB6 hC6
              refine hK.out _ _ (hS2) (fun hHeld => ?_)
              clear hK K
              try go_frame
              refine wpAnyH_ready (rs := [15]) (by kernel_rfl) (by simp) ?_
              refine AllReadyH.cons (o := ⟨some 198, _, _, _, _, _⟩) rfl (fun K hK => ?_) AllReadyH.nil
              go_simp
              refine HC3.out.mono ?_
              rintro e w7 ⟨rfl, hB7, hC7⟩
              have hx7 : Here w7 r 0 [.int .i64 dw, .int .i64 di, .int .i64 dk, .int .u8 dx.toNat, .slice Ab nb cb, .slice Ak nk ck] := hx6.chg hC7 fun j _ hs => hs.2 rfl
              have hS3 : (fun W => W.cell? ⟨r, 1, none⟩ = some (.int .i64 di) ∧ W.cell? ⟨r, 2, none⟩ = some (.int .i64 dk) ∧ W.cell? ⟨r, 3, none⟩ = some (.int .u8 dx.toNat)) w7 := ⟨(hx7).head (j := 1) rfl, (hx7).head (j := 2) rfl, (hx7).head (j := 3) rfl⟩
              have HE : Hid (Both w w7 (fun k => k = r) D M L' L' ∧ L'.length = n) := ⟨hB7, HLn.out⟩
              clear hB7 hC7 hx7
              refine hK.out _ _ (hS3) (fun hHeld => ?_)
              clear hK K
              try go_frame
              refine wpAnyH_take (i := 16) (oi := ⟨some 199, _, _, _, _, _⟩) (v := ?_) rfl (by kernel_rfl) (by kernel_rfl) (by kernel_rfl) (fun _ _ _ h => h) (Or.inl ⟨by rfl, ?_⟩) hHeld ?_
              rotate_left
              · intro w hSw
                skip
                go_simp
                with_reducible rfl
              try go_frame
              refine wpAnyH_take (i := 17) (oi := ⟨some 10, _, _, _, _, _⟩) (v := ?_) rfl (by kernel_rfl) (by kernel_rfl) (by kernel_rfl) (fun _ _ _ h => h) (Or.inl ⟨by rfl, ?_⟩) hHeld ?_
              rotate_left
              · intro w hSw
                skip
                go_simp
                with_reducible rfl
              try go_frame
              refine wpAnyH_done (by kernel_rfl) ?_ _
              clear hx6 hS1 hS2 hS3 hHeld HC1 HC2 HC3 HX1 HLn
              obtain ⟨F9, G9, hFD, hGR, -, -, -, -, -⟩ := HE.out.1
              have HD1 := Lib.hid (DDirty_any hFD)
              have HD2 : Hid (∀ w', Below w7.heap.size w7 w' → Calls Try.prog 24 #[.pointer (some ⟨M, 0, none⟩)] w' fun e w2 => e = .returned (.int .i64 (cnt L')) ∧ w2 = w') := fun w' hw' => RDDirty_any (hGR.below hw')
              clear hFD hGR
              generalize cnt L' = dirt at *
              go_wp2_with fail
              refine HD1.out.mono ?_
              rintro e wA ⟨rfl, hbA⟩
              have HEA : Hid (Both w wA (fun _ => False) D M L' L' ∧ L'.length = n) := ⟨(HE.out.1.stay hbA).less, HE.out.2⟩
              have HD3 := Lib.hid (HD2.out wA hbA)
              clear HE HD1 HD2 hbA
              go_wp2_with fail
              refine HD3.out.mono ?_
              rintro e wB ⟨rfl, rfl⟩
              clear HD3
              go_wp2
              go_roundw
              case rel => exact ⟨k + 1, _, by omega, by go_num, HEA⟩
              case measure => simp [intOf]; omega
          · clear hp7
            as_aux_lemma =>
              have HPk : Hid (Calls Try.prog 8 #[.int .i64 dw, .int .i64 7] w5 fun e w' => e = .returned (.int .i64 4) ∧ w' = w5) := by have := Dpick_any dw hlo hhi w5; rw [hp] at this; exact this
              clear hp hlo hhi
              go_wp2_with (refine wpList_load_mid rfl 33 (.tmp 68) rfl b0 (o0 + k * 6) rfl [.int .i64 dw, .int .i64 di, .int .i64 dk, .int .u8 dx.toNat, .slice Ab nb cb, .slice Ak nk ck] _ HRg.out Try.underlying33 rfl info33 ?_)
              rw [← HW5.out, ← Hr.out]
              clear HW5 Hr HRg
              refine HPk.out.mono ?_
              rintro e w5 ⟨rfl, rfl⟩
              clear HPk
              have HLn : Hid ((swapL L di dk).length = n) := by show _ = _; rw [swapL_length]; exact HB.out.2
              have hB1 := HB.out.1.stay (below_drewN (Below.refl _ w5) 1)
              have hx1 : Here w5.drew r 0 [.int .i64 dw, .int .i64 di, .int .i64 dk, .int .u8 dx.toNat, .slice Ab nb cb, .slice Ak nk ck] := HX.out
              have HC1 := Lib.hid (hB1.disk (f := 16) (args := #[.pointer (some ⟨D, 0, none⟩), .int .i64 di, .int .i64 dk]) (Q := fun e => e = .returned (.bool (okS L di dk))) (Ld' := swapL L di dk) (P := Try.prog) fun F hF _ => DSwap_any hF di dk)
              have HC2 : Hid (∀ w', Both w w' (fun k => k = r) D M (swapL L di dk) L → Calls Try.prog 17 #[.pointer (some ⟨M, 0, none⟩), .int .i64 di, .int .i64 dk] w' fun e w2 => e = .returned (.bool (okS L di dk)) ∧ Both w w2 (fun k => k = r) D M (swapL L di dk) (swapL L di dk) ∧ Chg (Frm w (fun k => k = r)) w' w2) := fun w' hw' => hw'.ref (Q := fun e => e = .returned (.bool (okS L di dk))) fun G hG _ => RDSwap_any hG di dk
              have hS1 : (fun W => W.cell? ⟨r, 1, none⟩ = some (.int .i64 di) ∧ W.cell? ⟨r, 2, none⟩ = some (.int .i64 dk)) w5.drew := ⟨(hx1).head (j := 1) rfl, (hx1).head (j := 2) rfl⟩
              have HX1 := Lib.hid hx1
              generalize okS L di dk = ok at *
              generalize swapL L di dk = L' at *
              clear hB1 hx1 HB HX
              go_wp2
              refine wp_region_held_drew (S := (fun W => W.cell? ⟨r, 1, none⟩ = some (.int .i64 di) ∧ W.cell? ⟨r, 2, none⟩ = some (.int .i64 dk))) (by kernel_rfl) (hS1) (fun hHeld => ?_)
              refine wpAnyH_take (i := 0) (oi := ⟨some 202, _, _, _, _, _⟩) (v := ?_) rfl (by kernel_rfl) (by kernel_rfl) (by kernel_rfl) (fun _ _ _ h => h) (Or.inl ⟨by rfl, ?_⟩) hHeld ?_
              rotate_left
              · intro w hSw
                obtain ⟨hSw1, hSw2⟩ := hSw
                go_simp
                with_reducible rfl
              try go_frame
              refine wpAnyH_take (i := 1) (oi := ⟨some 203, _, _, _, _, _⟩) (v := ?_) rfl (by kernel_rfl) (by kernel_rfl) (by kernel_rfl) (fun _ _ _ h => h) (Or.inl ⟨by rfl, ?_⟩) hHeld ?_
              rotate_left
              · intro w hSw
                obtain ⟨hSw1, hSw2⟩ := hSw
                go_simp
                with_reducible rfl
              try go_frame
              refine wpAnyH_take (i := 2) (oi := ⟨some 204, _, _, _, _, _⟩) (v := ?_) rfl (by kernel_rfl) (by kernel_rfl) (by kernel_rfl) (fun _ _ _ h => h) (Or.inl ⟨by rfl, ?_⟩) hHeld ?_
              rotate_left
              · intro w hSw
                obtain ⟨hSw1, hSw2⟩ := hSw
                go_simp
                with_reducible rfl
              try go_frame
              refine wpAnyH_take (i := 3) (oi := ⟨some 205, _, _, _, _, _⟩) (v := ?_) rfl (by kernel_rfl) (by kernel_rfl) (by kernel_rfl) (fun _ _ _ h => h) (Or.inl ⟨by rfl, ?_⟩) hHeld ?_
              rotate_left
              · intro w hSw
                obtain ⟨hSw1, hSw2⟩ := hSw
                go_simp
                with_reducible rfl
              try go_frame
              refine wpAnyH_take (i := 4) (oi := ⟨some 206, _, _, _, _, _⟩) (v := ?_) rfl (by kernel_rfl) (by kernel_rfl) (by kernel_rfl) (fun _ _ _ h => h) (Or.inl ⟨by rfl, ?_⟩) hHeld ?_
              rotate_left
              · intro w hSw
                obtain ⟨hSw1, hSw2⟩ := hSw
                go_simp
                with_reducible rfl
              try go_frame
              refine wpAnyH_take (i := 6) (oi := ⟨some 208, _, _, _, _, _⟩) (v := ?_) rfl (by kernel_rfl) (by kernel_rfl) (by kernel_rfl) (fun _ _ _ h => h) (Or.inl ⟨by rfl, ?_⟩) hHeld ?_
              rotate_left
              · intro w hSw
                obtain ⟨hSw1, hSw2⟩ := hSw
                go_simp
                with_reducible rfl
              try go_frame
              refine wpAnyH_take (i := 7) (oi := ⟨some 209, _, _, _, _, _⟩) (v := ?_) rfl (by kernel_rfl) (by kernel_rfl) (by kernel_rfl) (fun _ _ _ h => h) (Or.inl ⟨by rfl, ?_⟩) hHeld ?_
              rotate_left
              · intro w hSw
                obtain ⟨hSw1, hSw2⟩ := hSw
                go_simp
                with_reducible rfl
              try go_frame
              refine wpAnyH_take (i := 8) (oi := ⟨some 210, _, _, _, _, _⟩) (v := ?_) rfl (by kernel_rfl) (by kernel_rfl) (by kernel_rfl) (fun _ _ _ h => h) (Or.inl ⟨by rfl, ?_⟩) hHeld ?_
              rotate_left
              · intro w hSw
                obtain ⟨hSw1, hSw2⟩ := hSw
                go_simp
                with_reducible rfl
              try go_frame
              refine wpAnyH_take (i := 9) (oi := ⟨some 211, _, _, _, _, _⟩) (v := ?_) rfl (by kernel_rfl) (by kernel_rfl) (by kernel_rfl) (fun _ _ _ h => h) (Or.inl ⟨by rfl, ?_⟩) hHeld ?_
              rotate_left
              · intro w hSw
                obtain ⟨hSw1, hSw2⟩ := hSw
                go_simp
                with_reducible rfl
              try go_frame
              refine wpAnyH_take (i := 10) (oi := ⟨some 212, _, _, _, _, _⟩) (v := ?_) rfl (by kernel_rfl) (by kernel_rfl) (by kernel_rfl) (fun _ _ _ h => h) (Or.inl ⟨by rfl, ?_⟩) hHeld ?_
              rotate_left
              · intro w hSw
                obtain ⟨hSw1, hSw2⟩ := hSw
                go_simp
                with_reducible rfl
              try go_frame
              refine wpAnyH_ready (rs := [5]) (by kernel_rfl) (by simp) ?_
              refine AllReadyH.cons (o := ⟨some 207, _, _, _, _, _⟩) rfl (fun K hK => ?_) AllReadyH.nil
              go_simp
              refine HC1.out.mono ?_
              rintro e w6 ⟨rfl, hB6, hC6⟩
              have hx6 : Here w6 r 0 [.int .i64 dw, .int .i64 di, .int .i64 dk, .int .u8 dx.toNat, .slice Ab nb cb, .slice Ak nk ck] := HX1.out.chg hC6 fun j _ hs => hs.2 rfl
              have hS2 : (fun W => W.cell? ⟨r, 1, none⟩ = some (.int .i64 di) ∧ W.cell? ⟨r, 2, none⟩ = some (.int .i64 dk)) w6 := ⟨(hx6).head (j := 1) rfl, (hx6).head (j := 2) rfl⟩
              have HC3 := Lib.hid (HC2.out w6 hB6)
              clear hB6 hC6
              refine hK.out _ _ (hS2) (fun hHeld => ?_)
              clear hK K
              try go_frame
              refine wpAnyH_ready (rs := [11]) (by kernel_rfl) (by simp) ?_
              refine AllReadyH.cons (o := ⟨some 213, _, _, _, _, _⟩) rfl (fun K hK => ?_) AllReadyH.nil
              go_simp
              refine HC3.out.mono ?_
              rintro e w7 ⟨rfl, hB7, hC7⟩
              have hx7 : Here w7 r 0 [.int .i64 dw, .int .i64 di, .int .i64 dk, .int .u8 dx.toNat, .slice Ab nb cb, .slice Ak nk ck] := hx6.chg hC7 fun j _ hs => hs.2 rfl
              have hS3 : (fun W => W.cell? ⟨r, 1, none⟩ = some (.int .i64 di) ∧ W.cell? ⟨r, 2, none⟩ = some (.int .i64 dk)) w7 := ⟨(hx7).head (j := 1) rfl, (hx7).head (j := 2) rfl⟩
              have HE : Hid (Both w w7 (fun k => k = r) D M L' L' ∧ L'.length = n) := ⟨hB7, HLn.out⟩
              clear hB7 hC7 hx7
              refine hK.out _ _ (hS3) (fun hHeld => ?_)
              clear hK K
              try go_frame
              refine wpAnyH_take (i := 12) (oi := ⟨some 214, _, _, _, _, _⟩) (v := ?_) rfl (by kernel_rfl) (by kernel_rfl) (by kernel_rfl) (fun _ _ _ h => h) (Or.inl ⟨by rfl, ?_⟩) hHeld ?_
              rotate_left
              · intro w hSw
                skip
                go_simp
                with_reducible rfl
              try go_frame
              refine wpAnyH_take (i := 13) (oi := ⟨some 10, _, _, _, _, _⟩) (v := ?_) rfl (by kernel_rfl) (by kernel_rfl) (by kernel_rfl) (fun _ _ _ h => h) (Or.inl ⟨by rfl, ?_⟩) hHeld ?_
              rotate_left
              · intro w hSw
                skip
                go_simp
                with_reducible rfl
              try go_frame
              refine wpAnyH_done (by kernel_rfl) ?_ _
              clear hx6 hS1 hS2 hS3 hHeld HC1 HC2 HC3 HX1 HLn
              obtain ⟨F9, G9, hFD, hGR, -, -, -, -, -⟩ := HE.out.1
              have HD1 := Lib.hid (DDirty_any hFD)
              have HD2 : Hid (∀ w', Below w7.heap.size w7 w' → Calls Try.prog 24 #[.pointer (some ⟨M, 0, none⟩)] w' fun e w2 => e = .returned (.int .i64 (cnt L')) ∧ w2 = w') := fun w' hw' => RDDirty_any (hGR.below hw')
              clear hFD hGR
              generalize cnt L' = dirt at *
              go_wp2_with fail
              refine HD1.out.mono ?_
              rintro e wA ⟨rfl, hbA⟩
              have HEA : Hid (Both w wA (fun _ => False) D M L' L' ∧ L'.length = n) := ⟨(HE.out.1.stay hbA).less, HE.out.2⟩
              have HD3 := Lib.hid (HD2.out wA hbA)
              clear HE HD1 HD2 hbA
              go_wp2_with fail
              refine HD3.out.mono ?_
              rintro e wB ⟨rfl, rfl⟩
              clear HD3
              go_wp2
              go_roundw
              case rel => exact ⟨k + 1, _, by omega, by go_num, HEA⟩
              case measure => simp [intOf]; omega
          · clear hp7
            as_aux_lemma =>
              have HPk : Hid (Calls Try.prog 8 #[.int .i64 dw, .int .i64 7] w5 fun e w' => e = .returned (.int .i64 5) ∧ w' = w5) := by have := Dpick_any dw hlo hhi w5; rw [hp] at this; exact this
              clear hp hlo hhi
              go_wp2_with (refine wpList_load_mid rfl 33 (.tmp 68) rfl b0 (o0 + k * 6) rfl [.int .i64 dw, .int .i64 di, .int .i64 dk, .int .u8 dx.toNat, .slice Ab nb cb, .slice Ak nk ck] _ HRg.out Try.underlying33 rfl info33 ?_)
              rw [← HW5.out, ← Hr.out]
              clear HW5 Hr HRg
              refine HPk.out.mono ?_
              rintro e w5 ⟨rfl, rfl⟩
              clear HPk
              have HLn : Hid ((backL L di).length = n) := by show _ = _; rw [backL_length]; exact HB.out.2
              have hB1 := HB.out.1.stay (below_drewN (Below.refl _ w5) 1)
              have hx1 : Here w5.drew r 0 [.int .i64 dw, .int .i64 di, .int .i64 dk, .int .u8 dx.toNat, .slice Ab nb cb, .slice Ak nk ck] := HX.out
              have HC1 := Lib.hid (hB1.disk (f := 18) (args := #[.pointer (some ⟨D, 0, none⟩), .int .i64 di]) (Q := fun e => e = .returned (.bool (okB L di))) (Ld' := backL L di) (P := Try.prog) fun F hF _ => DBack_any hF di)
              have HC2 : Hid (∀ w', Both w w' (fun k => k = r) D M (backL L di) L → Calls Try.prog 19 #[.pointer (some ⟨M, 0, none⟩), .int .i64 di] w' fun e w2 => e = .returned (.bool (okB L di)) ∧ Both w w2 (fun k => k = r) D M (backL L di) (backL L di) ∧ Chg (Frm w (fun k => k = r)) w' w2) := fun w' hw' => hw'.ref (Q := fun e => e = .returned (.bool (okB L di))) fun G hG _ => RDBack_any hG di
              have hS1 : (fun W => W.cell? ⟨r, 1, none⟩ = some (.int .i64 di)) w5.drew := (hx1).head (j := 1) rfl
              have HX1 := Lib.hid hx1
              generalize okB L di = ok at *
              generalize backL L di = L' at *
              clear hB1 hx1 HB HX
              go_wp2
              refine wp_region_held_drew (S := (fun W => W.cell? ⟨r, 1, none⟩ = some (.int .i64 di))) (by kernel_rfl) (hS1) (fun hHeld => ?_)
              refine wpAnyH_take (i := 0) (oi := ⟨some 217, _, _, _, _, _⟩) (v := ?_) rfl (by kernel_rfl) (by kernel_rfl) (by kernel_rfl) (fun _ _ _ h => h) (Or.inl ⟨by rfl, ?_⟩) hHeld ?_
              rotate_left
              · intro w hSw
                skip
                go_simp
                with_reducible rfl
              try go_frame
              refine wpAnyH_take (i := 1) (oi := ⟨some 218, _, _, _, _, _⟩) (v := ?_) rfl (by kernel_rfl) (by kernel_rfl) (by kernel_rfl) (fun _ _ _ h => h) (Or.inl ⟨by rfl, ?_⟩) hHeld ?_
              rotate_left
              · intro w hSw
                skip
                go_simp
                with_reducible rfl
              try go_frame
              refine wpAnyH_take (i := 2) (oi := ⟨some 219, _, _, _, _, _⟩) (v := ?_) rfl (by kernel_rfl) (by kernel_rfl) (by kernel_rfl) (fun _ _ _ h => h) (Or.inl ⟨by rfl, ?_⟩) hHeld ?_
              rotate_left
              · intro w hSw
                skip
                go_simp
                with_reducible rfl
              try go_frame
              refine wpAnyH_take (i := 4) (oi := ⟨some 221, _, _, _, _, _⟩) (v := ?_) rfl (by kernel_rfl) (by kernel_rfl) (by kernel_rfl) (fun _ _ _ h => h) (Or.inl ⟨by rfl, ?_⟩) hHeld ?_
              rotate_left
              · intro w hSw
                skip
                go_simp
                with_reducible rfl
              try go_frame
              refine wpAnyH_take (i := 5) (oi := ⟨some 222, _, _, _, _, _⟩) (v := ?_) rfl (by kernel_rfl) (by kernel_rfl) (by kernel_rfl) (fun _ _ _ h => h) (Or.inl ⟨by rfl, ?_⟩) hHeld ?_
              rotate_left
              · intro w hSw
                skip
                go_simp
                with_reducible rfl
              try go_frame
              refine wpAnyH_take (i := 6) (oi := ⟨some 223, _, _, _, _, _⟩) (v := ?_) rfl (by kernel_rfl) (by kernel_rfl) (by kernel_rfl) (fun _ _ _ h => h) (Or.inl ⟨by rfl, ?_⟩) hHeld ?_
              rotate_left
              · intro w hSw
                skip
                go_simp
                with_reducible rfl
              try go_frame
              refine wpAnyH_ready (rs := [3]) (by kernel_rfl) (by simp) ?_
              refine AllReadyH.cons (o := ⟨some 220, _, _, _, _, _⟩) rfl (fun K hK => ?_) AllReadyH.nil
              go_simp
              refine HC1.out.mono ?_
              rintro e w6 ⟨rfl, hB6, hC6⟩
              have hx6 : Here w6 r 0 [.int .i64 dw, .int .i64 di, .int .i64 dk, .int .u8 dx.toNat, .slice Ab nb cb, .slice Ak nk ck] := HX1.out.chg hC6 fun j _ hs => hs.2 rfl
              have hS2 : (fun W => W.cell? ⟨r, 1, none⟩ = some (.int .i64 di)) w6 := (hx6).head (j := 1) rfl
              have HC3 := Lib.hid (HC2.out w6 hB6)
              clear hB6 hC6
              refine hK.out _ _ (hS2) (fun hHeld => ?_)
              clear hK K
              try go_frame
              refine wpAnyH_ready (rs := [7]) (by kernel_rfl) (by simp) ?_
              refine AllReadyH.cons (o := ⟨some 224, _, _, _, _, _⟩) rfl (fun K hK => ?_) AllReadyH.nil
              go_simp
              refine HC3.out.mono ?_
              rintro e w7 ⟨rfl, hB7, hC7⟩
              have hx7 : Here w7 r 0 [.int .i64 dw, .int .i64 di, .int .i64 dk, .int .u8 dx.toNat, .slice Ab nb cb, .slice Ak nk ck] := hx6.chg hC7 fun j _ hs => hs.2 rfl
              have hS3 : (fun W => W.cell? ⟨r, 1, none⟩ = some (.int .i64 di)) w7 := (hx7).head (j := 1) rfl
              have HE : Hid (Both w w7 (fun k => k = r) D M L' L' ∧ L'.length = n) := ⟨hB7, HLn.out⟩
              clear hB7 hC7 hx7
              refine hK.out _ _ (hS3) (fun hHeld => ?_)
              clear hK K
              try go_frame
              refine wpAnyH_take (i := 8) (oi := ⟨some 225, _, _, _, _, _⟩) (v := ?_) rfl (by kernel_rfl) (by kernel_rfl) (by kernel_rfl) (fun _ _ _ h => h) (Or.inl ⟨by rfl, ?_⟩) hHeld ?_
              rotate_left
              · intro w hSw
                skip
                go_simp
                with_reducible rfl
              try go_frame
              refine wpAnyH_take (i := 9) (oi := ⟨some 10, _, _, _, _, _⟩) (v := ?_) rfl (by kernel_rfl) (by kernel_rfl) (by kernel_rfl) (fun _ _ _ h => h) (Or.inl ⟨by rfl, ?_⟩) hHeld ?_
              rotate_left
              · intro w hSw
                skip
                go_simp
                with_reducible rfl
              try go_frame
              refine wpAnyH_done (by kernel_rfl) ?_ _
              clear hx6 hS1 hS2 hS3 hHeld HC1 HC2 HC3 HX1 HLn
              obtain ⟨F9, G9, hFD, hGR, -, -, -, -, -⟩ := HE.out.1
              have HD1 := Lib.hid (DDirty_any hFD)
              have HD2 : Hid (∀ w', Below w7.heap.size w7 w' → Calls Try.prog 24 #[.pointer (some ⟨M, 0, none⟩)] w' fun e w2 => e = .returned (.int .i64 (cnt L')) ∧ w2 = w') := fun w' hw' => RDDirty_any (hGR.below hw')
              clear hFD hGR
              generalize cnt L' = dirt at *
              go_wp2_with fail
              refine HD1.out.mono ?_
              rintro e wA ⟨rfl, hbA⟩
              have HEA : Hid (Both w wA (fun _ => False) D M L' L' ∧ L'.length = n) := ⟨(HE.out.1.stay hbA).less, HE.out.2⟩
              have HD3 := Lib.hid (HD2.out wA hbA)
              clear HE HD1 HD2 hbA
              go_wp2_with fail
              refine HD3.out.mono ?_
              rintro e wB ⟨rfl, rfl⟩
              clear HD3
              go_wp2
              go_roundw
              case rel => exact ⟨k + 1, _, by omega, by go_num, HEA⟩
              case measure => simp [intOf]; omega
          · clear hp7
            as_aux_lemma =>
              have HPk : Hid (Calls Try.prog 8 #[.int .i64 dw, .int .i64 7] w5 fun e w' => e = .returned (.int .i64 6) ∧ w' = w5) := by have := Dpick_any dw hlo hhi w5; rw [hp] at this; exact this
              clear hp hlo hhi
              go_wp2_with (refine wpList_load_mid rfl 33 (.tmp 68) rfl b0 (o0 + k * 6) rfl [.int .i64 dw, .int .i64 di, .int .i64 dk, .int .u8 dx.toNat, .slice Ab nb cb, .slice Ak nk ck] _ HRg.out Try.underlying33 rfl info33 ?_)
              rw [← HW5.out, ← Hr.out]
              clear HW5 Hr HRg
              refine HPk.out.mono ?_
              rintro e w5 ⟨rfl, rfl⟩
              clear HPk
              cases hg : getB L di with
              | none =>
                obtain ⟨F9, G9, hFD, hGR, -, -, -, -, -⟩ := HB.out.1
                have HR1 := Lib.hid (DRead_out hFD di hg)
                have hHas := RDHas_any hGR di
                have hok : okB L di = false := by rw [okB, hg]; rfl
                rw [hok] at hHas
                have HR2 := Lib.hid hHas
                have g1 := HX.out.head (j := 1) rfl
                have HE : Hid (Both w w5 (fun k => k = r) D M L L ∧ L.length = n) := HB.out
                clear hFD hGR hok hg HB hHas
                go_wp2_with fail
                refine HR1.out.mono ?_
                rintro e w5 ⟨rfl, rfl⟩
                clear HR1
                go_wp2_with fail
                refine HR2.out.mono ?_
                rintro e w5 ⟨rfl, rfl⟩
                clear HR2 g1 HX
                obtain ⟨F9, G9, hFD, hGR, -, -, -, -, -⟩ := HE.out.1
                have HD1 := Lib.hid (DDirty_any hFD)
                have HD2 : Hid (∀ w', Below w5.heap.size w5 w' → Calls Try.prog 24 #[.pointer (some ⟨M, 0, none⟩)] w' fun e w2 => e = .returned (.int .i64 (cnt L)) ∧ w2 = w') := fun w' hw' => RDDirty_any (hGR.below hw')
                clear hFD hGR
                generalize cnt L = dirt at *
                go_wp2_with fail
                refine HD1.out.mono ?_
                rintro e wA ⟨rfl, hbA⟩
                have HEA : Hid (Both w wA (fun _ => False) D M L L ∧ L.length = n) := ⟨(HE.out.1.stay hbA).less, HE.out.2⟩
                have HD3 := Lib.hid (HD2.out wA hbA)
                clear HE HD1 HD2 hbA
                go_wp2_with fail
                refine HD3.out.mono ?_
                rintro e wB ⟨rfl, rfl⟩
                clear HD3
                go_wp2
                go_roundw
                case rel => exact ⟨k + 1, _, by omega, by go_num, HEA⟩
                case measure => simp [intOf]; omega
              | some x =>
                obtain ⟨m, rfl, hx⟩ := getB_nat hg
                obtain ⟨F9, G9, hFD, hGR, -, -, -, -, -⟩ := HB.out.1
                have hxl : x.cur.length = 72 := (RefW.len_ok hGR hx).cur
                obtain ⟨q, hq⟩ : ∃ q, q = w5.heap.size := ⟨_, rfl⟩
                have HR1 : Hid (Calls Try.prog 20 #[.pointer (some ⟨D, 0, none⟩), .int .i64 m] w5 fun e w' => e = .returned (.tuple #[.slice (some ⟨q, 0, none⟩) 72 72, .int .i64 0]) ∧ Here w' q 0 (x.cur.map V8) ∧ Below w5.heap.size w5 w') := by rw [hq]; exact DRead_in hFD m x hg
                have HR2 : Hid (∀ w', Below w5.heap.size w5 w' → Calls Try.prog 21 #[.pointer (some ⟨M, 0, none⟩), .int .i64 m] w' fun e w2 => e = .returned (.bool true) ∧ w2 = w') := fun w' hw' => by
                  have := RDHas_any (hGR.below hw') m
                  rw [show okB L (m : Int) = true from by rw [okB, hg]; rfl] at this
                  exact this
                have HR3 : Hid (∀ w', Below w5.heap.size w5 w' → Calls Try.prog 22 #[.pointer (some ⟨M, 0, none⟩), .int .i64 m] w'.drew fun e w2 => e = .returned (.string (strB x.cur)) ∧ w2 = w'.drew) := fun w' hw' => RDRead_any (hGR.below hw') m x hx w'.drew rfl
                have g1 := HX.out.head (j := 1) rfl
                clear hFD hGR
                go_wp2_with fail
                refine HR1.out.mono ?_
                rintro e w6 ⟨rfl, hH6, hb6⟩
                have hq6 : q < w6.heap.size := hH6.lt (by rw [List.length_map, hxl]; omega)
                have HE6 : Hid (Both w w6 (fun k => k = r ∨ k = q) D M L L ∧ L.length = n) := ⟨HB.out.1.also hb6 _ (fun k hk => hk.elim .inl (fun e => .inr ⟨by omega, by omega⟩)), HB.out.2⟩
                have hx6 := HX.out.stay hb6
                have g61 := hx6.head (j := 1) rfl
                have HR4 := Lib.hid (HR2.out w6 hb6)
                have HR5 := Lib.hid (HR3.out w6 hb6)
                have hcv : (convert 30 9 (.slice (some ⟨q, 0, none⟩) 72 72)).run Try.prog w6.drew = .ok (.string (strB x.cur)) w6.drew := conv_arg (w := w6.drew) (.inr ⟨q, 0, 72, by rw [hxl], hq6, by omega, hH6.sees⟩)
                have HHc : Hid (Here w6.drew q 0 (x.cur.map V8)) := hH6
                have HqW : Hid (w.heap.size ≤ q) := by show _ ≤ _; rw [hq]; exact HB.out.1.below.size
                have Hxl := Lib.hid hxl
                obtain ⟨c0, hc0⟩ : ∃ c0, c0 = x.cur := ⟨_, rfl⟩
                rw [← hc0] at HHc Hxl
                generalize strB x.cur = s at *
                clear hH6 hb6 HB HX HR1 HR2 HR3 g1 hq hg hc0 hxl hx6 hx hq6
                go_wp2_with fail
                refine HR4.out.mono ?_
                rintro e w6 ⟨rfl, rfl⟩
                clear HR4
                go_wp2
                refine wp_region_still_tail 11 (by kernel_rfl) (by kernel_rfl) ?_
                simp only [List.take_succ_cons, List.take_zero, List.drop_succ_cons, List.drop_zero]
                repeat (first
                  | still_step
                  | (refine wpStill_step (fun K hK => ?_); go_simp; (with_reducible refine ⟨_, HR5.out, hK _ ?_⟩); clear hK K))
                refine wpStill_nil ?_
                change wpList _ _ _ _ _ w6.drew
                go_wp2
                clear hcv HR5 g61
                go_loopw [16] (fun kk wr => ∃ (j : Nat) (cs : List UInt8), j ≤ 72 ∧ kk = .int .i64 j ∧ Hid (Both w wr (fun k => k = r ∨ k = q) D M L L ∧ cs.length = 72 ∧ Here wr q 0 (cs.map V8))) (fun kk _ => 72 - (intOf kk).toNat)
                case atStart => exact ⟨0, c0, by omega, rfl, HE6.out.1.stay (below_drewN (Below.refl _ _) 1), Hxl.out, HHc.out⟩
                case round =>
                  obtain ⟨j, cs, hj, rfl, HI⟩ := hrel
                  clear HHc Hxl
                  by_cases hlt2 : j < 72
                  · have hat : (cs.map V8)[j]? = some (.int .u8 (cs.getD j 0).toNat) := by
                      rw [List.getElem?_map, List.getElem?_eq_getElem (by rw [HI.out.2.1]; omega), List.getD_eq_getElem?_getD, List.getElem?_eq_getElem (by rw [HI.out.2.1]; omega)]; rfl
                    have hc := HI.out.2.2.head hat
                    have hf := HI.out.2.2.headFree (j := j) (by rw [List.length_map, HI.out.2.1]; exact hlt2)
                    have hjl : (j : Int) < 72 := by omega
                    have HE7 : Hid (Both w (wr.setCell ⟨q, j, none⟩ (.int .u8 ((((cs.getD j 0).toNat : Int) + 1) % 256))) (fun k => k = r ∨ k = q) D M L L ∧ (cs.set j (UInt8.ofNat ((cs.getD j 0).toNat + 1))).length = 72 ∧ Here (wr.setCell ⟨q, j, none⟩ (.int .u8 ((((cs.getD j 0).toNat : Int) + 1) % 256))) q 0 ((cs.set j (UInt8.ofNat ((cs.getD j 0).toNat + 1))).map V8)) := by
                      refine ⟨HI.out.1.chg (S := fun k _ => k = q) ((Chg.refl _ wr).setCell rfl (fun _ => rfl) (by rw [hc]; rfl) _) (fun k o _ hs => ⟨.inr hs, by rw [hs]; exact HqW.out⟩), by rw [List.length_set]; exact HI.out.2.1, ?_⟩
                      have := HI.out.2.2.put j (by rw [List.length_map, HI.out.2.1]; exact hlt2) (V8 (UInt8.ofNat ((cs.getD j 0).toNat + 1)))
                      rw [Nat.zero_add, ← List.map_set, ← inc_byte] at this
                      exact this
                    generalize cs.set j (UInt8.ofNat ((cs.getD j 0).toNat + 1)) = cs' at *
                    generalize (cs.getD j 0).toNat = y at *
                    clear hat HI
                    go_wp2
                    go_roundw
                    case rel => exact ⟨j + 1, cs', by omega, by go_num, HE7⟩
                    case measure => simp [intOf]; omega
                  · obtain rfl : j = 72 := by omega
                    rw [show ((72 : Nat) : Int) = 72 from rfl]
                    have HE : Hid (Both w wr (fun k => k = r ∨ k = q) D M L L ∧ L.length = n) := ⟨HI.out.1, HE6.out.2⟩
                    clear HI HE6
                    obtain ⟨F9, G9, hFD, hGR, -, -, -, -, -⟩ := HE.out.1
                    have HD1 := Lib.hid (DDirty_any hFD)
                    have HD2 : Hid (∀ w', Below wr.heap.size wr w' → Calls Try.prog 24 #[.pointer (some ⟨M, 0, none⟩)] w' fun e w2 => e = .returned (.int .i64 (cnt L)) ∧ w2 = w') := fun w' hw' => RDDirty_any (hGR.below hw')
                    clear hFD hGR
                    generalize cnt L = dirt at *
                    go_wp2_with fail
                    refine HD1.out.mono ?_
                    rintro e wA ⟨rfl, hbA⟩
                    have HEA : Hid (Both w wA (fun _ => False) D M L L ∧ L.length = n) := ⟨(HE.out.1.stay hbA).less, HE.out.2⟩
                    have HD3 := Lib.hid (HD2.out wA hbA)
                    clear HE HD1 HD2 hbA
                    go_wp2_with fail
                    refine HD3.out.mono ?_
                    rintro e wB ⟨rfl, rfl⟩
                    clear HD3
                    go_wp2
                    go_roundw
                    case rel => exact ⟨k + 1, _, by omega, by go_num, HEA⟩
                    case measure => simp [intOf]; omega
    · obtain rfl : k = n1 := by omega
      as_aux_lemma =>
        have HLn : Hid (L.length = n) := HB2.out.2
        have HB3 : Hid (Both w wr (fun _ => False) D M L L) := HB2.out.1
        clear HB2 HDb
        go_wp2
        go_loopw [17] (fun i wr => ∃ j : Nat, j ≤ n ∧ i = .int .i64 j ∧ Hid (Both w wr (fun _ => False) D M L L)) (fun i _ => n - (intOf i).toNat)
        case atStart => exact ⟨0, by omega, rfl, HB3⟩
        case round =>
          obtain ⟨j, hj, rfl, HB5⟩ := hrel
          clear HB3
          by_cases hlt : j < n
          · obtain ⟨x, hx⟩ : ∃ x, L[j]? = some x := ⟨_, List.getElem?_eq_getElem (by rw [HLn.out]; exact hlt)⟩
            obtain ⟨F9, G9, hFD, hGR, -, -, -, -, -⟩ := HB5.out
            have hxl : x.cur.length = 72 := (RefW.len_ok hGR hx).cur
            obtain ⟨q, hq⟩ : ∃ q, q = wr.heap.size := ⟨_, rfl⟩
            have HR1 : Hid (Calls Try.prog 20 #[.pointer (some ⟨D, 0, none⟩), .int .i64 j] wr fun e w' => e = .returned (.tuple #[.slice (some ⟨q, 0, none⟩) 72 72, .int .i64 0]) ∧ Here w' q 0 (x.cur.map V8) ∧ Below wr.heap.size wr w') := by rw [hq]; exact DRead_in hFD j x (by rw [getB_ofNat]; exact hx)
            have HR3 : Hid (∀ w', Below wr.heap.size wr w' → Calls Try.prog 22 #[.pointer (some ⟨M, 0, none⟩), .int .i64 j] w'.drew fun e w2 => e = .returned (.string (strB x.cur)) ∧ w2 = w'.drew) := fun w' hw' => RDRead_any (hGR.below hw') j x hx w'.drew rfl
            clear hFD hGR
            go_wp2_with fail
            refine HR1.out.mono ?_
            rintro e w6 ⟨rfl, hH6, hb6⟩
            have hq6 : q < w6.heap.size := hH6.lt (by rw [List.length_map, hxl]; omega)
            have HR5 := Lib.hid (HR3.out w6 hb6)
            have hcv : (convert 30 9 (.slice (some ⟨q, 0, none⟩) 72 72)).run Try.prog w6.drew = .ok (.string (strB x.cur)) w6.drew := conv_arg (w := w6.drew) (.inr ⟨q, 0, 72, by rw [hxl], hq6, by omega, hH6.sees⟩)
            have HE : Hid (Both w w6.drew (fun _ => False) D M L L) := (HB5.out.stay hb6).stay (below_drewN (Below.refl _ _) 1)
            generalize strB x.cur = s at *
            clear hH6 hb6 HR1 HR3 hq hxl hx hq6 HB5
            go_wp2
            refine wp_region_still_tail 9 (by kernel_rfl) (by kernel_rfl) ?_
            simp only [List.take_succ_cons, List.take_zero, List.drop_succ_cons, List.drop_zero]
            repeat (first
              | still_step
              | (refine wpStill_step (fun K hK => ?_); go_simp; (with_reducible refine ⟨_, HR5.out, hK _ ?_⟩); clear hK K))
            refine wpStill_nil ?_
            change wpList _ _ _ _ _ w6.drew
            go_wp2
            go_roundw
            case rel => exact ⟨j + 1, by omega, by go_num, HE⟩
            case measure => simp [intOf]; omega
          · obtain rfl : j = n := by omega
            have HBw : Hid (Below w.heap.size w wr) := HB5.out.below
            obtain ⟨F9, G9, ⟨g9, ps9, hFD⟩, -, -, -, -, -, -⟩ := HB5.out
            have hBl := DBlocks_any hFD
            rw [HLn.out] at hBl
            have HBl := Lib.hid hBl
            clear hFD hBl HB5
            go_wp2_with fail
            refine HBl.out.mono ?_
            rintro e w7 ⟨rfl, rfl⟩
            clear HBl
            go_wp2_with fail
            refine (Dknows_any w7).mono ?_
            rintro e w8 ⟨rfl, hb8⟩
            have HB7 : Hid (Below w.heap.size w w8) := HBw.out.trans (hb8.mono HBw.out.size)
            clear hb8 HBw
            go_wp2
            go_ret
            exact ⟨rfl, HB7.out⟩
end Go.Proofs.Ytkghppobefllkaa
