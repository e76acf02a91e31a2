/-
  THE WALK of the law's fresh.
-/
import Derived.Test.YtiafmghdiidniaaLK
namespace Go.Proofs.Ytiafmghdiidniaa
open Go.RowKit Cdc Inn Fil

set_option maxRecDepth 100000 in
set_option maxHeartbeats 2000000 in
theorem FiFresh_any {C : Stor} (X : FileC C) {w0 w : World} {Y : Nat → Prop} {m : Nat} (g : Geo) (hg : gmay g = true) (hS : Sto C w0 w Y m (freshB g)) :
    Calls Try.prog 23 #[.pointer (some ⟨m, 0, none⟩), .agg #[.int .i64 g.n, .int .i64 g.k]] w fun e w' => e = .returned (.bool true) ∧ Below w.heap.size w w' := by
  obtain ⟨gn, gk⟩ := g
  obtain ⟨g1, g2, -, -, -⟩ := gmay_iff.1 hg
  have hl := fresh_len hg
  simp only at g1 g2 hl
  obtain ⟨n, rfl⟩ : ∃ n : Nat, gn = n := ⟨gn.toNat, by omega⟩
  simp only
  have HL : Hid ((freshB ⟨n, gk⟩).length = n) := by show _ = _; omega
  have hn8 : n ≤ 128 := by omega
  obtain ⟨w1, hw1⟩ : ∃ W, W = w.alloc (.cells #[.int .i64 n, .int .i64 gk] 23) := ⟨_, rfl⟩
  have HR1 : Hid (Row w1 w.heap.size 23 [.int .i64 n, .int .i64 gk]) := by rw [hw1]; exact Row.new w _ _
  have hb1 : Below w.heap.size w w1 := by rw [hw1]; exact (Below.refl _ _).alloc (Nat.le_refl _) _
  have HN := Lib.hid (Sto.make X w1 (Below.refl _ _) (fun k => False) (fun k hk => hk.elim) ⟨n, gk⟩ hg)
  have HS1 := Lib.hid (hS.stay X hb1)
  have HB1 := Lib.hid hb1
  clear hS hb1 hl g1 g2 hg
  generalize freshB ⟨n, gk⟩ = bl at *
  go_enter Try.func23, Try.ntmps23
  go_wp2_with fail
  rw [← hw1]
  clear hw1
  refine HN.out.mono ?_
  rintro e w2 ⟨o, rfl, hs2, hb2⟩
  have HR2 := Lib.hid (HR1.out.below hb2 HR1.out.lt)
  have HS2 := Lib.hid (HS1.out.stay X hb2)
  have HO2 := Lib.hid hs2
  have HB2 := Lib.hid (HB1.out.trans (hb2.mono HB1.out.size))
  clear hs2 hb2 HR1 HS1 HB1 HN
  go_wp2
  go_loopw [7] (fun i wr => ∃ k : Nat, k ≤ n ∧ i = .int .i64 k ∧ Hid (Row wr w.heap.size 23 [.int .i64 n, .int .i64 gk]) ∧ Hid (Sto C w0 wr Y m bl) ∧ Hid (Sto C w1 wr (fun _ => False) o bl) ∧ Hid (Below w.heap.size w wr)) (fun i _ => n - (intOf i).toNat)
  case atStart => exact ⟨0, by omega, rfl, HR2, HS2, HO2, HB2⟩
  case round =>
    clear HR2 HS2 HO2 HB2
    obtain ⟨k, hk, rfl, HR2, HS2, HO2, HB2⟩ := hrel
    have c0 := HR2.out.cell 0
    simp only [List.getElem?_cons_zero] at c0
    by_cases hlt : k < n
    · have HM := Lib.hid (HS2.out.mread X k (by rw [HL.out]; exact hlt))
      go_wp2_with fail
      refine HM.out.mono ?_
      rintro e w3 ⟨ra, rfl, HA, hb3⟩
      have HR3 := Lib.hid (HR2.out.below hb3 HR2.out.lt)
      have HS3 := Lib.hid (HS2.out.stay X hb3)
      have HO3 := Lib.hid (HO2.out.stay X hb3)
      have HB3 := Lib.hid (HB2.out.trans (hb3.mono HB2.out.size))
      have HM3 := Lib.hid (HO3.out.mread X k (by rw [HL.out]; exact hlt))
      clear HR2 HS2 HO2 HB2 hb3 HM c0
      go_wp2_with fail
      refine HM3.out.mono ?_
      rintro e w4 ⟨rb, rfl, HA2, hb4⟩
      have HR4 := Lib.hid (HR3.out.below hb4 HR3.out.lt)
      have HS4 := Lib.hid (HS3.out.stay X hb4)
      have HO4 := Lib.hid (HO3.out.stay X hb4)
      have HB4 := Lib.hid (HB3.out.trans (hb4.mono HB3.out.size))
      have cv1 := conv_arg (HA.out.below hb4).arg
      have cv2 := conv_arg HA2.out.arg
      clear HR3 HS3 HO3 HB3 hb4 HM3 HA HA2
      generalize blk bl k = x at *
      go_wp2
      go_roundw
      case rel => exact ⟨k + 1, by omega, by go_num, HR4, HS4, HO4, HB4⟩
      case measure => simp [intOf]; omega
    · obtain rfl : k = n := by omega
      go_wp2
      go_ret
      exact ⟨rfl, HB2.out⟩
end Go.Proofs.Ytiafmghdiidniaa
