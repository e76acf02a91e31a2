/-
  THE WALK of the law's knows.
-/
import Derived.Test.YtiafmghdiidniaaLJ
namespace Go.Proofs.Ytiafmghdiidniaa
open Go.RowKit Cdc Inn Fil

set_option maxRecDepth 100000 in
set_option maxHeartbeats 2000000 in
theorem Fiknows_any {C : Stor} (X : FileC C) (w : World) : Calls Try.prog 6 #[] w fun e w' => e = .returned (.bool true) ∧ Below w.heap.size w w' := by
  obtain ⟨w1, hw1⟩ : ∃ W, W = w.alloc (.cells #[.int .i64 8, .int .i64 2] 23) := ⟨_, rfl⟩
  have HR1 : Hid (Row w1 w.heap.size 23 [.int .i64 8, .int .i64 2]) := by rw [hw1]; exact Row.new w _ _
  have HB1 : Hid (Below w.heap.size w w1) := by rw [hw1]; exact (Below.refl _ _).alloc (Nat.le_refl _) _
  have HN := Lib.hid (Sto.make X w1 HB1.out (fun k => k = w.heap.size) (fun k hk => by rw [hk]; exact HR1.out.lt) ⟨8, 2⟩ g82)
  have HF1 : Hid (Files ⟨8, 2⟩ [empty 1] (freshB ⟨8, 2⟩) [[]]) := fresh_files g82 [1] (by simp)
  have HNil := Lib.hid fun W => X.leftNil ⟨8, 2⟩ W geo82
  go_enter Try.func6, Try.ntmps6
  go_wp2_with fail
  rw [← hw1]
  clear hw1
  refine HN.out.mono ?_
  rintro e w2 ⟨m, rfl, hs2, hb2⟩
  have HR2 := Lib.hid (HR1.out.below hb2 HR1.out.lt)
  have HS2 := Lib.hid hs2
  have c0 := HR2.out.cell 0
  have c1 := HR2.out.cell 1
  simp only [List.getElem?_cons_zero, List.getElem?_cons_succ] at c0 c1
  have HL2 := Lib.hid (hs2.left X ⟨8, 2⟩ geo82)
  clear hs2 hb2 HR1 HB1 HN
  go_wp2_with fail
  refine HL2.out.mono ?_
  rintro e w3 ⟨n3, h3, rfl, hd, hb⟩
  obtain ⟨rfl, rfl⟩ := hd.file _ _ g82 HF1.out
  rw [ex_left.1]
  have HR3 := Lib.hid (HR2.out.below hb HR2.out.lt)
  have HS3 := Lib.hid (HS2.out.stay X hb)
  have HZ3 := Lib.hid (HS3.out.resize X ⟨8, 2⟩ (empty 1) 257 geo82 (fits_empty 1 ⟨by decide, by decide⟩) i257)
  clear hd hb HL2 HR2 HS2 c0 c1
  have c0 := HR3.out.cell 0
  have c1 := HR3.out.cell 1
  simp only [List.getElem?_cons_zero, List.getElem?_cons_succ] at c0 c1
  go_wp2_with fail
  refine HZ3.out.mono ?_
  rintro e w4 ⟨⟨rk, rb, r0, r1, r2, r3, rd⟩, h4, bl4, rfl, hd, hs4, hc4⟩
  obtain ⟨rfl, -, hf4⟩ := hd.file _ 0 _ g82 HF1.out rfl
  rw [ex_left.2.1] at hd hf4 ⊢
  have HF4 := Lib.hid (hf4 rfl)
  obtain rfl : rb = 257 := hd.good rfl
  have hfit := hd.fits
  have HR4 := Lib.hid (HR3.out.chg hc4 fun o h => h.2 rfl)
  obtain ⟨w5, hw5⟩ : ∃ W, W = w4.alloc (.cells (inoC ⟨rk, 257, r0, r1, r2, r3, rd⟩) 40) := ⟨_, rfl⟩
  have hb5 : Below w4.heap.size w4 w5 := by rw [hw5]; exact (Below.refl _ _).alloc (Nat.le_refl _) _
  have HI5 : Hid (Row w5 w4.heap.size 40 ((Ino.mk rk 257 r0 r1 r2 r3 rd).l.map VI)) := by rw [hw5]; exact Row.new w4 _ _
  have HR5 := Lib.hid (HR4.out.below hb5 HR4.out.lt)
  have HS5 : Hid (Sto C w w5 (fun k => k = w.heap.size ∨ k = w4.heap.size) m bl4) := hs4.also X hb5 _ (fun k hk => hk.imp id fun e => ⟨by omega, by rw [e]; exact HI5.out.lt⟩)
  have HL5 := Lib.hid (HS5.out.left X ⟨8, 2⟩ geo82)
  clear c0 c1
  have c0 := HR4.out.cell 0
  have c1 := HR4.out.cell 1
  have lt4 := HR4.out.lt
  simp only [List.getElem?_cons_zero, List.getElem?_cons_succ] at c0 c1
  clear hd hs4 hc4 hf4 HZ3 HR3 HS3 HR4 hb5
  simp only [inoC] at hw5 ⊢
  go_wp2_with fail
  rw [← hw5]
  clear hw5 c0 c1 lt4
  refine HL5.out.mono ?_
  rintro e w6 ⟨n6, h6, rfl, hd, hb⟩
  obtain ⟨rfl, rfl⟩ := hd.file _ _ g82 HF4.out
  rw [ex_left.2.2.1]
  have HR6 := Lib.hid (HR5.out.below hb HR5.out.lt)
  have HI6 := Lib.hid (HI5.out.below hb HI5.out.lt)
  have HS6 := Lib.hid (HS5.out.stay X hb)
  have HZ6 := Lib.hid (HS6.out.resize X ⟨8, 2⟩ ⟨rk, 257, r0, r1, r2, r3, rd⟩ 321 geo82 hfit i321)
  clear hd hb HL5 HR5 HS5 HI5 hfit
  have c0 := HR6.out.cell 0
  have c1 := HR6.out.cell 1
  have d0 := HI6.out.cell 0
  have d1 := HI6.out.cell 1
  have d2 := HI6.out.cell 2
  have d3 := HI6.out.cell 3
  have d4 := HI6.out.cell 4
  have d5 := HI6.out.cell 5
  have d6 := HI6.out.cell 6
  simp only [List.getElem?_cons_zero, List.getElem?_cons_succ, Ino.l, List.map_cons, VI] at c0 c1 d0 d1 d2 d3 d4 d5 d6
  go_wp2_with fail
  refine HZ6.out.mono ?_
  rintro e w7 ⟨r7, h7, bl7, rfl, hd, hs7, hc7⟩
  obtain ⟨rfl, -, -⟩ := hd.file _ 0 _ g82 HF4.out rfl
  rw [ex_left.2.2.2] at hd ⊢
  obtain rfl := hd.bad (by decide)
  have HR7 := Lib.hid (HR6.out.chg hc7 fun o h => h.2 (.inl rfl))
  have HI7 := Lib.hid (HI6.out.chg hc7 fun o h => h.2 (.inr rfl))
  have HB7 := Lib.hid hs7.below
  clear c0 c1 d0 d1 d2 d3 d4 d5 d6 hd hs7 hc7 HZ6 HS6 HR6 HI6
  have c0 := HR7.out.cell 0
  have c1 := HR7.out.cell 1
  have lt7 := HR7.out.lt
  have ltI := HI7.out.lt
  have d1 := HI7.out.cell 1
  simp only [List.getElem?_cons_zero, List.getElem?_cons_succ, Ino.l, List.map_cons, VI] at c0 c1 d1
  obtain ⟨w8, hw8⟩ : ∃ W, W = w7.alloc (.cells (inoC zero) 40) := ⟨_, rfl⟩
  have hb8 : Below w7.heap.size w7 w8 := by rw [hw8]; exact (Below.refl _ _).alloc (Nat.le_refl _) _
  have HI8 := Lib.hid (HI7.out.below hb8 ltI)
  have HB8 := Lib.hid (HB7.out.trans (hb8.mono HB7.out.size))
  clear hb8
  simp only [inoC, zero] at hw8 ⊢
  go_wp2_with fail
  rw [← hw8]
  refine (HNil.out w8).mono ?_
  rintro e w9 ⟨n9, rfl, hb⟩
  have HB9 := Lib.hid (HB8.out.trans (hb.mono HB8.out.size))
  have e1 := (HI8.out.below hb HI8.out.lt).cell 1
  simp only [List.getElem?_cons_zero, List.getElem?_cons_succ, Ino.l, List.map_cons, VI] at e1
  clear c0 c1 d1 lt7 ltI hw8 hb HB8 HI8 HNil HB7 HR7 HI7
  go_wp2
  go_ret
  exact ⟨rfl, HB9.out⟩
end Go.Proofs.Ytiafmghdiidniaa
