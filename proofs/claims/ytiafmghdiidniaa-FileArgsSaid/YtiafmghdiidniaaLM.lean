/-
  THE WALK of the law FileArgs, over the contracts.
-/
import Derived.Test.YtiafmghdiidniaaLL
import Derived.Lib.SlBytesConst
namespace Go.Proofs.Ytiafmghdiidniaa
open Go.RowKit Cdc Inn Fil

/-- What lies while FileArgs looks. -/
structure FaW (C : Stor) (w W : World) (g : Geo) (x : Ino) (m : Nat) (bl : List (List UInt8)) : Prop where
  geo : Row W w.heap.size 23 [.int .i64 g.n, .int .i64 g.k]
  ino : Row W (w.heap.size + 1) 40 [.int .i64 x.k, .int .i64 x.b, .int .i64 x.b0, .int .i64 x.b1, .int .i64 x.b2, .int .i64 x.b3, .int .i64 x.d]
  own : Row W (w.heap.size + 1 + 1) 23 [.int .i64 20, .int .i64 8]
  sto : Sto C w W (fun k => w.heap.size ≤ k ∧ k < w.heap.size + 3) m bl
section
variable {C : Stor} {w W W' : World} {g : Geo} {x : Ino} {m : Nat} {bl bl' : List (List UInt8)}
theorem FaW.below (X : FileC C) (h : FaW C w W g x m bl) (hb : Below W.heap.size W W') : FaW C w W' g x m bl :=
  ⟨h.geo.below hb h.geo.lt, h.ino.below hb h.ino.lt, h.own.below hb h.own.lt, h.sto.stay X hb⟩
theorem FaW.chg (h : FaW C w W g x m bl) {Y : Nat → Prop} (hY : ∀ k, w.heap.size ≤ k → k < w.heap.size + 3 → Y k) (hs : Sto C w W' (fun k => w.heap.size ≤ k ∧ k < w.heap.size + 3) m bl') (hc : Chg (FrmF w Y) W W') : FaW C w W' g x m bl' :=
  ⟨h.geo.chg hc fun _ k => k.2 (hY _ (by omega) (by omega)), h.ino.chg hc fun _ k => k.2 (hY _ (by omega) (by omega)), h.own.chg hc fun _ k => k.2 (hY _ (by omega) (by omega)), hs⟩
theorem FaW.cells (h : FaW C w W g x m bl) : W.cell? ⟨w.heap.size, 0, none⟩ = some (.int .i64 g.n) ∧ W.cell? ⟨w.heap.size, 1, none⟩ = some (.int .i64 g.k)
    ∧ W.cell? ⟨w.heap.size + 1, 0, none⟩ = some (.int .i64 x.k) ∧ W.cell? ⟨w.heap.size + 1, 1, none⟩ = some (.int .i64 x.b) ∧ W.cell? ⟨w.heap.size + 1, 2, none⟩ = some (.int .i64 x.b0) ∧ W.cell? ⟨w.heap.size + 1, 3, none⟩ = some (.int .i64 x.b1)
    ∧ W.cell? ⟨w.heap.size + 1, 4, none⟩ = some (.int .i64 x.b2) ∧ W.cell? ⟨w.heap.size + 1, 5, none⟩ = some (.int .i64 x.b3) ∧ W.cell? ⟨w.heap.size + 1, 6, none⟩ = some (.int .i64 x.d)
    ∧ W.cell? ⟨w.heap.size + 1 + 1, 0, none⟩ = some (.int .i64 20) ∧ W.cell? ⟨w.heap.size + 1 + 1, 1, none⟩ = some (.int .i64 8) ∧ (w.heap.size < W.heap.size ∧ w.heap.size + 1 < W.heap.size ∧ w.heap.size + 1 + 1 < W.heap.size) :=
  ⟨h.geo.cell 0, h.geo.cell 1, h.ino.cell 0, h.ino.cell 1, h.ino.cell 2, h.ino.cell 3, h.ino.cell 4, h.ino.cell 5, h.ino.cell 6, h.own.cell 0, h.own.cell 1, h.geo.lt, h.ino.lt, h.own.lt⟩
end
theorem g208 : gmay ⟨20, 8⟩ = true := by decide +kernel
/-- What is told, and whether all is as it was: what the law looks for. -/
theorem fa_told {g : Geo} {x : Ino} {off n : Int} {b : List UInt8} {bl bl1 bl2 : List (List UInt8)} {bs : List UInt8} {hr nl hl he hf : Int} {r1 r2 : Ino}
    (h1 : ReadDoes x off n bl bs hr) (h2 : LeftDoes g bl nl hl) (h3 : ResizeDoes g x n bl r1 he bl1) (h4 : WriteDoes g x off b bl1 r2 hf bl2) :
    (odd x = true → hr = 1 ∧ he = 1 ∧ hf = 1 ∧ bl2 = bl) ∧ (gmay g = false → hl = 1 ∧ he = 1 ∧ hf = 1 ∧ bl2 = bl) ∧ (n < 0 → hr = 1 ∧ he = 1) ∧ (off < 0 → hr = 1 ∧ hf = 1) ∧ (n < 0 → off < 0 → bl2 = bl) := by
  refine ⟨fun h => ?_, fun h => ?_, fun h => ?_, fun h => ?_, fun h h' => ?_⟩
  · have a := h3.arg (.inr (.inl h))
    have b := h4.arg (.inr (.inl h))
    exact ⟨h1.arg (.inl h), a.1, b.1, b.2.trans a.2⟩
  · have a := h3.arg (.inl h)
    have b := h4.arg (.inl h)
    exact ⟨h2.arg h, a.1, b.1, b.2.trans a.2⟩
  · exact ⟨h1.arg (.inr (.inr h)), (h3.arg (.inr (.inr h))).1⟩
  · exact ⟨h1.arg (.inr (.inl h)), (h4.arg (.inr (.inr h))).1⟩
  · exact (h4.arg (.inr (.inr h'))).2.trans (h3.arg (.inr (.inr h))).2

set_option maxRecDepth 100000 in
set_option maxHeartbeats 4000000 in
theorem FiArgs_any {C : Stor} (X : FileC C) (g : Geo) (hgi : geoIn g) (x : Ino) (hx : x.fits) (off n : Int) (ho : Inn.In64 off) (hn : Inn.In64 n) (w : World) :
    Calls Try.prog 4 #[.agg #[.int .i64 g.n, .int .i64 g.k], .agg (inoC x), .int .i64 off, .int .i64 n] w fun e w' => e = .returned (.bool true) ∧ Below w.heap.size w w' := by
  obtain ⟨w1, hw1⟩ : ∃ W, W = ((w.alloc (.cells #[.int .i64 g.n, .int .i64 g.k] 23)).alloc (.cells (inoC x) 40)).alloc (.cells #[.int .i64 20, .int .i64 8] 23) := ⟨_, rfl⟩
  have hb1 : Below w.heap.size w w1 := by rw [hw1]; exact (((Below.refl _ _).alloc (Nat.le_refl _) _).alloc (by simp) _).alloc (by simp; omega) _
  have r1 : Row w1 w.heap.size 23 [.int .i64 g.n, .int .i64 g.k] := by rw [hw1]; exact ((Row.new w _ _).alloc _).alloc _
  have r2 : Row w1 (w.heap.size + 1) 40 [.int .i64 x.k, .int .i64 x.b, .int .i64 x.b0, .int .i64 x.b1, .int .i64 x.b2, .int .i64 x.b3, .int .i64 x.d] := by rw [hw1]; exact (Row.newAt _ _ (by simp)).alloc _
  have r3 : Row w1 (w.heap.size + 1 + 1) 23 [.int .i64 20, .int .i64 8] := by rw [hw1]; exact Row.newAt _ _ (by simp)
  have HN : Hid (Calls Try.prog 7 #[.agg #[.int .i64 20, .int .i64 8]] w1 fun e w' => ∃ m, e = .returned (.tuple #[.pointer (some ⟨m, 0, none⟩), .int .i64 0]) ∧ FaW C w w' g x m (freshB ⟨20, 8⟩)) := by
    refine (Sto.make X w1 hb1 (fun k => w.heap.size ≤ k ∧ k < w.heap.size + 3) (fun k hk => by have := r3.lt; omega) ⟨20, 8⟩ g208).mono ?_
    rintro e w' ⟨m, rfl, hs, hb⟩
    exact ⟨m, rfl, r1.below hb r1.lt, r2.below hb r2.lt, r3.below hb r3.lt, hs⟩
  have HMay := Lib.hid fun W => RInMay_any x hx W
  have HGeo := Lib.hid fun W => RFiMay_any g W
  have HK := Lib.hid fun W => Fiknows_any X W
  have HX := Lib.hid hx
  have HGI := Lib.hid hgi
  have HO := Lib.hid ho
  have HNn := Lib.hid hn
  obtain ⟨o1, o2⟩ := ho
  obtain ⟨n1, n2⟩ := hn
  have hxk : Inn.In64 x.k := hx _ (by simp [Ino.l])
  obtain ⟨k1, k2⟩ := hxk
  clear hb1 r1 r2 r3 hgi hx
  obtain ⟨gn, gk⟩ := g
  obtain ⟨xk, xb, x0, x1, x2, x3, xd⟩ := x
  simp only [inoC] at *
  go_enter Try.func4, Try.ntmps4
  go_wp2_with fail
  rw [← hw1]
  clear hw1
  refine HN.out.mono ?_
  rintro e w2 ⟨m, rfl, hf2⟩
  have HF2 := Lib.hid hf2
  obtain ⟨c1, c2, c3, c4, c5, c6, c7, c8, c9, -, -, lt, lt1, lt2⟩ := hf2.cells
  simp only at c1 c2 c3 c4 c5 c6 c7 c8 c9
  clear HN hf2
  go_wp2_with fail
  refine (HMay.out w2).mono ?_
  rintro e w3 ⟨rfl, hb⟩
  have HF3 := Lib.hid (HF2.out.below X hb)
  clear c1 c2 c3 c4 c5 c6 c7 c8 c9 lt lt1 lt2 hb HF2 HMay
  obtain ⟨c1, c2, c3, c4, c5, c6, c7, c8, c9, -, -, lt, lt1, lt2⟩ := HF3.out.cells
  simp only at c1 c2 c3 c4 c5 c6 c7 c8 c9
  have hc : (Inn.may ⟨xk, xb, x0, x1, x2, x3, xd⟩ = false ∧ odd ⟨xk, xb, x0, x1, x2, x3, xd⟩ = true) ∨ (Inn.may ⟨xk, xb, x0, x1, x2, x3, xd⟩ = true ∧ (xk == 0) = true ∧ odd ⟨xk, xb, x0, x1, x2, x3, xd⟩ = true)
      ∨ (Inn.may ⟨xk, xb, x0, x1, x2, x3, xd⟩ = true ∧ (xk == 0) = false ∧ odd ⟨xk, xb, x0, x1, x2, x3, xd⟩ = false) := by
    unfold odd
    cases Inn.may ⟨xk, xb, x0, x1, x2, x3, xd⟩ <;> by_cases h : xk = 0 <;> simp [h]
  generalize hm : Inn.may ⟨xk, xb, x0, x1, x2, x3, xd⟩ = mayx at *
  clear hm
  rcases hc with ⟨rfl, ho⟩ | ⟨rfl, hk0, ho⟩ | ⟨rfl, hk0, ho⟩
  all_goals
    have Ho := Lib.hid ho
    clear ho
    go_wp2_with fail
    refine (HGeo.out w3).mono ?_
    rintro e w4 ⟨rfl, hb⟩
    have HF4 := Lib.hid (HF3.out.below X hb)
    clear c1 c2 c3 c4 c5 c6 c7 c8 c9 lt lt1 lt2 hb HF3 HGeo
    obtain ⟨c1, c2, c3, c4, c5, c6, c7, c8, c9, -, -, lt, lt1, lt2⟩ := HF4.out.cells
    simp only at c1 c2 c3 c4 c5 c6 c7 c8 c9
    have HRd := Lib.hid (HF4.out.sto.read X ⟨xk, xb, x0, x1, x2, x3, xd⟩ off n HX.out HO.out HNn.out)
    go_wp2_with fail
    refine HRd.out.mono ?_
    rintro e w5 ⟨v5, bs, hr, rfl, hd, -, hb⟩
    have HD5 := Lib.hid hd
    have HF5 := Lib.hid (HF4.out.below X hb)
    clear c1 c2 c3 c4 c5 c6 c7 c8 c9 lt lt1 lt2 hb hd HF4 HRd
    obtain ⟨c1, c2, c3, c4, c5, c6, c7, c8, c9, -, -, lt, lt1, lt2⟩ := HF5.out.cells
    simp only at c1 c2 c3 c4 c5 c6 c7 c8 c9
    have HLf := Lib.hid (HF5.out.sto.left X ⟨gn, gk⟩ HGI.out)
    go_wp2_with fail
    refine HLf.out.mono ?_
    rintro e w6 ⟨n6, hl, rfl, hd, hb⟩
    have HD6 := Lib.hid hd
    have HF6 := Lib.hid (HF5.out.below X hb)
    clear c1 c2 c3 c4 c5 c6 c7 c8 c9 lt lt1 lt2 hb hd HF5 HLf
    obtain ⟨c1, c2, c3, c4, c5, c6, c7, c8, c9, -, -, lt, lt1, lt2⟩ := HF6.out.cells
    simp only at c1 c2 c3 c4 c5 c6 c7 c8 c9
    have HRs := Lib.hid (HF6.out.sto.resize X ⟨gn, gk⟩ ⟨xk, xb, x0, x1, x2, x3, xd⟩ n HGI.out HX.out HNn.out)
    go_wp2_with fail
    refine HRs.out.mono ?_
    rintro e w7 ⟨⟨a0, a1, a2, a3, a4, a5, a6⟩, he, bl7, rfl, hd, hs, hcg⟩
    simp only [inoC]
    have HD7 := Lib.hid hd
    have HF7 := Lib.hid (HF6.out.chg (fun k h1 h2 => ⟨h1, h2⟩) hs hcg)
    clear c1 c2 c3 c4 c5 c6 c7 c8 c9 lt lt1 lt2 hd hs hcg HF6 HRs
    obtain ⟨c1, c2, c3, c4, c5, c6, c7, c8, c9, -, -, lt, lt1, lt2⟩ := HF7.out.cells
    simp only at c1 c2 c3 c4 c5 c6 c7 c8 c9
    obtain ⟨w8, hw8⟩ : ∃ W, W = (w7.alloc (.cells #[.int .i64 a0, .int .i64 a1, .int .i64 a2, .int .i64 a3, .int .i64 a4, .int .i64 a5, .int .i64 a6] 40)).alloc (.cells #[.int .u8 120] 5 (1, 2)) := ⟨_, rfl⟩
    have hb8 : Below w7.heap.size w7 w8 := by rw [hw8]; exact ((Below.refl _ _).alloc (Nat.le_refl _) _).alloc (by simp) _
    have hh8 : w8.heap[w7.heap.size + 1]? = some (.cells #[.int .u8 120] 5 (1, 2)) := by rw [hw8]; have := heap_alloc_new (w7.alloc (.cells #[.int .i64 a0, .int .i64 a1, .int .i64 a2, .int .i64 a3, .int .i64 a4, .int .i64 a5, .int .i64 a6] 40)) (.cells #[.int .u8 120] 5 (1, 2)); rwa [World.size_alloc] at this
    have hlt8 : w7.heap.size + 1 < w8.heap.size := by rw [hw8, World.size_alloc, World.size_alloc]; omega
    have hA8 : Arg w8 (.slice (some ⟨w7.heap.size + 1, 0, none⟩) 1 1) [120] := .inr ⟨_, 0, 1, rfl, hlt8, Nat.le_refl _, fun j u hu => by rw [Nat.zero_add, cell_of_row w8 _ j _ _ _ hh8]; rw [← hu]; simp [V8]⟩
    have HF8 := Lib.hid (HF7.out.below X hb8)
    have HW := Lib.hid ((HF7.out.sto.also X hb8 (fun k => (w.heap.size ≤ k ∧ k < w.heap.size + 3) ∨ k = w7.heap.size + 1) (fun k hk => hk.imp id fun e => ⟨by omega, by rw [e]; exact hlt8⟩)).write X ⟨gn, gk⟩ ⟨xk, xb, x0, x1, x2, x3, xd⟩ off
      (.slice (some ⟨w7.heap.size + 1, 0, none⟩) 1 1) [120] HGI.out HX.out HO.out (by decide) hA8 (fun a n c e _ => by injection e with e _ _; injection e with e; subst e; exact .inr (.inr rfl)))
    have hcv : (convert 41 41 (.slice (some ⟨w7.heap.size + 1, 0, none⟩) 1 1)).run Try.prog ((w7.alloc (.cells #[.int .i64 a0, .int .i64 a1, .int .i64 a2, .int .i64 a3, .int .i64 a4, .int .i64 a5, .int .i64 a6] 40)).alloc (.cells #[.int .u8 120] 5)) = .ok (.slice (some ⟨w7.heap.size + 1, 0, none⟩) 1 1) ((w7.alloc (.cells #[.int .i64 a0, .int .i64 a1, .int .i64 a2, .int .i64 a3, .int .i64 a4, .int .i64 a5, .int .i64 a6] 40)).alloc (.cells #[.int .u8 120] 5 (1, 2))) := by
      have := Lib.run_convert_bytes_const (w7.alloc (.cells #[.int .i64 a0, .int .i64 a1, .int .i64 a2, .int .i64 a3, .int .i64 a4, .int .i64 a5, .int .i64 a6] 40)) 41 5 #[.int .u8 120] 1 1 Try.underlying41 Try.underlying5
      rwa [World.size_alloc] at this
    clear hb8 hh8 hlt8 hA8 HF7
    go_wp2_with fail
    rw [← hw8]
    clear hw8
    refine HW.out.mono ?_
    rintro e w9 ⟨⟨b0, b1, b2, b3, b4, b5, b6⟩, hf, bl9, rfl, hd, hs, hcg⟩
    have HF9 := Lib.hid (HF8.out.chg (fun k h1 h2 => .inl ⟨h1, h2⟩) (hs.also X (Below.refl _ _) _ (fun k hk => .inl (.inl hk))) hcg)
    obtain ⟨T1, T2, T3, T4, T5⟩ := fa_told HD5.out HD6.out HD7.out hd
    clear c1 c2 c3 c4 c5 c6 c7 c8 c9 lt lt1 lt2 hd hs hcg hcv HF8 HW HD5 HD6 HD7
    simp only [inoC]
    obtain ⟨-, -, -, -, -, -, -, -, -, d0, d1, lt, lt1, lt2⟩ := HF9.out.cells
    obtain ⟨w10, hw10⟩ : ∃ W, W = w9.alloc (.cells #[.int .i64 b0, .int .i64 b1, .int .i64 b2, .int .i64 b3, .int .i64 b4, .int .i64 b5, .int .i64 b6] 40) := ⟨_, rfl⟩
    have hb10 : Below w9.heap.size w9 w10 := by rw [hw10]; exact (Below.refl _ _).alloc (Nat.le_refl _) _
    have HB10 : Hid (Below w.heap.size w w10) := HF9.out.sto.below.trans (hb10.mono HF9.out.sto.below.size)
    have HFr : Hid (bl9 = freshB ⟨20, 8⟩ → Calls Try.prog 23 #[.pointer (some ⟨m, 0, none⟩), .agg #[.int .i64 20, .int .i64 8]] w10 fun e w' => e = .returned (.bool true) ∧ Below w.heap.size w w') := fun hbl => by
      have hS := HF9.out.sto.stay X hb10
      rw [hbl] at hS
      refine (FiFresh_any X ⟨20, 8⟩ g208 hS).mono ?_
      rintro e w' ⟨rfl, hb⟩
      exact ⟨rfl, HB10.out.trans (hb.mono HB10.out.size)⟩
    have HK2 : Hid (∀ W, Below w.heap.size w W → Calls Try.prog 6 #[] W fun e w' => e = .returned (.bool true) ∧ Below w.heap.size w w') := fun W hW => by
      refine (HK.out W).mono ?_
      rintro e w' ⟨rfl, hb⟩
      exact ⟨rfl, hW.trans (hb.mono hW.size)⟩
    clear HF9 hb10 HK
    have e1 : odd ⟨xk, xb, x0, x1, x2, x3, xd⟩ = true ∨ n < 0 ∨ off < 0 → hr = 1 := fun h => by
      rcases h with h | h | h
      · exact (T1 h).1
      · exact (T3 h).1
      · exact (T4 h).1
    have e2 : odd ⟨xk, xb, x0, x1, x2, x3, xd⟩ = true ∨ n < 0 ∨ gmay ⟨gn, gk⟩ = false → he = 1 := fun h => by
      rcases h with h | h | h
      · exact (T1 h).2.1
      · exact (T3 h).2
      · exact (T2 h).2.1
    have e3 : odd ⟨xk, xb, x0, x1, x2, x3, xd⟩ = true ∨ off < 0 ∨ gmay ⟨gn, gk⟩ = false → hf = 1 := fun h => by
      rcases h with h | h | h
      · exact (T1 h).2.2.1
      · exact (T4 h).2
      · exact (T2 h).2.2.1
    have e4 : gmay ⟨gn, gk⟩ = false → hl = 1 := fun h => (T2 h).1
    have e5 : odd ⟨xk, xb, x0, x1, x2, x3, xd⟩ = true ∨ (n < 0 ∧ off < 0) ∨ gmay ⟨gn, gk⟩ = false → bl9 = freshB ⟨20, 8⟩ := fun h => by
      rcases h with h | h | h
      · exact (T1 h).2.2.2
      · exact T5 h.1 h.2
      · exact (T2 h).2.2.2
    clear T1 T2 T3 T4 T5
    cases hg : gmay ⟨gn, gk⟩ <;> by_cases hn0 : n < 0 <;> by_cases ho0 : off < 0
  all_goals
    (first | (have e7 := e1 (.inl Ho.out); obtain rfl := e7) | (have e7 := e1 (.inr (.inl hn0)); obtain rfl := e7) | (have e7 := e1 (.inr (.inr ho0)); obtain rfl := e7) | skip)
    (first | (have e7 := e2 (.inl Ho.out); obtain rfl := e7) | (have e7 := e2 (.inr (.inl hn0)); obtain rfl := e7) | (have e7 := e2 (.inr (.inr hg)); obtain rfl := e7) | skip)
    (first | (have e7 := e3 (.inl Ho.out); obtain rfl := e7) | (have e7 := e3 (.inr (.inl ho0)); obtain rfl := e7) | (have e7 := e3 (.inr (.inr hg)); obtain rfl := e7) | skip)
    (first | (have e6 := e4 hg; obtain rfl := e6) | skip)
    first
    | (have HQ := Lib.hid (HFr.out (e5 (by first | exact .inl Ho.out | exact .inr (.inl ⟨hn0, ho0⟩) | exact .inr (.inr hg))))
       clear e1 e2 e3 e4 e5 hg HFr
       go_wp2_with fail
       rw [← hw10]
       refine HQ.out.mono ?_
       rintro e wA ⟨rfl, hbA⟩
       go_wp2_with fail
       refine (HK2.out _ hbA).mono ?_
       rintro e wB ⟨rfl, hbB⟩
       have HBB := Lib.hid hbB
       clear hbA hbB HQ HK2 hw10 d0 d1 lt lt1 lt2
       go_wp2
       go_ret
       exact ⟨rfl, HBB.out⟩)
    | (clear e1 e2 e3 e4 e5 hg HFr
       go_wp2_with fail
       rw [← hw10]
       refine (HK2.out _ HB10.out).mono ?_
       rintro e wB ⟨rfl, hbB⟩
       have HBB := Lib.hid hbB
       clear hbB HK2 hw10 d0 d1 lt lt1 lt2
       go_wp2
       go_ret
       exact ⟨rfl, HBB.out⟩)
end Go.Proofs.Ytiafmghdiidniaa
