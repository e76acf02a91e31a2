/-
  THE WALK of the law FileSafe, over the contracts.
-/
import Derived.Test.YtiafmghdiidniaaLM
import Derived.Test.YtiafmghdiidniaaID
namespace Go.Proofs.Ytiafmghdiidniaa
open Go.RowKit Cdc Inn Fil

/-- A slice of arrays of 64 bytes. -/
def ArrsAt (w : World) (v : Value) (rows : List (List UInt8)) : Prop :=
  ∃ A cap, v = .slice A rows.length cap ∧ (∀ r ∈ rows, r.length = 64) ∧ (0 < rows.length → ∃ b o, A = some ⟨b, o, none⟩ ∧ b < w.heap.size ∧ Sees w b o (rows.flatten.map V8))
theorem flat_piece (rows : List (List UInt8)) (h : ∀ r ∈ rows, r.length = 64) : ∀ i, i < rows.length → ((rows.flatten).drop (64 * i)).take 64 = rows.getD i [] := by
  induction rows with
  | nil => intro i hi; simp at hi
  | cons r l ih =>
    intro i hi
    have hr := h r (by simp)
    rw [List.flatten_cons]
    cases i with
    | zero => rw [Nat.mul_zero, List.drop_zero, List.take_left' hr]; rfl
    | succ i =>
      rw [show 64 * (i + 1) = r.length + 64 * i by omega, ← List.drop_drop, List.drop_left' rfl, List.getD_cons_succ]
      exact ih (fun q hq => h q (by simp [hq])) i (by simpa using hi)
theorem ArrsAt.arg {W : World} {b o : Nat} {rows : List (List UInt8)} (h : ∀ r ∈ rows, r.length = 64) (hb : b < W.heap.size) (hs : Sees W b o (rows.flatten.map V8)) (i : Nat) (hi : i < rows.length) :
    Arg W (.slice (some ⟨b, o + i * 64, none⟩) 64 64) (rows.getD i []) := by
  have hl : (rows.getD i []).length = 64 := by
    rw [List.getD_eq_getElem?_getD, List.getElem?_eq_getElem hi]; exact h _ (List.getElem_mem _)
  refine .inr ⟨b, o + i * 64, 64, by rw [hl], hb, by omega, ?_⟩
  have := hs.piece (64 * i) 64
  rw [← List.map_drop, ← List.map_take, flat_piece rows h i hi, Nat.mul_comm] at this
  exact this

/-- What lies while FileSafe looks. -/
structure FsW (C : Stor) (w W : World) (g : Geo) (x : Ino) (m : Nat) (bl : List (List UInt8)) (Z : Nat → Prop) : Prop where
  geo : Row W w.heap.size 23 [.int .i64 g.n, .int .i64 g.k]
  ino : Row W (w.heap.size + 1) 40 [.int .i64 x.k, .int .i64 x.b, .int .i64 x.b0, .int .i64 x.b1, .int .i64 x.b2, .int .i64 x.b3, .int .i64 x.d]
  sto : Sto C w W (fun k => (w.heap.size ≤ k ∧ k < w.heap.size + 2) ∨ Z k) m bl
section
variable {C : Stor} {w W W' : World} {g : Geo} {x : Ino} {m : Nat} {bl bl' : List (List UInt8)} {Z Z' : Nat → Prop}
theorem FsW.below (X : FileC C) (h : FsW C w W g x m bl Z) (hb : Below W.heap.size W W') : FsW C w W' g x m bl Z :=
  ⟨h.geo.below hb h.geo.lt, h.ino.below hb h.ino.lt, h.sto.stay X hb⟩
theorem FsW.also (X : FileC C) (h : FsW C w W g x m bl Z) (hb : Below W.heap.size W W') (hZ : ∀ k, Z' k → Z k ∨ (W.heap.size ≤ k ∧ k < W'.heap.size)) : FsW C w W' g x m bl Z' :=
  ⟨h.geo.below hb h.geo.lt, h.ino.below hb h.ino.lt, h.sto.also X hb _ fun k hk => by
    rcases hk with hk | hk
    · exact .inl (.inl hk)
    · exact (hZ k hk).imp .inr id⟩
theorem FsW.chg (h : FsW C w W g x m bl Z) (hs : Sto C w W' (fun k => (w.heap.size ≤ k ∧ k < w.heap.size + 2) ∨ Z k) m bl') (hc : Chg (FrmF w (fun k => (w.heap.size ≤ k ∧ k < w.heap.size + 2) ∨ Z k)) W W') : FsW C w W' g x m bl' Z :=
  ⟨h.geo.chg hc fun _ k => k.2 (.inl (by omega)), h.ino.chg hc fun _ k => k.2 (.inl (by omega)), hs⟩
theorem FsW.cells (h : FsW C w W g x m bl Z) : W.cell? ⟨w.heap.size, 0, none⟩ = some (.int .i64 g.n) ∧ W.cell? ⟨w.heap.size, 1, none⟩ = some (.int .i64 g.k)
    ∧ W.cell? ⟨w.heap.size + 1, 0, none⟩ = some (.int .i64 x.k) ∧ W.cell? ⟨w.heap.size + 1, 1, none⟩ = some (.int .i64 x.b) ∧ W.cell? ⟨w.heap.size + 1, 2, none⟩ = some (.int .i64 x.b0) ∧ W.cell? ⟨w.heap.size + 1, 3, none⟩ = some (.int .i64 x.b1)
    ∧ W.cell? ⟨w.heap.size + 1, 4, none⟩ = some (.int .i64 x.b2) ∧ W.cell? ⟨w.heap.size + 1, 5, none⟩ = some (.int .i64 x.b3) ∧ W.cell? ⟨w.heap.size + 1, 6, none⟩ = some (.int .i64 x.d)
    ∧ w.heap.size < W.heap.size ∧ w.heap.size + 1 < W.heap.size :=
  ⟨h.geo.cell 0, h.geo.cell 1, h.ino.cell 0, h.ino.cell 1, h.ino.cell 2, h.ino.cell 3, h.ino.cell 4, h.ino.cell 5, h.ino.cell 6, h.geo.lt, h.ino.lt⟩
end
theorem below_arg {w W : World} {v : Value} {bs : List UInt8} (h : Arg w v bs) (hb : Below w.heap.size w W) : Arg W v bs := h.below hb

set_option maxRecDepth 100000 in
set_option maxHeartbeats 4000000 in
theorem FiSafe_main {C : Stor} (X : FileC C) (g : Geo) (hgi : geoIn g) (hg : gmay g = true) (rows : List (List UInt8)) (hr64 : ∀ r ∈ rows, r.length = 64) (hrn : rows.length ≤ 20) (A : Option Addr) (cap : Nat) (x : Ino) (hx : x.fits) (off n : Int) (ho : Inn.In64 off) (hn : Inn.In64 n) (b : List UInt8) (hbl : b.length ≤ 400) (B : Option Addr) (bcap : Nat) (w : World)
    (hA : 0 < rows.length → ∃ q o, A = some ⟨q, o, none⟩ ∧ q < w.heap.size ∧ Sees w q o (rows.flatten.map V8)) (hB : Arg w (.slice B b.length bcap) b) (hB2 : ∀ a, B = some a → 0 < b.length → a.block < w.heap.size) :
    Calls Try.prog 5 #[.agg #[.int .i64 g.n, .int .i64 g.k], .slice A rows.length cap, .agg (inoC x), .int .i64 off, .int .i64 n, .slice B b.length bcap] w fun e w' => e = .returned (.bool true) ∧ Below w.heap.size w w' := by
  obtain ⟨w1, hw1⟩ : ∃ W, W = ((w.alloc (.cells #[.int .i64 g.n, .int .i64 g.k] 23)).alloc (.cells (inoC x) 40)) := ⟨_, rfl⟩
  have hb1 : Below w.heap.size w w1 := by rw [hw1]; exact ((Below.refl _ _).alloc (Nat.le_refl _) _).alloc (by simp) _
  have r1 : Row w1 w.heap.size 23 [.int .i64 g.n, .int .i64 g.k] := by rw [hw1]; exact (Row.new w _ _).alloc _
  have r2 : Row w1 (w.heap.size + 1) 40 [.int .i64 x.k, .int .i64 x.b, .int .i64 x.b0, .int .i64 x.b1, .int .i64 x.b2, .int .i64 x.b3, .int .i64 x.d] := by rw [hw1]; exact Row.newAt _ _ (by simp)
  have HN : Hid (Calls Try.prog 7 #[.agg #[.int .i64 g.n, .int .i64 g.k]] w1 fun e w' => ∃ m, e = .returned (.tuple #[.pointer (some ⟨m, 0, none⟩), .int .i64 0]) ∧ FsW C w w' g x m (freshB g) (fun _ => False)) := by
    refine (Sto.make X w1 hb1 (fun k => (w.heap.size ≤ k ∧ k < w.heap.size + 2) ∨ False) (fun k hk => by have := r2.lt; simp only [or_false] at hk; omega) g hg).mono ?_
    rintro e w' ⟨m, rfl, hs, hb⟩
    exact ⟨m, rfl, r1.below hb r1.lt, r2.below hb r2.lt, hs⟩
  have HK := Lib.hid fun W => Fiknows_any X W
  have HX := Lib.hid hx
  have HGI := Lib.hid hgi
  have HO := Lib.hid ho
  have HNn := Lib.hid hn
  have HA := Lib.hid hA
  have HR64 := Lib.hid hr64
  have HB := Lib.hid hB
  have HB2 := Lib.hid hB2
  obtain ⟨rn, hrn'⟩ : ∃ rn, rn = rows.length := ⟨_, rfl⟩
  have HRn := Lib.hid hrn'
  obtain ⟨bn, hbn'⟩ : ∃ bn, bn = b.length := ⟨_, rfl⟩
  have HBn := Lib.hid hbn'
  rw [← hrn'] at hrn HA ⊢
  rw [← hbn'] at hbl HB HB2 ⊢
  obtain ⟨o1, o2⟩ := ho
  obtain ⟨n1, n2⟩ := hn
  have hxb : Inn.In64 x.b := hx _ (by simp [Ino.l])
  obtain ⟨k1, k2⟩ := hxb
  clear hb1 r1 r2 hgi hx hA hr64 hB hB2 hrn' hbn' hg
  obtain ⟨gn, gk⟩ := g
  obtain ⟨xk, xb, x0, x1, x2, x3, xd⟩ := x
  simp only [inoC] at *
  go_enter Try.func5, Try.ntmps5
  go_wp2_with fail
  rw [← hw1]
  clear hw1
  refine HN.out.mono ?_
  rintro e w2 ⟨m, rfl, hf2⟩
  have HF2 := Lib.hid hf2
  clear HN hf2
  go_wp2
  go_loopw [15] (fun i wr => ∃ k : Nat, k ≤ rn ∧ i = .int .i64 k ∧ Hid (∃ bl, FsW C w wr ⟨gn, gk⟩ ⟨xk, xb, x0, x1, x2, x3, xd⟩ m bl (fun _ => False))) (fun i _ => rn - (intOf i).toNat)
  case atStart => exact ⟨0, by omega, rfl, _, HF2.out⟩
  case round =>
    clear HF2
    obtain ⟨k, hk, rfl, HF2⟩ := hrel
    obtain ⟨bl, hf2⟩ := HF2.out
    clear HF2
    have HF2 := Lib.hid hf2
    clear hf2
    by_cases hlt : k < rn
    · obtain ⟨q, o, rfl, hq, hsee⟩ := HA.out (by omega)
      have hArg := ArrsAt.arg HR64.out (Nat.lt_of_lt_of_le hq HF2.out.sto.below.size) (hsee.below HF2.out.sto.below hq) k (by rw [← HRn.out]; exact hlt)
      have HW := Lib.hid (HF2.out.sto.mwrite X k _ _ (by omega) (by
        rw [List.getD_eq_getElem?_getD, List.getElem?_eq_getElem (by rw [← HRn.out]; exact hlt)]
        exact HR64.out _ (List.getElem_mem _)) hArg (fun a n c e _ => by injection e with e _ _; injection e with e; subst e; exact hq))
      clear hsee hArg HA
      go_wp2_with fail
      refine HW.out.mono ?_
      rintro e w3 ⟨h3, bl3, rfl, -, hs, hcg⟩
      have HF3 : Hid (∃ bl, FsW C w w3 ⟨gn, gk⟩ ⟨xk, xb, x0, x1, x2, x3, xd⟩ m bl (fun _ => False)) := ⟨_, HF2.out.chg hs hcg⟩
      clear hs hcg HF2 HW
      go_wp2
      go_roundw
      case rel => exact ⟨k + 1, by omega, by go_num, HF3⟩
      case measure => simp [intOf]; omega
    · obtain rfl : k = rn := by omega
      clear HA HR64 HRn
      obtain ⟨c1, c2, c3, c4, c5, c6, c7, c8, c9, lt, lt1⟩ := HF2.out.cells
      simp only at c1 c2 c3 c4 c5 c6 c7 c8 c9
      have HRd := Lib.hid (HF2.out.sto.read X ⟨xk, xb, x0, x1, x2, x3, xd⟩ off n HX.out HO.out HNn.out)
      go_wp2_with fail
      refine HRd.out.mono ?_
      rintro e w3 ⟨v3, bs, h3, rfl, hd, hv, hb⟩
      have HF3 := Lib.hid (HF2.out.below X hb)
      have HD3 := Lib.hid hd
      obtain ⟨A3, cap3, rfl⟩ := hv.out.arg.form
      clear c1 c2 c3 c4 c5 c6 c7 c8 c9 lt lt1 hd hb hv HF2 HRd
      obtain ⟨c1, c2, c3, c4, c5, c6, c7, c8, c9, lt, lt1⟩ := HF3.out.cells
      simp only at c1 c2 c3 c4 c5 c6 c7 c8 c9
      have HWr := Lib.hid (HF3.out.sto.write X ⟨gn, gk⟩ ⟨xk, xb, x0, x1, x2, x3, xd⟩ off (.slice B bn bcap) b HGI.out HX.out HO.out (by rw [← HBn.out]; omega) (HB.out.below HF3.out.sto.below)
        (fun a n c e h0 => .inl (HB2.out a (by injection e) (by injection e with _ e _; omega))))
      have hcase : (h3 = 0 ∧ (bs.length : Int) ≤ n ∧ (bs.length : Int) ≤ xb) ∨ ((h3 != 0) = true ∧ (h3 == 0) = false ∧ ¬ h3 = 0 ∧ bs.length = 0) := by
        by_cases h : h3 = 0
        · exact .inl ⟨h, HD3.out.few h⟩
        · exact .inr ⟨by simpa using h, by simpa using h, h, by rw [HD3.out.bad h]; rfl⟩
      clear HD3
      generalize bs.length = bsn at *
      rcases hcase with ⟨rfl, b1, b2⟩ | ⟨hne, hne2, hne3, rfl⟩
      all_goals
        go_wp2_with fail
        refine HWr.out.mono ?_
        rintro e w4 ⟨⟨a0, a1, a2, a3, a4, a5, a6⟩, h4, bl4, rfl, hd, hs, hcg⟩
        simp only [inoC]
        have HD4 := Lib.hid hd
        have HF4 := Lib.hid (HF3.out.chg hs hcg)
        clear c1 c2 c3 c4 c5 c6 c7 c8 c9 lt lt1 hd hs hcg HF3 HWr
        obtain ⟨c1, c2, c3, c4, c5, c6, c7, c8, c9, lt, lt1⟩ := HF4.out.cells
        simp only at c1 c2 c3 c4 c5 c6 c7 c8 c9
        obtain ⟨w5, hw5⟩ : ∃ W, W = w4.alloc (.cells #[.int .i64 a0, .int .i64 a1, .int .i64 a2, .int .i64 a3, .int .i64 a4, .int .i64 a5, .int .i64 a6] 40) := ⟨_, rfl⟩
        have hb5 : Below w4.heap.size w4 w5 := by rw [hw5]; exact (Below.refl _ _).alloc (Nat.le_refl _) _
        have HY5 : Hid (Row w5 w4.heap.size 40 [.int .i64 a0, .int .i64 a1, .int .i64 a2, .int .i64 a3, .int .i64 a4, .int .i64 a5, .int .i64 a6]) := by rw [hw5]; exact Row.new w4 _ _
        have HF5 : Hid (FsW C w w5 ⟨gn, gk⟩ ⟨xk, xb, x0, x1, x2, x3, xd⟩ m bl4 (fun k => k = w4.heap.size)) := HF4.out.also X hb5 (fun k e => .inr ⟨by omega, by rw [e]; exact HY5.out.lt⟩)
        have HRs := Lib.hid (HF5.out.sto.resize X ⟨gn, gk⟩ ⟨xk, xb, x0, x1, x2, x3, xd⟩ n HGI.out HX.out HNn.out)
        clear hb5 HF4
        go_wp2_with fail
        rw [← hw5]
        clear hw5
        refine HRs.out.mono ?_
        rintro e w6 ⟨⟨d0, d1, d2, d3, d4, d5, d6⟩, h6, bl6, rfl, hd, hs, hcg⟩
        simp only [inoC]
        have HD6 := Lib.hid hd
        have HY6 := Lib.hid (HY5.out.chg hcg (fun o k => k.2 (.inr rfl)))
        have HF6 := Lib.hid (HF5.out.chg hs hcg)
        clear c1 c2 c3 c4 c5 c6 c7 c8 c9 lt lt1 hd hs hcg HF5 HRs HY5
        obtain ⟨-, -, -, c4, -, -, -, -, -, -, lt1⟩ := HF6.out.cells
        simp only at c4
        have y0 := HY6.out.cell 0
        have y1 := HY6.out.cell 1
        have y2 := HY6.out.cell 2
        have y3 := HY6.out.cell 3
        have y4 := HY6.out.cell 4
        have y5 := HY6.out.cell 5
        have y6 := HY6.out.cell 6
        have lty := HY6.out.lt
        simp only [List.getElem?_cons_zero, List.getElem?_cons_succ] at y0 y1 y2 y3 y4 y5 y6
        obtain ⟨w7, hw7⟩ : ∃ W, W = w6.alloc (.cells #[.int .i64 d0, .int .i64 d1, .int .i64 d2, .int .i64 d3, .int .i64 d4, .int .i64 d5, .int .i64 d6] 40) := ⟨_, rfl⟩
        have HB7 : Hid (Below w.heap.size w w7) := by
          have hb := HF6.out.sto.below
          have : Below w6.heap.size w6 w7 := by rw [hw7]; exact (Below.refl _ _).alloc (Nat.le_refl _) _
          exact hb.trans (this.mono hb.size)
        have HK7 := Lib.hid (HK.out w7)
        have q4 : (h4 = 0 ∧ xb ≤ a1) ∨ ((h4 != 0) = true ∧ (h4 == 0) = false ∧ ¬ h4 = 0 ∧ Ino.mk a0 a1 a2 a3 a4 a5 a6 = zero) := by
          by_cases h : h4 = 0
          · exact .inl ⟨h, HD4.out.good h⟩
          · exact .inr ⟨by simpa using h, by simpa using h, h, HD4.out.bad h⟩
        have q6 : (h6 = 0 ∧ d1 = n) ∨ ((h6 != 0) = true ∧ (h6 == 0) = false ∧ ¬ h6 = 0 ∧ Ino.mk d0 d1 d2 d3 d4 d5 d6 = zero) := by
          by_cases h : h6 = 0
          · exact .inl ⟨h, HD6.out.good h⟩
          · exact .inr ⟨by simpa using h, by simpa using h, h, HD6.out.bad h⟩
        have hte : ∀ W, (Op.equalIn 10000 40 (.agg #[.int .i64 0, .int .i64 0, .int .i64 0, .int .i64 0, .int .i64 0, .int .i64 0, .int .i64 0]) (.agg #[.int .i64 0, .int .i64 0, .int .i64 0, .int .i64 0, .int .i64 0, .int .i64 0, .int .i64 0])).run Try.prog W = .ok true W := fun W => by
          have := ino_eqD zero zero W
          rwa [decide_eq_true rfl] at this
        simp only [zero, Ino.mk.injEq] at q4 q6
        clear HD4 HD6 HF6 HY6 HK
        rcases q4 with ⟨rfl, q4⟩ | ⟨q4, q4b, q4c, rfl, rfl, rfl, rfl, rfl, rfl, rfl⟩ <;> rcases q6 with ⟨rfl, rfl⟩ | ⟨q6, q6b, q6c, rfl, rfl, rfl, rfl, rfl, rfl, rfl⟩
        all_goals
          go_wp2_with fail
          rw [← hw7]
          refine HK7.out.mono ?_
          rintro e w8 ⟨rfl, hb⟩
          have HB8 := Lib.hid (HB7.out.trans (hb.mono HB7.out.size))
          clear hw7 hb HK7 HB7 c4 y0 y1 y2 y3 y4 y5 y6 lt1 lty
          go_wp2
          go_ret
          exact ⟨rfl, HB8.out⟩

theorem Arg.blk {w : World} {B : Option Addr} {n c : Nat} {bs : List UInt8} (h : Arg w (.slice B n c) bs) : ∀ a, B = some a → 0 < bs.length → a.block < w.heap.size := by
  intro a e h0
  rcases h with ⟨A, _, rfl⟩ | ⟨b, o, cap, e', hb, _⟩
  · simp at h0
  · injection e' with e' _ _
    rw [e] at e'
    injection e' with e'
    subst e'
    exact hb

set_option maxRecDepth 100000 in
set_option maxHeartbeats 4000000 in
theorem FiSafe_any {C : Stor} (X : FileC C) (g : Geo) (hgi : geoIn g) (v : Value) (rows : List (List UInt8)) (x : Ino) (hx : x.fits) (off n : Int) (ho : Inn.In64 off) (hn : Inn.In64 n) (u : Value) (b : List UInt8) (w : World) (hA : ArrsAt w v rows) (hB : Arg w u b) :
    Calls Try.prog 5 #[.agg #[.int .i64 g.n, .int .i64 g.k], v, .agg (inoC x), .int .i64 off, .int .i64 n, u] w fun e w' => e = .returned (.bool true) ∧ Below w.heap.size w w' := by
  obtain ⟨A, cap, rfl, h64, hA⟩ := hA
  obtain ⟨B, bcap, rfl⟩ := hB.form
  have HK := Lib.hid fun W => Fiknows_any X W
  obtain ⟨w1, hw1⟩ : ∃ W, W = ((w.alloc (.cells #[.int .i64 g.n, .int .i64 g.k] 23)).alloc (.cells (inoC x) 40)) := ⟨_, rfl⟩
  have hb1 : Below w.heap.size w w1 := by rw [hw1]; exact ((Below.refl _ _).alloc (Nat.le_refl _) _).alloc (by simp) _
  by_cases hg : gmay g = true
  · by_cases hr : rows.length ≤ 20
    · by_cases hl : b.length ≤ 400
      · exact FiSafe_main X g hgi hg rows h64 hr A cap x hx off n ho hn b hl B bcap w hA hB hB.blk
      · have HN : Hid (Calls Try.prog 7 #[.agg #[.int .i64 g.n, .int .i64 g.k]] w1 fun e w' => ∃ m, e = .returned (.tuple #[.pointer (some ⟨m, 0, none⟩), .int .i64 0]) ∧ Below w.heap.size w w') := by
          refine (Sto.make X w1 (Below.refl _ _) (fun _ => False) (fun _ k => k.elim) g hg).mono ?_
          rintro e w' ⟨m, rfl, -, hb⟩
          exact ⟨m, rfl, hb1.trans (hb.mono hb1.size)⟩
        clear hgi hx ho hn hA hB hb1 h64 hg
        generalize rows.length = rn at *
        generalize b.length = bn at *
        obtain ⟨gn, gk⟩ := g
        simp only [inoC] at *
        go_enter Try.func5, Try.ntmps5
        go_wp2_with fail
        rw [← hw1]
        clear hw1
        refine HN.out.mono ?_
        rintro e w2 ⟨m, rfl, hb⟩
        have HB := Lib.hid hb
        clear hb HN
        go_wp2_with fail
        refine (HK.out w2).mono ?_
        rintro e w3 ⟨rfl, hb⟩
        have HB3 := Lib.hid (HB.out.trans (hb.mono HB.out.size))
        clear hb HB HK
        go_wp2
        go_ret
        exact ⟨rfl, HB3.out⟩
    · have HN : Hid (Calls Try.prog 7 #[.agg #[.int .i64 g.n, .int .i64 g.k]] w1 fun e w' => ∃ m, e = .returned (.tuple #[.pointer (some ⟨m, 0, none⟩), .int .i64 0]) ∧ Below w.heap.size w w') := by
        refine (Sto.make X w1 (Below.refl _ _) (fun _ => False) (fun _ k => k.elim) g hg).mono ?_
        rintro e w' ⟨m, rfl, -, hb⟩
        exact ⟨m, rfl, hb1.trans (hb.mono hb1.size)⟩
      clear hgi hx ho hn hA hB hb1 h64 hg
      generalize rows.length = rn at *
      generalize b.length = bn at *
      obtain ⟨gn, gk⟩ := g
      simp only [inoC] at *
      go_enter Try.func5, Try.ntmps5
      go_wp2_with fail
      rw [← hw1]
      clear hw1
      refine HN.out.mono ?_
      rintro e w2 ⟨m, rfl, hb⟩
      have HB := Lib.hid hb
      clear hb HN
      go_wp2_with fail
      refine (HK.out w2).mono ?_
      rintro e w3 ⟨rfl, hb⟩
      have HB3 := Lib.hid (HB.out.trans (hb.mono HB.out.size))
      clear hb HB HK
      go_wp2
      go_ret
      exact ⟨rfl, HB3.out⟩
  · have HN : Hid (Calls Try.prog 7 #[.agg #[.int .i64 g.n, .int .i64 g.k]] w1 fun e w' => e = .returned (.tuple #[.pointer none, .int .i64 1]) ∧ Below w.heap.size w w') := by
      refine (X.newBad g w1 hgi (by simpa using hg)).mono ?_
      rintro e w' ⟨rfl, hb⟩
      exact ⟨rfl, hb1.trans (hb.mono hb1.size)⟩
    clear hgi hx ho hn hA hB hb1 h64 hg
    generalize rows.length = rn at *
    generalize b.length = bn at *
    obtain ⟨gn, gk⟩ := g
    simp only [inoC] at *
    go_enter Try.func5, Try.ntmps5
    go_wp2_with fail
    rw [← hw1]
    clear hw1
    refine HN.out.mono ?_
    rintro e w2 ⟨rfl, hb⟩
    have HB := Lib.hid hb
    clear hb HN
    go_wp2_with fail
    refine (HK.out w2).mono ?_
    rintro e w3 ⟨rfl, hb⟩
    have HB3 := Lib.hid (HB.out.trans (hb.mono HB.out.size))
    clear hb HB HK
    go_wp2
    go_ret
    exact ⟨rfl, HB3.out⟩
end Go.Proofs.Ytiafmghdiidniaa
