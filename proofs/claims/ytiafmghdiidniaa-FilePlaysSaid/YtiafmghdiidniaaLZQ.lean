/-
  THE WALKS of the landed May, Left, Resize, Write.
-/
import Derived.Test.YtiafmghdiidniaaLZP
namespace Go.Proofs.Ytiafmghdiidniaa
set_option maxRecDepth 100000
set_option maxHeartbeats 1000000
open Go.RowKit Cdc Inn Fil

theorem FiMay_any (g : Geo) (w : World) (hg : geoIn g) : Calls Try.prog 9 #[.agg #[.int .i64 g.n, .int .i64 g.k]] w fun e w' => e = .returned (.bool (gmay g)) ∧ Below w.heap.size w w' := by
  have hiff := @gmay_iff g
  obtain ⟨r, hr⟩ : ∃ r, r = gmay g := ⟨_, rfl⟩
  rw [← hr] at hiff ⊢
  clear hr
  have HF : Hid (0 ≤ g.k → ∀ W, Calls Try.prog 10 #[.agg #[.int .i64 g.n, .int .i64 g.k]] W fun e w' => e = .returned (.int .i64 (gfirst g)) ∧ Below W.heap.size W w') := fun h0 W => FiFirst_any g.n g.k hg.2 h0 W
  generalize gfirst g = F at *
  obtain ⟨n, k⟩ := g
  simp only at *
  obtain ⟨w0, hw0⟩ : ∃ w0, w0 = w.alloc (.cells #[.int .i64 n, .int .i64 k] 23) := ⟨_, rfl⟩
  have HR : Hid (Row w0 w.heap.size 23 [.int .i64 n, .int .i64 k]) := by rw [hw0]; exact Row.new w _ _
  have HC : Hid (Below w.heap.size w w0) := by rw [hw0]; exact (Below.refl _ _).alloc (Nat.le_refl _) _
  have c0 : w0.cell? ⟨w.heap.size, 0, none⟩ = some (.int .i64 n) := HR.out.cell 0
  have c1 : w0.cell? ⟨w.heap.size, 1, none⟩ = some (.int .i64 k) := HR.out.cell 1
  obtain ⟨⟨n1, n2⟩, k1, k2⟩ := hg
  by_cases hin : 8 ≤ n ∧ n ≤ 128 ∧ 2 ≤ k ∧ k ≤ 32
  · obtain ⟨h1, h2, h3, h4⟩ := hin
    have HFw := Lib.hid (HF.out (by omega))
    have Hr : Hid (r = decide ((F : Int) < n)) := by
      show _ = _
      by_cases hl : (F : Int) < n
      · rw [decide_eq_true hl]; exact hiff.2 ⟨h1, h2, h3, h4, hl⟩
      · rw [decide_eq_false hl, ← Bool.not_eq_true]; exact fun h => hl (hiff.1 h).2.2.2.2
    clear hiff HF
    go_enter Try.func9, Try.ntmps9
    go_wp2_with fail
    rw [← hw0]
    clear hw0
    go_region_with (go_at_call 10; refine (HFw.out _).mono ?_; rintro e w2 ⟨rfl, hb⟩; have HB2 : Hid (Below w.heap.size w w2) := HC.out.trans (((below_drewN (Below.refl w0.heap.size w0) 1).trans hb).mono HC.out.size); have c02 : w2.cell? ⟨w.heap.size, 0, none⟩ = some (.int .i64 n) := (HR.out.below ((below_drewN (Below.refl w0.heap.size w0) 1).trans hb) HR.out.lt).cell 0; have c12 : w2.cell? ⟨w.heap.size, 1, none⟩ = some (.int .i64 k) := (HR.out.below ((below_drewN (Below.refl w0.heap.size w0) 1).trans hb) HR.out.lt).cell 1; clear hb)
    all_goals (
      go_wp2_with fail
      go_ret
      rw [Hr.out]
      exact ⟨rfl, HB2.out⟩)
  · have hno : r = false := by rw [← Bool.not_eq_true]; exact fun h => hin ⟨(hiff.1 h).1, (hiff.1 h).2.1, (hiff.1 h).2.2.1, (hiff.1 h).2.2.2.1⟩
    have Hno := Lib.hid hno
    clear hno hiff HF HR
    have HQ : Hid (Below w.heap.size w w0.drew) := HC.out.drew
    rcases Int.lt_or_le n 8 with h1 | h1
    · have hd : decide (8 ≤ n) = false := decide_eq_false (by omega)
      go_enter Try.func9, Try.ntmps9
      go_wp2_with fail
      rw [← hw0]
      clear hw0
      go_region
      all_goals (
        go_wp2_with fail
        go_ret
        rw [Hno.out]
        exact ⟨rfl, HQ.out⟩)
    rcases Int.lt_or_le 128 n with h2 | h2
    · have hd : decide (n ≤ 128) = false := decide_eq_false (by omega)
      go_enter Try.func9, Try.ntmps9
      go_wp2_with fail
      rw [← hw0]
      clear hw0
      go_region
      all_goals (
        go_wp2_with fail
        go_ret
        rw [Hno.out]
        exact ⟨rfl, HQ.out⟩)
    rcases Int.lt_or_le k 2 with h3 | h3
    · have hd : decide (2 ≤ k) = false := decide_eq_false (by omega)
      go_enter Try.func9, Try.ntmps9
      go_wp2_with fail
      rw [← hw0]
      clear hw0
      go_region
      all_goals (
        go_wp2_with fail
        go_ret
        rw [Hno.out]
        exact ⟨rfl, HQ.out⟩)
    have h4 : 32 < k := by omega
    have hd : decide (k ≤ 32) = false := decide_eq_false (by omega)
    go_enter Try.func9, Try.ntmps9
    go_wp2_with fail
    rw [← hw0]
    clear hw0
    go_region
    all_goals (
      go_wp2_with fail
      go_ret
      rw [Hno.out]
      exact ⟨rfl, HQ.out⟩)

section
variable {w : World} {F : Nat → Prop} {m R cap : Nat} {bl : List (List UInt8)} {vs : Nat → Value} {gs : Nat → Nat}
theorem FiLeft_nil (g : Geo) (w : World) (hg : geoIn g) : Calls Try.prog 19 #[.nilIface, .agg #[.int .i64 g.n, .int .i64 g.k]] w fun e w' => ∃ n, e = .returned (.tuple #[.int .i64 n, .int .i64 1]) ∧ Below w.heap.size w w' := by
  have HN := Lib.hid FiNil_yes
  obtain ⟨gn, gk⟩ := g
  have HB : Hid (Below w.heap.size w (w.alloc (.cells #[.int .i64 gn, .int .i64 gk] 23))) := (Below.refl _ _).alloc (Nat.le_refl _) _
  go_enter Try.func19, Try.ntmps19
  go_wp2_with fail
  refine (HN.out _).mono ?_
  rintro e w1 ⟨rfl, rfl⟩
  go_wp2_with fail
  go_ret2
  exact ⟨0, rfl, HB.out⟩
/-- What Left hands back. -/
def LeftP (g : Geo) (bl : List (List UInt8)) (n h : Int) : Prop := if gmay g then h = 0 ∧ n = freeN g bl else h = 1 ∧ n = 0
theorem FiLeft_any (h : MemL w F m bl R cap vs gs) (g : Geo) (hg : geoIn g) : Calls Try.prog 19 #[sto m, .agg #[.int .i64 g.n, .int .i64 g.k]] w fun e w' =>
    ∃ n h, e = .returned (.tuple #[.int .i64 n, .int .i64 h]) ∧ LeftP g bl n h ∧ Below w.heap.size w w' := by
  have HN := Lib.hid (FiNil_no m)
  have HM := Lib.hid (fun W => FiMay_any g W hg)
  have HLd := Lib.hid (fun W (hW : Below w.heap.size w W) => FiLoad_in (h.below hW) 0 h.pos)
  by_cases hgm : gmay g = true
  · obtain ⟨g1, g2, g3, g4, g5⟩ := gmay_iff.1 hgm
    have hf5 := gfirst_le g4
    have HF : Hid (∀ W, Calls Try.prog 10 #[.agg #[.int .i64 g.n, .int .i64 g.k]] W fun e w' => e = .returned (.int .i64 (gfirst g)) ∧ Below W.heap.size W w') := fun W => FiFirst_any g.n g.k ⟨by omega, by omega⟩ (by omega) W
    have HQ : Hid (∀ (e : Ending) (w' : World), e = .returned (.tuple #[.int .i64 (g.n - (gfirst g : Int) - (Bm.count (Fil.blk bl 0) (gfirst g) g.n : Nat)), .int .i64 0]) → Below w.heap.size w w' → ∃ n h, e = .returned (.tuple #[.int .i64 n, .int .i64 h]) ∧ LeftP g bl n h ∧ Below w.heap.size w w') := fun e w' he hb =>
      ⟨_, _, he, by unfold LeftP; rw [if_pos hgm]; exact ⟨rfl, rfl⟩, hb⟩
    have HCt : Hid (∀ (W : World) (v : Value) (q : Nat), Blk W v q (Fil.blk bl 0) → Calls Try.prog 38 #[v, .int .i64 (gfirst g : Int), .int .i64 g.n] W fun e w' => e = .returned (.int .i64 (Bm.count (Fil.blk bl 0) (gfirst g) g.n)) ∧ Below W.heap.size W w') := fun W v q hv =>
      BmCount_any (Fil.blk bl 0) (gfirst g : Int) g.n v W (by have := hv.len; omega) ⟨by omega, by omega⟩ ⟨by omega, by omega⟩ hv.arg
    have hcl : Bm.count (Fil.blk bl 0) (gfirst g) g.n ≤ 512 := by
      have := Bm.count_le (Fil.blk bl 0) (gfirst g) g.n
      have h64 := (h.blk 0 h.pos).len
      omega
    rw [hgm] at HM
    clear h
    generalize Fil.blk bl 0 = b0 at *
    generalize Bm.count b0 (gfirst g) g.n = ct at *
    have hcti : (ct : Int) ≤ 512 := by omega
    obtain ⟨gn, gk⟩ := g
    simp only at *
    clear hgm g5
    generalize gfirst ⟨gn, gk⟩ = fi at *
    have HB : Hid (Below w.heap.size w (w.alloc (.cells #[.int .i64 gn, .int .i64 gk] 23))) := (Below.refl _ _).alloc (Nat.le_refl _) _
    have HG : Hid (Row (w.alloc (.cells #[.int .i64 gn, .int .i64 gk] 23)) w.heap.size 23 [.int .i64 gn, .int .i64 gk]) := Row.new w _ _
    have hfi : (fi : Int) ≤ 5 := by omega
    have HW : Hid (IntKind.i64.wrap (IntKind.i64.wrap (gn - (fi : Int)) - (ct : Int)) = gn - fi - ct) := by
      show _ = _
      rw [Bm.wrapB (gn - (fi : Int)) ⟨by omega, by omega⟩, Bm.wrapB (gn - (fi : Int) - (ct : Int)) ⟨by omega, by omega⟩]
    go_enter Try.func19, Try.ntmps19
    go_wp2_with fail
    refine (HN.out _).mono ?_
    rintro e w1 ⟨rfl, rfl⟩
    go_wp2_with fail
    refine (HM.out _).mono ?_
    rintro e w2 ⟨rfl, hB2⟩
    have HB2 := Lib.hid (HB.out.trans (hB2.mono HB.out.size))
    have HG2 := Lib.hid (HG.out.below hB2 HG.out.lt)
    have HL := Lib.hid (HLd.out w2 HB2.out)
    have c20 := HG2.out.cell 0
    have c21 := HG2.out.cell 1
    simp only [List.getElem?_cons_zero, List.getElem?_cons_succ] at c20 c21
    clear hB2 HB HG HN HM HLd
    go_wp2_with fail
    refine HL.out.mono ?_
    rintro e w3 ⟨v, q, rfl, hv, hq, hB3⟩
    obtain ⟨cv, rfl, -⟩ := hv.out.val
    have HB3 := Lib.hid (HB2.out.trans (hB3.mono HB2.out.size))
    have HG3 := Lib.hid (HG2.out.below hB3 HG2.out.lt)
    have c30 := HG3.out.cell 0
    have c31 := HG3.out.cell 1
    simp only [List.getElem?_cons_zero, List.getElem?_cons_succ] at c30 c31
    clear hB3 HL hq HB2 HG2 c20 c21
    go_wp2_with fail
    refine (HF.out w3).mono ?_
    rintro e w4 ⟨rfl, hB4⟩
    have HB4 := Lib.hid (HB3.out.trans (hB4.mono HB3.out.size))
    have HG4 := Lib.hid (HG3.out.below hB4 HG3.out.lt)
    have HV4 := Lib.hid (hv.out.below hB4)
    have c40 := HG4.out.cell 0
    simp only [List.getElem?_cons_zero] at c40
    have HCw := Lib.hid (HCt.out w4.drew _ q (HV4.out.below (below_drewN (Below.refl _ _) 1)))
    clear hB4 HF hv HB3 HG3 c30 c31 HCt
    go_wp2_with fail
    go_region_with (go_at_call 38; refine HCw.out.mono ?_; rintro e w5 ⟨rfl, hB5⟩; have HB5 : Hid (Below w.heap.size w w5) := HB4.out.trans (((below_drewN (Below.refl w4.heap.size w4) 1).trans hB5).mono HB4.out.size); have c50 : w5.cell? ⟨w.heap.size, 0, none⟩ = some (.int .i64 gn) := (HG4.out.below ((below_drewN (Below.refl w4.heap.size w4) 1).trans hB5) HG4.out.lt).cell 0; clear hB5)
    all_goals (
      go_wp2_with fail
      go_ret2
      refine HQ.out _ _ ?_ HB5.out
      show Ending.returned (Value.tuple #[.int .i64 (IntKind.i64.wrap (IntKind.i64.wrap (gn - (fi : Int)) - (ct : Int))), .int .i64 0]) = _
      rw [HW.out])
  · have hgf : gmay g = false := by simpa using hgm
    rw [hgf] at HM
    have HB : Hid (Below w.heap.size w (w.alloc (.cells #[.int .i64 g.n, .int .i64 g.k] 23))) := (Below.refl _ _).alloc (Nat.le_refl _) _
    have HG := Lib.hid hgm
    obtain ⟨gn, gk⟩ := g
    clear h HLd hgm hgf
    go_enter Try.func19, Try.ntmps19
    go_wp2_with fail
    refine (HN.out _).mono ?_
    rintro e w1 ⟨rfl, rfl⟩
    go_wp2_with fail
    refine (HM.out _).mono ?_
    rintro e w2 ⟨rfl, hB2⟩
    have HB2 := Lib.hid (HB.out.trans (hB2.mono HB.out.size))
    clear hB2 HB HN HM
    go_wp2_with fail
    go_ret2
    exact ⟨0, 1, rfl, by unfold LeftP; rw [if_neg HG.out]; exact ⟨rfl, rfl⟩, HB2.out⟩
end
end Go.Proofs.Ytiafmghdiidniaa
