/-
  THE WALK of mixColumns.
-/
import Derived.Test.YtjdpfeagicchnaaEE
namespace Go.Proofs.Ytjdpfeagicchnaa
open Go.RowKit Aes

/-- The four bytes of a mixed column, as the program works them out. -/
theorem mixed (b : List UInt8) (c a : Nat) (ha : a = 4 * c) (hc : c < 4) :
    (mixC b).getD a 0 = dbl (b.getD a 0) ^^^ tpl (b.getD (a + 1) 0) ^^^ b.getD (a + 2) 0 ^^^ b.getD (a + 3) 0 ∧
    (mixC b).getD (a + 1) 0 = b.getD a 0 ^^^ dbl (b.getD (a + 1) 0) ^^^ tpl (b.getD (a + 2) 0) ^^^ b.getD (a + 3) 0 ∧
    (mixC b).getD (a + 2) 0 = b.getD a 0 ^^^ b.getD (a + 1) 0 ^^^ dbl (b.getD (a + 2) 0) ^^^ tpl (b.getD (a + 3) 0) ∧
    (mixC b).getD (a + 3) 0 = tpl (b.getD a 0) ^^^ b.getD (a + 1) 0 ^^^ b.getD (a + 2) 0 ^^^ dbl (b.getD (a + 3) 0) := by
  subst ha
  rw [mixC_at b _ (by omega), mixC_at b _ (by omega), mixC_at b _ (by omega), mixC_at b _ (by omega)]
  unfold mixAt
  rw [show 4 * (4 * c / 4) = 4 * c by omega, show 4 * ((4 * c + 1) / 4) = 4 * c by omega, show 4 * ((4 * c + 2) / 4) = 4 * c by omega, show 4 * ((4 * c + 3) / 4) = 4 * c by omega,
    show (4 * c + 1) % 4 = 1 by omega, show (4 * c + 2) % 4 = 2 by omega, show (4 * c + 3) % 4 = 3 by omega, show (4 * c + 1 + 3) % 4 = 0 by omega,
    show (4 * c + 2 + 3) % 4 = 1 by omega, show (4 * c + 3 + 3) % 4 = 2 by omega, Nat.add_zero]
  refine ⟨rfl, ?_, ?_, ?_⟩ <;> ac_rfl

theorem mixed_row {w wr : World} {g : Nat} {t : TypeId} {b : List UInt8} (c a : Nat) (hb : b.length = 16) (ha : a = 4 * c) (hc : c < 4) (h : Row wr g t ((upd (mixC b) b a).map V8)) (hw : Below w.heap.size w wr) (hg : w.heap.size ≤ g) {x y z u : UInt8}
    (hx : b.getD a 0 = x) (hy : b.getD (a + 1) 0 = y) (hz : b.getD (a + 2) 0 = z) (hu : b.getD (a + 3) 0 = u) :
    ∀ X, X = (((wr.setCell ⟨g, a, none⟩ (.int .u8 (bits .xor .u8 (bits .xor .u8 (bits .xor .u8 ((dbl x).toNat : Int) (tpl y).toNat) z.toNat) u.toNat))).setCell ⟨g, a + 1, none⟩ (.int .u8 (bits .xor .u8 (bits .xor .u8 (bits .xor .u8 (x.toNat : Int) (dbl y).toNat) (tpl z).toNat) u.toNat))).setCell ⟨g, a + 2, none⟩ (.int .u8 (bits .xor .u8 (bits .xor .u8 (bits .xor .u8 (x.toNat : Int) y.toNat) (dbl z).toNat) (tpl u).toNat))).setCell ⟨g, a + 3, none⟩ (.int .u8 (bits .xor .u8 (bits .xor .u8 (bits .xor .u8 ((tpl x).toNat : Int) y.toNat) z.toNat) (dbl u).toNat)) →
      Row X g t ((upd (mixC b) b (a + 4)).map V8) ∧ Below w.heap.size w X ∧ ∀ g', g' ≠ g → X.heap[g']? = wr.heap[g']? := by
  rintro X rfl
  obtain ⟨m0, m1, m2, m3⟩ := mixed b c a ha hc
  subst hx hy hz hu
  have hl : b.length = (mixC b).length := by rw [mixC_length, hb]
  have hn : (mixC b).length = 16 := mixC_length b
  refine ⟨?_, ?_, ?_⟩
  · exact upd_put (upd_put (upd_put (upd_put h hl (by omega) (by rw [m0, xor8, xor8, xor8])) hl (by omega) (by rw [m1, xor8, xor8, xor8])) hl (by omega) (by rw [m2, xor8, xor8, xor8])) hl (by omega) (by rw [m3, xor8, xor8, xor8])
  · exact (((hw.setCell hg _).setCell hg _).setCell hg _).setCell hg _
  · intro g' hg'
    rw [heap_setCell_other _ _ _ _ hg', heap_setCell_other _ _ _ _ hg', heap_setCell_other _ _ _ _ hg', heap_setCell_other _ _ _ _ hg']

set_option maxRecDepth 100000 in
set_option maxHeartbeats 1000000 in
theorem mixColumns_any (b : List UInt8) (rs : List Value) (hv : Vec 16 b rs) (w : World) :
    Calls Try.prog 26 #[.agg rs.toArray] w fun e w' => ∃ ts : List Value, Hid (Vec 16 (mixC b) ts) ∧ e = .returned (.agg ts.toArray) ∧ Below w.heap.size w w' := by
  have HV := Lib.hid hv
  have hz := zero16
  have Hlen2 : Hid ((mixC b).length = 16) := mixC_length b
  have Hlen : Hid (b.length = (mixC b).length) := hv.2.trans Hlen2.out.symm
  clear hv
  go_enter Try.func26, Try.ntmps26
  go_wp2
  clear hz
  go_loopw [3, 4, 5, 6, 7] (fun i _ _ _ _ wr => ∃ c a : Nat, c ≤ 4 ∧ Hid (a = 4 * c) ∧ i = .int .i64 a ∧ Row wr w.heap.size 22 ((upd (mixC b) b a).map V8) ∧ Row wr (w.heap.size + 1) 22 Z16 ∧ Below w.heap.size w wr) (fun i _ _ _ _ _ => 16 - (intOf i).toNat)
  case atStart => exact ⟨0, 0, by omega, rfl, rfl, by rw [upd_zero]; exact HV.out.row ((Row.new w 22 rs).alloc _), Row.newAt _ Z16 (by simp), ((Below.refl _ _).alloc (Nat.le_refl _) _).alloc (by simp) _⟩
  case round =>
    obtain ⟨c, a, hc, Ha, rfl, hrow, hzr, hbel⟩ := hrel
    by_cases hlt : c < 4
    · have hal : a + 3 < 16 := by have := Ha.out; omega
      have c0 : wr.cell? ⟨w.heap.size, a, none⟩ = some (.int .u8 (b.getD a 0).toNat) := upd_cell hrow Hlen.out a (Nat.le_refl _) (by rw [Hlen2.out]; omega)
      have c1 : wr.cell? ⟨w.heap.size, a + 1, none⟩ = some (.int .u8 (b.getD (a + 1) 0).toNat) := upd_cell hrow Hlen.out (a + 1) (by omega) (by rw [Hlen2.out]; omega)
      have c2 : wr.cell? ⟨w.heap.size, a + 2, none⟩ = some (.int .u8 (b.getD (a + 2) 0).toNat) := upd_cell hrow Hlen.out (a + 2) (by omega) (by rw [Hlen2.out]; omega)
      have c3 : wr.cell? ⟨w.heap.size, a + 3, none⟩ = some (.int .u8 (b.getD (a + 3) 0).toNat) := upd_cell hrow Hlen.out (a + 3) (by omega) (by rw [Hlen2.out]; omega)
      have f0 : wr.frozen? ⟨w.heap.size, a, none⟩ = false := hrow.free a
      have f1 : wr.frozen? ⟨w.heap.size, a + 1, none⟩ = false := hrow.free (a + 1)
      have f2 : wr.frozen? ⟨w.heap.size, a + 2, none⟩ = false := hrow.free (a + 2)
      have f3 : wr.frozen? ⟨w.heap.size, a + 3, none⟩ = false := hrow.free (a + 3)
      obtain ⟨x, hx⟩ : ∃ x, b.getD a 0 = x := ⟨_, rfl⟩
      obtain ⟨y, hy⟩ : ∃ x, b.getD (a + 1) 0 = x := ⟨_, rfl⟩
      obtain ⟨z, hz⟩ : ∃ x, b.getD (a + 2) 0 = x := ⟨_, rfl⟩
      obtain ⟨u, hu⟩ : ∃ x, b.getD (a + 3) 0 = x := ⟨_, rfl⟩
      rw [hx] at c0
      rw [hy] at c1
      rw [hz] at c2
      rw [hu] at c3
      have Hx := Lib.hid hx
      have Hy := Lib.hid hy
      have Hz := Lib.hid hz
      have Hu := Lib.hid hu
      have Hrow := Lib.hid hrow
      clear hrow hx hy hz hu
      go_wp2
      have e1 : IntKind.i64.wrap ((a : Int) + 1) = (a : Int) + 1 := IntWalk.i64_in _ (by omega)
      have e2 : IntKind.i64.wrap ((a : Int) + 2) = (a : Int) + 2 := IntWalk.i64_in _ (by omega)
      have e3 : IntKind.i64.wrap ((a : Int) + 3) = (a : Int) + 3 := IntWalk.i64_in _ (by omega)
      have t1 : ((a : Int) + 1).toNat = a + 1 := by omega
      have t2 : ((a : Int) + 2).toNat = a + 2 := by omega
      have t3 : ((a : Int) + 3).toNat = a + 3 := by omega
      have p1 : 0 ≤ (a : Int) + 1 := by omega
      have p2 : 0 ≤ (a : Int) + 2 := by omega
      have p3 : 0 ≤ (a : Int) + 3 := by omega
      have q0 : (a : Int) < 16 := by omega
      have q1 : (a : Int) + 1 < 16 := by omega
      have q2 : (a : Int) + 2 < 16 := by omega
      have q3 : (a : Int) + 3 < 16 := by omega
      go_quiet (fail)
      clear e1 e2 e3 t1 t2 t3 p1 p2 p3
      go_wp2_with (first
        | (go_at_call 33; refine (double_any _ _).mono ?_; rintro e w' ⟨rfl, rfl⟩)
        | (go_at_call 29; refine (triple_any _ _).mono ?_; rintro e w' ⟨rfl, rfl⟩))
      go_roundw
      case rel =>
        obtain ⟨r1, r2, r3⟩ := mixed_row c a HV.out.2 Ha.out hlt (Hrow.out.drewN nq) (below_drewN hbel nq) (Nat.le_refl _) Hx.out Hy.out Hz.out Hu.out _ rfl
        exact ⟨c + 1, a + 4, by omega, by have := Ha.out; show _ = _; omega, by go_num, r1, (hzr.drewN nq).same (r3 _ (by omega)), r2⟩
      case measure => simp [intOf]; omega
    · obtain rfl : c = 4 := by omega
      obtain rfl : a = 16 := Ha.out
      rw [show ((16 : Nat) : Int) = 16 from rfl]
      obtain ⟨ts, Hts, HRt, Htz, Hone⟩ := full16 Hlen2.out (Hlen.out.trans Hlen2.out) hrow
      clear hrow
      go_wp2_with (first
        | (refine wpList_load_row rfl 22 (.tmp 1) rfl w.heap.size rfl 22 ts.toArray (0, 0) _ HRt.out Try.underlying22 rfl (by rw [Htz.out]; kernel_rfl) ?_)
        | (refine wpList_store_row rfl 22 (.tmp 2) (.tmp 74) rfl (w.heap.size + 1) ts.toArray rfl rfl 22 _ hzr (by rw [Htz.out]; kernel_rfl) (by rw [Htz.out]; rfl) Hone.out ?_))
      have hlast := hzr.whole ts
      have hinfo : (Try.prog.info? 22).map (·.size) = some ts.toArray.size := by rw [Htz.out]; kernel_rfl
      refine bodyPost_ret (v := .agg ts.toArray) (results_cell_row rfl _ _ (w.heap.size + 1) 22 ts.toArray (0, 0) _ rfl hlast Try.underlying22 rfl hinfo) rfl ?_
      exact ⟨ts, Hts, rfl, below_setRow' hbel (by omega) _⟩
end Go.Proofs.Ytjdpfeagicchnaa
