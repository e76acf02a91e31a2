/-
  PLAIN: an inode's numbers in their widths; THE WALKS of the program's May and Put.
-/
import Derived.Test.YtcpdhfgigopfoaaIV
namespace Go.Proofs.Ytcpdhfgigopfoaa
open Go.RowKit Cdc Inn

namespace Inn
/-- An inode's numbers. -/
def vals (x : Ino) : List Nat := x.l.map Int.toNat
theorem vals_len (x : Ino) : (vals x).length = 7 := rfl
theorem u8_eq (a b : UInt8) (h : a.toNat = b.toNat) : a = b := UInt8.toNat_inj.1 h
theorem encs_vals {x : Ino} (h : may x = true) : okP widthsL (vals x) = true ∧ encs widthsL (vals x) = enc x := by
  have hb := may_bounds h
  obtain ⟨k, b, b0, b1, b2, b3, d⟩ := x
  simp only at hb
  refine ⟨okP_iff.2 ⟨by decide, rfl, ?_⟩, ?_⟩
  · simp only [fit, widthsL, vals, Ino.l, List.map_cons, List.map_nil, Bool.and_eq_true, decide_eq_true_eq, and_true]
    have e1 : (256 : Nat) ^ (1 : Int).toNat = 256 := rfl
    have e2 : (256 : Nat) ^ (2 : Int).toNat = 65536 := rfl
    rw [e1, e2]
    omega
  · have hby : ∀ z : Int, 0 ≤ z → z < 256 → UInt8.ofNat z.toNat = by8 z := fun z h0 h1 => by
      unfold by8
      rw [show (z % 256).toNat = z.toNat by omega]
    show [UInt8.ofNat k.toNat, UInt8.ofNat (b.toNat / 256), UInt8.ofNat b.toNat, UInt8.ofNat b0.toNat, UInt8.ofNat b1.toNat, UInt8.ofNat b2.toNat, UInt8.ofNat b3.toNat, UInt8.ofNat d.toNat] = [by8 k, by8 (b / 256), by8 b, by8 b0, by8 b1, by8 b2, by8 b3, by8 d]
    rw [hby k (by omega) (by omega), hby b0 (by omega) (by omega), hby b1 (by omega) (by omega), hby b2 (by omega) (by omega), hby b3 (by omega) (by omega), hby d (by omega) (by omega)]
    have h1 : UInt8.ofNat (b.toNat / 256) = by8 (b / 256) := by
      rw [← hby (b / 256) (by omega) (by omega)]
      congr 1
      omega
    have h2 : UInt8.ofNat b.toNat = by8 b := by
      apply u8_eq
      unfold by8
      rw [UInt8.toNat_ofNat', UInt8.toNat_ofNat']
      omega
    rw [h1, h2]
theorem vals_small {x : Ino} (h : may x = true) : ∀ n ∈ vals x, n < 2 ^ 64 := by
  have hb := may_bounds h
  intro n hn
  simp only [vals, Ino.l, List.map_cons, List.map_nil, List.mem_cons, List.not_mem_nil, or_false] at hn
  have : (2 : Nat) ^ 64 = 18446744073709551616 := by decide
  omega
theorem vals_at (x : Ino) (j : Nat) (hj : j < 5) : (vals x).getD (2 + j) 0 = ((nm x).getD j 0).toNat := by
  match j, hj with
  | 0, _ => rfl
  | 1, _ => rfl
  | 2, _ => rfl
  | 3, _ => rfl
  | 4, _ => rfl
theorem nm_small {x : Ino} (h : may x = true) (j : Nat) (hj : j < 5) : 0 ≤ (nm x).getD j 0 ∧ (nm x).getD j 0 ≤ 127 := by
  have hb := may_bounds h
  match j, hj with
  | 0, _ => exact ⟨by show 0 ≤ x.b0; omega, by show x.b0 ≤ 127; omega⟩
  | 1, _ => exact ⟨by show 0 ≤ x.b1; omega, by show x.b1 ≤ 127; omega⟩
  | 2, _ => exact ⟨by show 0 ≤ x.b2; omega, by show x.b2 ≤ 127; omega⟩
  | 3, _ => exact ⟨by show 0 ≤ x.b3; omega, by show x.b3 ≤ 127; omega⟩
  | 4, _ => exact ⟨by show 0 ≤ x.d; omega, by show x.d ≤ 127; omega⟩
end Inn

set_option maxRecDepth 100000 in
set_option maxHeartbeats 4000000 in
theorem InMay_any (x : Ino) (hf : x.fits) (w : World) :
    Calls Try.prog 8 #[.agg (inoC x)] w fun e w' => e = .returned (.bool (may x)) ∧ Below w.heap.size w w' := by
  by_cases h12 : x.k = 1 ∨ x.k = 2
  · exact InMay_used x hf h12 w
  obtain ⟨w0, hw0⟩ : ∃ w0, w0 = w.alloc (.cells (inoC x) 24) := ⟨_, rfl⟩
  have HR : Hid (Row w0 w.heap.size 24 (x.l.map VI)) := by rw [hw0]; exact Row.new w 24 (x.l.map VI)
  have HC : Hid (Below w.heap.size w w0) := by rw [hw0]; exact (Below.refl _ _).alloc (Nat.le_refl _) _
  have ck : w0.cell? ⟨w.heap.size, 0, none⟩ = some (.int .i64 x.k) := rowI HR.out 0 (by rw [l_len]; omega)
  rw [hw0] at ck
  by_cases h0 : x.k = 0
  · obtain ⟨r, hr⟩ : ∃ r, r = may x := ⟨_, rfl⟩
    rw [← hr]
    have hrz : r = decide (x = zero) := by rw [hr, Bool.eq_iff_iff, may_free h0, decide_eq_true_iff]
    obtain ⟨cs, hcs⟩ : ∃ cs, cs = inoC x := ⟨_, rfl⟩
    have Hcs : Hid (cs = (x.l.map VI).toArray) := hcs
    have Hsz : Hid (cs.size = 7) := by show _ = _; rw [hcs]; rfl
    have heq : ∀ W, (Op.equalIn 10000 24 (.agg cs) (.agg #[.int .i64 0, .int .i64 0, .int .i64 0, .int .i64 0, .int .i64 0, .int .i64 0, .int .i64 0])).run Try.prog W = .ok r W := fun W => by
      have := ino_eqD x zero W
      rw [inoZ, ← hcs, ← hrz] at this
      exact this
    rw [← hcs] at hw0 ck ⊢
    rw [h0] at ck
    clear hcs hr hrz h12 h0
    go_enter Try.func8, Try.ntmps8
    go_wp2_with (refine wpList_load_row rfl 24 (.tmp 1) rfl w.heap.size rfl 24 cs (0, 0) _ (by rw [← hw0, Hcs.out]; exact HR.out) Try.underlying24 rfl (by rw [Hsz.out]; kernel_rfl) ?_)
    rw [← hw0]
    go_ret
    exact ⟨rfl, HC.out⟩
  · rw [may_other h0 (fun h => h12 (.inl h)) (fun h => h12 (.inr h))]
    have e0 : (x.k == 0) = false := beq_eq_false_iff_ne.2 h0
    have e1 : (x.k == 1) = false := beq_eq_false_iff_ne.2 fun h => h12 (.inl h)
    have e2 : (x.k == 2) = false := beq_eq_false_iff_ne.2 fun h => h12 (.inr h)
    clear h12 h0
    generalize inoC x = cs at *
    generalize x.k = k at *
    go_enter Try.func8, Try.ntmps8
    go_wp2_with fail
    rw [← hw0]
    go_ret
    exact ⟨rfl, HC.out⟩
end Go.Proofs.Ytcpdhfgigopfoaa
