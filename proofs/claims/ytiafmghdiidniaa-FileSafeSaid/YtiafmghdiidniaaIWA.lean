/-
  THE WALK of the program's May.
-/
import Derived.Test.YtiafmghdiidniaaIV
namespace Go.Proofs.Ytiafmghdiidniaa
open Go.RowKit Cdc Inn

set_option maxRecDepth 100000 in
set_option maxHeartbeats 4000000 in
theorem InMay_any (x : Ino) (hf : x.fits) (w : World) :
    Calls Try.prog 46 #[.agg (inoC x)] w fun e w' => e = .returned (.bool (may x)) ∧ Below w.heap.size w w' := by
  by_cases h12 : x.k = 1 ∨ x.k = 2
  · exact InMay_used x hf h12 w
  obtain ⟨w0, hw0⟩ : ∃ w0, w0 = w.alloc (.cells (inoC x) 40) := ⟨_, rfl⟩
  have HR : Hid (Row w0 w.heap.size 40 (x.l.map VI)) := by rw [hw0]; exact Row.new w 40 (x.l.map VI)
  have HC : Hid (Below w.heap.size w w0) := by rw [hw0]; exact (Below.refl _ _).alloc (Nat.le_refl _) _
  have ck : w0.cell? ⟨w.heap.size, 0, none⟩ = some (.int .i64 x.k) := rowI HR.out 0 (by rw [l_len]; omega)
  rw [hw0] at ck
  by_cases h0 : x.k = 0
  · obtain ⟨r, hr⟩ : ∃ r, r = may x := ⟨_, rfl⟩
    rw [← hr]
    have hrz : r = decide (x = zero) := by rw [hr, Bool.eq_iff_iff, may_free h0, decide_eq_true_iff]
    obtain ⟨cs, hcs⟩ : ∃ cs, cs = inoC x := ⟨_, rfl⟩
    have Hcs : Hid (cs = (x.l.map VI).toArray) := hcs
    have Hsz : Hid (cs.size = 7) := by show _ = _; rw [hcs]; rfl
    have heq : ∀ W, (Op.equalIn 10000 40 (.agg cs) (.agg #[.int .i64 0, .int .i64 0, .int .i64 0, .int .i64 0, .int .i64 0, .int .i64 0, .int .i64 0])).run Try.prog W = .ok r W := fun W => by
      have := ino_eqD x zero W
      rw [inoZ, ← hcs, ← hrz] at this
      exact this
    rw [← hcs] at hw0 ck ⊢
    rw [h0] at ck
    clear hcs hr hrz h12 h0
    go_enter Try.func46, Try.ntmps46
    go_wp2_with (refine wpList_load_row rfl 40 (.tmp 1) rfl w.heap.size rfl 40 cs (0, 0) _ (by rw [← hw0, Hcs.out]; exact HR.out) Try.underlying40 rfl (by rw [Hsz.out]; kernel_rfl) ?_)
    rw [← hw0]
    go_ret
    exact ⟨rfl, HC.out⟩
  · rw [may_other h0 (fun h => h12 (.inl h)) (fun h => h12 (.inr h))]
    have e0 : (x.k == 0) = false := beq_eq_false_iff_ne.2 h0
    have e1 : (x.k == 1) = false := beq_eq_false_iff_ne.2 fun h => h12 (.inl h)
    have e2 : (x.k == 2) = false := beq_eq_false_iff_ne.2 fun h => h12 (.inr h)
    clear h12 h0
    generalize inoC x = cs at *
    generalize x.k = k at *
    go_enter Try.func46, Try.ntmps46
    go_wp2_with fail
    rw [← hw0]
    go_ret
    exact ⟨rfl, HC.out⟩
end Go.Proofs.Ytiafmghdiidniaa
