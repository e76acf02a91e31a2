/-
  TAGS compared with ==: two tags of the same bytes are equal.
-/
import Derived.Test.YtcmledlghipcbaaDoorTA
import Derived.Laws.StructEq
namespace Go.Proofs.YtcmledlghipcbaaDoor
open Go.RowKit Sha

theorem tag_eq (bs : List UInt8) (rs : List Value) (h : Vec 32 bs rs) (w : World) : (Op.equalIn 10000 28 (.agg rs.toArray) (.agg rs.toArray)).run Tryd.prog w = .ok true w := by
  have hs : (sizeOf 5).run Tryd.prog w = .ok 1 w := by kernel_rfl
  have ha : (isAgg 5).run Tryd.prog w = .ok false w := by kernel_rfl
  rw [show (10000 : Nat) = 9999 + 1 from rfl, Op.equalIn]
  simp only [Sem.run_bind, run_underlying Tryd.underlying28, Result.andThen_ok, hs]
  simp only [Std.Legacy.Range.forIn_eq_forIn_range', Std.Legacy.Range.size, Nat.sub_zero, Nat.add_sub_cancel, Nat.div_one]
  have key : ∀ L : List Nat, (∀ i ∈ L, i < 32) → (forIn (m := Sem) L ((none, ()) : Option Bool × Unit) fun i _ => do
            let a ← part 5 rs.toArray (i * 1)
            let b ← part 5 rs.toArray (i * 1)
            let c ← Op.equalIn 9999 5 a b
            if (!c) = true then pure (ForInStep.done ((some false, ()) : Option Bool × Unit)) else pure (ForInStep.yield (none, ()))).run Tryd.prog w = .ok (none, ()) w := by
    intro L
    induction L with
    | nil => intro _; rfl
    | cons i r ih =>
      intro hL
      have hi : i < 32 := hL i (by simp)
      have hx : rs[i]? = some (.int .u8 (bs.getD i 0).toNat) := by
        rw [h.1, List.getElem?_map, List.getElem?_eq_getElem (by rw [h.2]; exact hi), List.getD_eq_getElem?_getD, List.getElem?_eq_getElem (by rw [h.2]; exact hi)]
        rfl
      have hp : (part 5 rs.toArray (i * 1)).run Tryd.prog w = .ok (.int .u8 (bs.getD i 0).toNat) w := by
        simp only [part, Sem.run_bind, ha, Result.andThen_ok]
        simp [hx]
      have he : (Op.equalIn 9999 5 (.int .u8 ((bs.getD i 0).toNat : Int)) (.int .u8 ((bs.getD i 0).toNat : Int))).run Tryd.prog w = .ok true w := by
        rw [show (9999 : Nat) = 9998 + 1 from rfl, run_equalIn_int w 9998 5 .u8 .u8 _ _ Tryd.underlying5]
        simp
      rw [List.forIn_cons]
      simp only [Sem.run_bind, hp, Result.andThen_ok, he, Bool.not_true, Bool.false_eq_true, if_false, Sem.run_pure]
      exact ih (fun j hj => hL j (by simp [hj]))
  rw [key _ (fun i hi => by simpa using (List.mem_range'_1.1 hi).2)]
  rfl
end Go.Proofs.YtcmledlghipcbaaDoor
