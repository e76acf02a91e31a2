/-
  THE WALKS of numberBytes and of the function that it returns.
-/
import Derived.Test.YtcpdhfgigopfoaaKC
import Derived.RangeFuncNested
import Derived.RangeFuncBound
import Derived.RangeFuncCalls
import Derived.RangeFuncLeaves
import Derived.Shelf.Abstract
import Derived.Shelf.RegionOpen
import Derived.OwnWalkIn
import Derived.TacticsInMore
import Derived.LoopNIn
import Derived.LoopIn
import Derived.Maps.AppendAt
namespace Go.Proofs.Ytcpdhfgigopfoaa
open Go.RowKit Go.Shelf Cdc

attribute [local go_sem] Oper.semAt_some

/-- What a round keeps: the two variables that the iterator reads. -/
def KeepB (gw gx : Nat) (W W' : World) : Prop := (∀ v, Boxed W gw 3 v → Boxed W' gw 3 v) ∧ (∀ v, Boxed W gx 40 v → Boxed W' gx 40 v)

theorem numBytes_any (x : Int) (j : Int) (w : World) :
    Calls Try.prog 23 #[.int .u64 x, .int .i64 j] w fun e w' => e = .returned (.func (.func 26) #[] #[.pointer (some ⟨w.heap.size + 1, 0, none⟩), .pointer (some ⟨w.heap.size, 0, none⟩)]) ∧ w' = (w.alloc (.cells #[.int .u64 x] 40)).alloc (.cells #[.int .i64 j] 3) := by
  go_enter Try.func23, Try.ntmps23
  go_wp2
  go_ret
  exact ⟨rfl, rfl⟩

set_option maxRecDepth 100000 in
set_option maxHeartbeats 1000000 in
theorem numBytes1_in (F : Fence) (n : Nat) (hF : F.fn 26) (hro : F.round = none) (hn : 1 ≤ n) (l gw gx : Nat) (y j : Nat) (hj : j ≤ 8) (J Jx : List UInt8 → World → Prop)
    (hY : ∀ pre x W, J pre W → pre.length < j → YieldAt F (n - 1) Try.prog l #[V8 x] W fun e W' =>
      (e = .returned (.bool true) ∧ J (pre ++ [x]) W' ∧ KeepB gw gx W W') ∨ (e = .returned (.bool false) ∧ Jx (pre ++ [x]) W'))
    (W : World) (hw : Boxed W gw 3 (.int .i64 j)) (hx : Boxed W gx 40 (.int .u64 y)) (h0 : J [] W) :
    CallsIn F n Try.prog 26 #[.func (.yield l) #[] #[], .pointer (some ⟨gw, 0, none⟩), .pointer (some ⟨gx, 0, none⟩)] W fun e W' => (∃ v, e = .returned v) ∧
      ((∃ ys, ys = big j y ∧ J ys W') ∨ (∃ pre, pre.length ≤ j ∧ Jx pre W')) := by
  refine callsIn_of_wp Try.func26 rfl hF ?_ hro
  simp only [Try.ntmps26, List.size_toArray, List.length_cons, List.length_nil, Nat.reduceAdd, Nat.reduceSub, Array.replicate_succ, Array.replicate_zero, List.push_toArray, List.append_toArray, List.nil_append, List.cons_append]
  have hc := hw.cell
  gi_wp2
  gi_loopw [4] (fun p wr => ∃ (m : Nat), m ≤ j ∧ p = .int .i64 ((m : Int) - 1) ∧ Boxed wr gw 3 (.int .i64 j) ∧ Boxed wr gx 40 (.int .u64 y) ∧ J (big (j - m) (y / 256 ^ m)) wr)
    (fun p _ => (intOf p + 1).toNat)
  case atStart => exact ⟨j, Nat.le_refl _, rfl, hw, hx, by rw [Nat.sub_self]; exact h0⟩
  case round =>
    obtain ⟨m, hm, rfl, hbw, hbx, hJ⟩ := hrel
    rcases Nat.eq_zero_or_pos m with rfl | hpos
    · gi_wp2
      go_end0
      rw [Nat.sub_zero, Nat.pow_zero, Nat.div_one] at hJ
      exact ⟨⟨_, rfl⟩, .inl ⟨_, rfl, hJ⟩⟩
    · obtain ⟨i, rfl⟩ : ∃ i, m = i + 1 := ⟨m - 1, by omega⟩
      have e1 : ((i + 1 : Nat) : Int) - 1 = (i : Int) := by omega
      rw [e1]
      obtain ⟨fn, tmps, assign, body, hyy, hR⟩ := hY _ (UInt8.ofNat (y / 256 ^ i)) wr hJ (by rw [big_length]; omega)
      have c1 := hbw.cell
      have c2 := hbx.cell
      rw [byte_shr] at hyy
      gi_wp2
      refine hR.mono ?_
      rintro e W3 (⟨rfl, hJ3, hk3⟩ | ⟨rfl, hJx3⟩)
      · have hbw3 := hk3.1 _ hbw
        have hbx3 := hk3.2 _ hbx
        clear hk3 hR hyy c1 c2 hbw hbx
        gi_wp2
        go_roundw
        case rel =>
          refine ⟨i, by omega, rfl, hbw3, hbx3, ?_⟩
          rw [big_step j i y (by omega)] at hJ3
          exact hJ3
        case measure => simp only [intOf]; omega
      · gi_wp2
        refine bodyPost_ret (results_none rfl _ _ _) rfl ?_
        exact ⟨⟨_, rfl⟩, .inr ⟨_, by rw [List.length_append, big_length]; simp; omega, hJx3⟩⟩

/-- The function that numberBytes returns gives the bytes of the number. -/
theorem numBytes_stops (F : Fence) (n : Nat) (hF : F.fn 26) (hro : F.round = none) (hn : 1 ≤ n) (gw gx : Nat) (y j : Nat) (hj : j ≤ 8) (w : World) (hw : Boxed w gw 3 (.int .i64 j)) (hx : Boxed w gx 40 (.int .u64 y)) :
    SeqStopsK F n Try.prog 26 #[.pointer (some ⟨gw, 0, none⟩), .pointer (some ⟨gx, 0, none⟩)] (fun x : UInt8 => #[V8 x]) (KeepB gw gx) (fun ys => ys = big j y) (fun pre => pre.length ≤ j) j w := fun l J Jx W hW _ _ hY h0 =>
  numBytes1_in F n hF hro hn l gw gx y j hj J Jx hY W ((hW.block gw hw.lt).trans hw) ((hW.block gx hx.lt).trans hx) h0
end Go.Proofs.Ytcpdhfgigopfoaa
