/-
  THE WALK of Nonce.
-/
import Derived.Test.YtjdpfeagicchnaaCB
namespace Go.Proofs.Ytjdpfeagicchnaa
open Go.RowKit Ctr

def Z12 : List Value := List.replicate 12 (.int .u8 0)
theorem zero12 (w : World) : (zeroValue 23).run Try.prog w = .ok (.agg Z12.toArray) w := by kernel_rfl
theorem Z12_eq : Z12 = ([] ++ [0, 0, 0, 0] ++ [0, 0, 0, 0, 0, 0, 0, 0] : List UInt8).map V8 := rfl
theorem big8_length (i : Nat) : (big 8 i).length = 8 := big_length 8 i

set_option maxRecDepth 100000 in
set_option maxHeartbeats 400000 in
theorem Nonce_any (d : Int) (b : Nat) (hb : (b : Int) = d % 4294967296) (v : Nat) (hv : v < 2 ^ 64) (w : World) :
    Calls Try.prog 7 #[.int .i64 d, .int .u64 v] w fun e w' => ∃ ts : List Value, Hid (Vec 12 (nnc b v) ts) ∧ e = .returned (.agg ts.toArray) ∧ Below w.heap.size w w' := by
  have hz := zero12
  obtain ⟨w0, hw0⟩ : ∃ w0, w0 = (w.alloc (.cells Z12.toArray 23)).alloc (.cells Z12.toArray 23) := ⟨_, rfl⟩
  have HR0 : Hid (Row w0 w.heap.size 23 Z12) := by rw [hw0]; exact (Row.new w 23 Z12).alloc _
  have HR1 : Hid (Row w0 (w.heap.size + 1) 23 (([] ++ [0, 0, 0, 0] ++ [0, 0, 0, 0, 0, 0, 0, 0] : List UInt8).map V8)) := by rw [hw0]; exact Row.newAt 23 Z12 (by simp)
  have HBL : Hid (Below w.heap.size w w0) := by rw [hw0]; exact ((Below.refl _ _).alloc (Nat.le_refl _) _).alloc (by simp) _
  have HBd := Lib.hid hb
  clear hb
  go_enter Try.func7, Try.ntmps7
  go_wp2_with fail
  rw [← hw0]
  clear hw0 hz
  rw [← HBd.out]
  refine (putNumber_any (w.heap.size + 1) 0 4 12 b (by have := HBd.out; omega) (by omega) 23 [] [0, 0, 0, 0] [0, 0, 0, 0, 0, 0, 0, 0] rfl rfl w0 HR1.out).mono ?_
  rintro e w1 ⟨rfl, Hr1, hg1⟩
  have HN1 : Hid (Row w1 w.heap.size 23 Z12) := HR0.out.grown hg1 (by simp)
  have HB1 : Hid (Below w.heap.size w w1) := HBL.out.grown hg1 HBL.out.size (fun k hk => by injection hk with hk; omega)
  have HC1 : Hid (Row w1 (w.heap.size + 1) 23 ((big 4 b ++ [0, 0, 0, 0, 0, 0, 0, 0] ++ []).map V8)) := by
    have := Hr1.out
    rw [List.nil_append] at this
    rw [List.append_nil]
    exact this
  clear HR0 HR1 HBL Hr1 hg1 HBd
  go_wp2_with fail
  refine (putNumber_any (w.heap.size + 1) 4 8 8 v hv (by omega) 23 (big 4 b) [0, 0, 0, 0, 0, 0, 0, 0] [] (big_length 4 b) rfl w1 HC1.out).mono ?_
  rintro e w2 ⟨rfl, Hr2, hg2⟩
  have HN2 : Hid (Row w2 w.heap.size 23 Z12) := HN1.out.grown hg2 (by simp)
  have HB2 : Hid (Below w.heap.size w w2) := HB1.out.grown hg2 HB1.out.size (fun k hk => by injection hk with hk; omega)
  rw [List.append_nil] at Hr2
  have HV : Hid (Vec 12 (nnc b v) ((big 4 b ++ big 8 v).map V8)) := Vec.mk 12 _ (nnc_length b v)
  obtain ⟨ts, hts⟩ : ∃ ts, ts = (big 4 b ++ big 8 v).map V8 := ⟨_, rfl⟩
  rw [← hts] at Hr2 HV
  have Hzt : Hid (ts.toArray.size = 12) := HV.out.size
  have Hone : Hid (ts.toArray.all (·.oneCell') = true) := HV.out.one
  clear hts hg2 HN1 HB1 HC1
  go_wp2_with (first
    | (refine wpList_load_row rfl 23 (.tmp 5) rfl (w.heap.size + 1) rfl 23 ts.toArray (0, 0) _ Hr2.out Try.underlying23 rfl (by rw [Hzt.out]; kernel_rfl) ?_)
    | (refine wpList_store_row rfl 23 (.tmp 4) (.tmp 14) rfl w.heap.size ts.toArray rfl rfl 23 _ HN2.out (by rw [Hzt.out]; kernel_rfl) (by rw [Hzt.out]; rfl) Hone.out ?_))
  have hlast := HN2.out.whole ts
  have hinfo : (Try.prog.info? 23).map (·.size) = some ts.toArray.size := by rw [Hzt.out]; kernel_rfl
  refine bodyPost_ret (v := .agg ts.toArray) (results_cell_row rfl _ _ w.heap.size 23 ts.toArray (0, 0) _ rfl hlast Try.underlying23 rfl hinfo) rfl ?_
  exact ⟨ts, HV, rfl, below_setRow' HB2.out (Nat.le_refl _) _⟩
end Go.Proofs.Ytjdpfeagicchnaa
