/-
  THE WALK of Sum: the program's answer is the digest of the state behind all blocks of the padded message.
-/
import Derived.Test.YtcmledlghipcbaaDoorF
namespace Go.Proofs.YtcmledlghipcbaaDoor
open Go.RowKit Sha

/-- A slice of bytes, nil let in. -/
def Arg (w : World) (v : Value) (bs : List UInt8) : Prop :=
  (∃ A, v = .slice A 0 0 ∧ bs = []) ∨ ∃ b o cap, v = .slice (some ⟨b, o, none⟩) bs.length cap ∧ b < w.heap.size ∧ bs.length ≤ cap ∧ Sees w b o (bs.map V8)
theorem Arg.below {w w' : World} {v : Value} {bs : List UInt8} (h : Arg w v bs) (hb : Below w.heap.size w w') : Arg w' v bs := by
  rcases h with h | ⟨b, o, cap, e, hl, hc, hs⟩
  · exact .inl h
  · exact .inr ⟨b, o, cap, e, Nat.lt_of_lt_of_le hl hb.size, hc, hs.below hb hl⟩

/-- The same, in another block than S. -/
def ArgOff (w : World) (S : Nat) (v : Value) (bs : List UInt8) : Prop :=
  (∃ A, v = .slice A 0 0 ∧ bs = []) ∨ ∃ b o cap, v = .slice (some ⟨b, o, none⟩) bs.length cap ∧ b < w.heap.size ∧ b ≠ S ∧ bs.length ≤ cap ∧ Sees w b o (bs.map V8)
theorem Arg.off {w w' : World} {S : Nat} {v : Value} {bs : List UInt8} (h : Arg w v bs) (hb : Below w.heap.size w w') (hS : w.heap.size ≤ S) : ArgOff w' S v bs := by
  rcases h with h | ⟨b, o, cap, e, hl, hc, hs⟩
  · exact .inl h
  · exact .inr ⟨b, o, cap, e, Nat.lt_of_lt_of_le hl hb.size, by omega, hc, hs.below hb hl⟩

theorem eachBlock_any (S : Nat) (v : Value) (K : List UInt32) (hKl : K.length = 64) (bs : List UInt8) (hn : bs.length ≤ 1000000) (w : World) (hS0 : 0 ≠ S) (h0 : 0 < w.heap.size)
    (hS : Row w S 61 (R0.list.map V32)) (hK : Sees w 0 0 (K.map V32)) (h : ArgOff w S v bs) :
    Calls Tryd.prog 29 #[v, .func (.func 30) #[.pointer (some ⟨S, 0, none⟩)] #[]] w fun e w' =>
      e = .returned (.tuple #[]) ∧ Hid (Row w' S 61 ((sumSt K bs).list.map V32)) ∧ w.grownBy w' (some S) := by
  rcases h with ⟨A, rfl, rfl⟩ | ⟨b, o, cap, rfl, hl, hbS, hc, hs⟩
  · refine (eachBlock_nil A S R0 K hKl w hS0 h0 hS hK).mono fun e w' h => ?_
    rw [← sum_split K []]
    exact h
  · refine (eachBlock_some S b o bs.length cap R0 K hKl bs rfl hn hc w hl hbS hS0 hS hK hs).mono fun e w' h => ?_
    rw [← sum_split K bs]
    exact h

theorem firstState_var (w : World) :
    Calls Tryd.prog 28 #[] w fun e w' => ∃ rs : List Value, Hid (rs = R0.list.map V32) ∧ e = .returned (.agg rs.toArray) ∧ Below w.heap.size w w' :=
  (firstState_any w).mono fun _ _ h => ⟨_, rfl, h⟩
theorem digest_var (S : Nat) (s : St) (w : World) (hS : Row w S 61 (s.list.map V32)) :
    Calls Tryd.prog 31 #[.pointer (some ⟨S, 0, none⟩)] w fun e w' => ∃ rs : List Value, Hid (rs = (dig s).map V8) ∧ Hid (rs.toArray.size = 32) ∧ Hid (rs.toArray.all (·.oneCell') = true) ∧ e = .returned (.agg rs.toArray) ∧ Below w.heap.size w w' :=
  (digest_any S s w hS).mono fun _ _ h => ⟨_, rfl, by show _ = _; rw [List.size_toArray, List.length_map, dig_length], one8 _, h⟩

/-- 32 zeros, eight zeros. -/
def Z32 : List Value := List.replicate 32 (.int .u8 0)
def Z8 : List Value := List.replicate 8 (.int .u32 0)
theorem zero32 (w : World) : (zeroValue 27).run Tryd.prog w = .ok (.agg Z32.toArray) w := by kernel_rfl
theorem zeroState (w : World) : (zeroValue 61).run Tryd.prog w = .ok (.agg Z8.toArray) w := by kernel_rfl

set_option maxRecDepth 100000 in
set_option maxHeartbeats 1000000 in
theorem Sum_any (v : Value) (K : List UInt32) (hKl : K.length = 64) (bs : List UInt8) (hn : bs.length ≤ 1000000) (w : World) (h0 : 0 < w.heap.size) (hK : Sees w 0 0 (K.map V32)) (h : Arg w v bs) :
    Calls Tryd.prog 22 #[v] w fun e w' => e = .returned (.agg ((dig (sumSt K bs)).map V8).toArray) ∧ Below w.heap.size w w' := by
  have HKl := Lib.hid hKl
  have HK := Lib.hid hK
  have HA := Lib.hid h
  clear hKl hK h
  have hz1 := zero32
  have hz2 := zeroState
  have hmf : ∀ (fn : Fn) (first cap : Array Value) (w : World), (Instr.makeFunc fn first cap).run Tryd.prog w = .ok (.func fn first cap) w := fun _ _ _ _ => rfl
  go_enter Tryd.func22, Tryd.ntmps22
  go_wp2_with fail
  refine (firstState_var _).mono ?_
  rintro e w1 ⟨rs, Hrs, rfl, hb1⟩
  have hsz1 : w.heap.size < w1.heap.size := by have := hb1.size; simp at this; omega
  have Hsz : Hid (rs.toArray.size = 8) := by rw [Hrs.out]; rfl
  have Hone : Hid (rs.toArray.all (·.oneCell') = true) := by rw [Hrs.out]; exact one32 _
  go_wp2_with (refine wpList_store_row rfl 61 (.tmp 3) (.tmp 4) rfl w1.heap.size rs.toArray rfl rfl 61 _ (Row.new w1 _ Z8) (by rw [Hsz.out]; kernel_rfl) (by rw [Hsz.out]; rfl) Hone.out ?_)
  have hbw : Below w.heap.size w w1 := ((Below.refl _ _).alloc (Nat.le_refl _) _).trans (hb1.mono (by simp))
  have H2 : Hid (Below w.heap.size w ((w1.alloc (.cells Z8.toArray 61)).setRow w1.heap.size rs.toArray)) := below_setRow' (hbw.alloc (by omega) _) (by omega) _
  have HN : Hid (Row ((w1.alloc (.cells Z8.toArray 61)).setRow w1.heap.size rs.toArray) w.heap.size 27 Z32) := (((Row.new w _ Z32).below hb1 (by simp)).alloc _).wholeOff (by omega) _
  have HR : Hid (Row ((w1.alloc (.cells Z8.toArray 61)).setRow w1.heap.size rs.toArray) w1.heap.size 61 (R0.list.map V32)) := by
    have := (Row.new w1 61 Z8).whole rs
    rw [Hrs.out] at this ⊢
    exact this
  have hsz2 : ((w1.alloc (.cells Z8.toArray 61)).setRow w1.heap.size rs.toArray).heap.size = w1.heap.size + 1 := by simp
  generalize (w1.alloc (.cells Z8.toArray 61)).setRow w1.heap.size rs.toArray = w2 at *
  refine (eachBlock_any w1.heap.size v K HKl.out bs hn w2 (by omega) (by omega) HR.out (HK.out.below H2.out h0) (HA.out.off H2.out (by omega))).mono ?_
  rintro e w3 ⟨rfl, HR3, hg3⟩
  have H3 : Hid (Below w.heap.size w w3) := H2.out.trans ⟨hg3.os, hg3.tape, hg3.output, hg3.size, fun k hk => hg3.block k (by omega) (by simp; omega)⟩
  have HN3 : Hid (Row w3 w.heap.size 27 Z32) := HN.out.grown hg3 (by simp; omega)
  clear hz1 hz2 hmf hsz2 HR hg3 HN H2 hbw hb1 Hrs Hsz Hone
  go_wp2_with fail
  refine (digest_var w1.heap.size (sumSt K bs) w3 HR3.out).mono ?_
  rintro e w4 ⟨ds, Hds, Hdz, Hd1, rfl, hb4⟩
  have HN4 : Hid (Row w4 w.heap.size 27 Z32) := HN3.out.below hb4 (Row.lt HN3.out)
  have H4 : Hid (Below w.heap.size w w4) := H3.out.trans (hb4.mono H3.out.size)
  go_wp2_with (refine wpList_store_row rfl 27 (.tmp 2) (.tmp 8) rfl w.heap.size ds.toArray rfl rfl 27 _ HN4.out (by rw [Hdz.out]; kernel_rfl) (by rw [Hdz.out]; rfl) Hd1.out ?_)
  have hlast := HN4.out.whole ds
  have hinfo : (Tryd.prog.info? 27).map (·.size) = some ds.toArray.size := by rw [Hdz.out]; kernel_rfl
  refine bodyPost_ret (v := .agg ds.toArray) (results_cell_row rfl _ _ w.heap.size 27 ds.toArray (0, 0) _ rfl hlast Tryd.underlying27 rfl hinfo) rfl ?_
  exact ⟨congrArg (fun l : List Value => Ending.returned (.agg l.toArray)) Hds.out, below_setRow' H4.out (Nat.le_refl _) _⟩
end Go.Proofs.YtcmledlghipcbaaDoor
