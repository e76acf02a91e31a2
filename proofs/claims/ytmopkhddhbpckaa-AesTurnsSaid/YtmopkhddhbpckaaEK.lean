/-
  ARRAYS of bytes compared with ==; the law's own example (knows).
-/
import Derived.Test.YtmopkhddhbpckaaEB
import Derived.Test.YtmopkhddhbpckaaEJ
import Derived.Laws.StructEq
namespace Go.Proofs.Ytmopkhddhbpckaa
open Go.RowKit Aes

theorem arr_eq (t : TypeId) (n : Nat) (ht : Try.prog.underlying t = some (.array n 5)) (a b : List UInt8) (rs ss : List Value) (ha : Vec n a rs) (hb : Vec n b ss) (w : World) :
    (Op.equalIn 10000 t (.agg rs.toArray) (.agg ss.toArray)).run Try.prog w = .ok (decide (a = b)) w := by
  have hs : (sizeOf 5).run Try.prog w = .ok 1 w := by kernel_rfl
  have hag : (isAgg 5).run Try.prog w = .ok false w := by kernel_rfl
  rw [show (10000 : Nat) = 9999 + 1 from rfl, Op.equalIn]
  simp only [Sem.run_bind, run_underlying ht, Result.andThen_ok, hs]
  simp only [Std.Legacy.Range.forIn_eq_forIn_range', Std.Legacy.Range.size, Nat.sub_zero, Nat.add_sub_cancel, Nat.div_one]
  have key : ∀ L : List Nat, (∀ i ∈ L, i < n) → (forIn (m := Sem) L ((none, ()) : Option Bool × Unit) fun i _ => do
            let a ← part 5 rs.toArray (i * 1)
            let b ← part 5 ss.toArray (i * 1)
            let c ← Op.equalIn 9999 5 a b
            if (!c) = true then pure (ForInStep.done ((some false, ()) : Option Bool × Unit)) else pure (ForInStep.yield (none, ()))).run Try.prog w = .ok (if ∀ i ∈ L, a.getD i 0 = b.getD i 0 then (none, ()) else (some false, ())) w := by
    intro L
    induction L with
    | nil => intro _; simp
    | cons i r ih =>
      intro hL
      have hi : i < n := hL i (by simp)
      have hp : (part 5 rs.toArray (i * 1)).run Try.prog w = .ok (.int .u8 (a.getD i 0).toNat) w := by
        have hx := ha.at_ i hi
        simp only [part, Sem.run_bind, hag, Result.andThen_ok]
        simp [hx]
      have hq : (part 5 ss.toArray (i * 1)).run Try.prog w = .ok (.int .u8 (b.getD i 0).toNat) w := by
        have hx := hb.at_ i hi
        simp only [part, Sem.run_bind, hag, Result.andThen_ok]
        simp [hx]
      have he : (Op.equalIn 9999 5 (.int .u8 ((a.getD i 0).toNat : Int)) (.int .u8 ((b.getD i 0).toNat : Int))).run Try.prog w = .ok (((a.getD i 0).toNat : Int) == ((b.getD i 0).toNat : Int)) w := by
        rw [show (9999 : Nat) = 9998 + 1 from rfl, run_equalIn_int w 9998 5 .u8 .u8 _ _ Try.underlying5]
      rw [List.forIn_cons]
      by_cases hxy : a.getD i 0 = b.getD i 0
      · have hbb : (((a.getD i 0).toNat : Int) == ((b.getD i 0).toNat : Int)) = true := by rw [hxy]; simp
        rw [hbb] at he
        simp only [Sem.run_bind, hp, hq, Result.andThen_ok, he, Bool.not_true, Bool.false_eq_true, if_false, Sem.run_pure]
        rw [ih (fun j hj => hL j (by simp [hj]))]
        simp only [List.mem_cons, forall_eq_or_imp, hxy, true_and]
      · have hbb : (((a.getD i 0).toNat : Int) == ((b.getD i 0).toNat : Int)) = false := by
          rw [beq_eq_false_iff_ne]
          intro hh
          exact hxy (UInt8.toNat_inj.1 (by omega))
        rw [hbb] at he
        simp only [Sem.run_bind, hp, hq, Result.andThen_ok, he, Bool.not_false, if_true, Sem.run_pure]
        simp only [List.mem_cons, forall_eq_or_imp, hxy, false_and, if_false]
  rw [key _ (fun i hi => by simpa using (List.mem_range'_1.1 hi).2)]
  by_cases hab : a = b
  · rw [if_pos (fun i _ => by rw [hab])]
    simp [hab]
  · have hne : ¬ ∀ i ∈ List.range' 0 n 1, a.getD i 0 = b.getD i 0 := by
      intro hh
      apply hab
      apply List.ext_getElem (by rw [ha.2, hb.2])
      intro i h1 h2
      have h3 := hh i (by rw [List.mem_range'_1]; have := ha.2; omega)
      simpa [List.getD_eq_getElem?_getD, h1, h2] using h3
    rw [if_neg hne]
    simp [hab]

theorem kEx_at (k : Nat) (h : k < 16) : ((kEx.getD k 0).toNat : Int) = (k : Int) := by
  have : ∀ k, k < 16 → (kEx.getD k 0).toNat = k := by decide
  rw [this k h]
theorem bEx_at (k : Nat) (h : k < 16) : ((bEx.getD k 0).toNat : Int) = 17 * (k : Int) := by
  have : ∀ k, k < 16 → (bEx.getD k 0).toNat = 17 * k := by decide
  rw [this k h]; omega

set_option maxRecDepth 100000 in
set_option maxHeartbeats 400000 in
theorem Aknows_any (w : World) : Calls Try.prog 7 #[] w fun e w' => e = .returned (.bool true) ∧ Below w.heap.size w w' := by
  have hz := zero16
  have Hzl : Hid ((List.replicate 16 (0 : UInt8)).length = kEx.length) := (rfl : 16 = 16)
  have Hzl2 : Hid ((List.replicate 16 (0 : UInt8)).length = bEx.length) := (rfl : 16 = 16)
  go_enter Try.func7, Try.ntmps7
  go_wp2
  go_loopw [3] (fun i wr => ∃ k : Nat, k ≤ 16 ∧ i = .int .i64 k ∧ Row wr w.heap.size 22 ((upd kEx (List.replicate 16 0) k).map V8) ∧ Row wr (w.heap.size + 1) 22 ((upd bEx (List.replicate 16 0) k).map V8) ∧ Below w.heap.size w wr) (fun i _ => 16 - (intOf i).toNat)
  case atStart =>
    refine ⟨0, by omega, rfl, ?_, ?_, ((Below.refl _ _).alloc (Nat.le_refl _) _).alloc (by simp) _⟩
    · rw [upd_zero, ← Z16_eq]; exact (Row.new w 22 Z16).alloc _
    · rw [upd_zero, ← Z16_eq]; exact Row.newAt 22 Z16 (by simp)
  case round =>
    obtain ⟨k, hk, rfl, hrk, hrb, hbel⟩ := hrel
    by_cases hlt : k < 16
    · have c0 : wr.cell? ⟨w.heap.size, k, none⟩ = some (.int .u8 ((List.replicate 16 (0 : UInt8)).getD k 0).toNat) := upd_cell hrk Hzl.out k (Nat.le_refl _) (by show k < 16; exact hlt)
      have c1 : wr.cell? ⟨w.heap.size + 1, k, none⟩ = some (.int .u8 ((List.replicate 16 (0 : UInt8)).getD k 0).toNat) := upd_cell hrb Hzl2.out k (Nat.le_refl _) (by show k < 16; exact hlt)
      have f0 := hrk.free k
      have f1 := hrb.free k
      generalize ((List.replicate 16 (0 : UInt8)).getD k 0).toNat = y at *
      have Hrk := Lib.hid hrk
      have Hrb := Lib.hid hrb
      have H17 : Hid ((17 * (k : Int)) % 256 = 17 * (k : Int)) := by show _ = _; omega
      clear hrk hrb hz
      go_wp2
      go_roundw
      case rel =>
        refine ⟨k + 1, by omega, by go_num, ?_, ?_, (hbel.setCell (by show w.heap.size ≤ w.heap.size; omega) _).setCell (by show w.heap.size ≤ w.heap.size + 1; omega) _⟩
        · exact (upd_put Hrk.out Hzl.out (by show k < 16; exact hlt) (by rw [kEx_at k hlt])).apart (by show w.heap.size ≠ w.heap.size + 1; omega) _
        · exact upd_put (Hrb.out.apart (by show w.heap.size + 1 ≠ w.heap.size; omega) _) Hzl2.out (by show k < 16; exact hlt) (by rw [bEx_at k hlt])
      case measure => simp [intOf]; omega
    · obtain rfl : k = 16 := by omega
      rw [show ((16 : Nat) : Int) = 16 from rfl]
      obtain ⟨kr, Hkr, HRk, Hkz, _⟩ := full16 (show kEx.length = 16 from rfl) (List.length_replicate) hrk
      obtain ⟨br, Hbr, HRb, Hbz, _⟩ := full16 (show bEx.length = 16 from rfl) (List.length_replicate) hrb
      have hszr : w.heap.size ≤ wr.heap.size := hbel.size
      clear hrk hrb Hzl Hzl2
      go_wp2_with (first
        | (refine wpList_load_row rfl 22 (.tmp 1) rfl w.heap.size rfl 22 kr.toArray (0, 0) _ HRk.out Try.underlying22 rfl (by rw [Hkz.out]; kernel_rfl) ?_)
        | (refine wpList_load_row rfl 22 (.tmp 2) rfl (w.heap.size + 1) rfl 22 br.toArray (0, 0) _ HRb.out Try.underlying22 rfl (by rw [Hbz.out]; kernel_rfl) ?_))
      refine (AEnc_any kEx bEx kr br Hkr.out Hbr.out wr).mono ?_
      rintro e w1 ⟨ts, Hts, rfl, hb1⟩
      have hbw : Below w.heap.size w w1 := hbel.trans (hb1.mono hszr)
      have hsz1 := hbw.size
      have HR : Hid (Row ((w1.alloc (.cells Z16.toArray 22)).setRow w1.heap.size ts.toArray) w1.heap.size 22 ts) := (Row.new w1 _ Z16).whole ts
      have HBW : Hid (Below w.heap.size w ((w1.alloc (.cells Z16.toArray 22)).setRow w1.heap.size ts.toArray)) := below_setRow' (hbw.alloc hsz1 _) hsz1 _
      have c0 := HR.out.cell 0
      have c1 := HR.out.cell 1
      have c15 := HR.out.cell 15
      have hts := Hts.out.1
      rw [enc_ex] at hts
      rw [show ts[0]? = some (.int .u8 105) by rw [hts]; rfl] at c0
      rw [show ts[1]? = some (.int .u8 196) by rw [hts]; rfl] at c1
      rw [show ts[15]? = some (.int .u8 90) by rw [hts]; rfl] at c15
      have Htz : Hid (ts.toArray.size = 16) := Hts.out.size
      have Hone : Hid (ts.toArray.all (·.oneCell') = true) := Hts.out.one
      clear hts Hts hb1 hbw hbel
      go_wp2_with (refine wpList_store_row rfl 22 (.tmp 4) (.tmp 20) rfl w1.heap.size ts.toArray rfl rfl 22 _ (Row.new w1 _ Z16) (by rw [Htz.out]; kernel_rfl) (by rw [Htz.out]; rfl) Hone.out ?_)
      go_ret
      exact ⟨rfl, HBW.out⟩
end Go.Proofs.Ytmopkhddhbpckaa
