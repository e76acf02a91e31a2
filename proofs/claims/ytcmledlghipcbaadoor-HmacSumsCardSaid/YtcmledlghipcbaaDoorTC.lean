/-
  THE WALK of the program's digest of the masked key, followed by bytes.
-/
import Derived.Test.YtcmledlghipcbaaDoorTB
namespace Go.Proofs.YtcmledlghipcbaaDoor
open Go.RowKit Sha

/-- make([]byte, 0, c) as one step. -/
theorem made8 (w : World) (c : Nat) (hc : c ≤ 2000000) : ∃ w', (Instr.makeSlice 22 (.int .i64 0) (.int .i64 (c : Int))).run Tryd.prog w = .ok (.slice (some ⟨w.heap.size, 0, none⟩) 0 c) w' ∧
      Own w' w.heap.size 5 (.slice (some ⟨w.heap.size, 0, none⟩) 0 c) [] ∧ Below w.heap.size w w' := by
  obtain ⟨i, hi, hz0, hz1, hz2⟩ := info_parts info8
  obtain ⟨w', h1, h2, h3⟩ := run_make_own (P := Tryd.prog) w w.heap.size 22 5 i _ 1 Tryd.underlying22 hi hz0 hz1 .i64 .i64 c (by rw [hz2]; omega) (by simp only [maxLen]; omega) (Nat.le_refl _)
  exact ⟨w', h1, h2, by_to_below h3⟩

theorem run_index_key (ks : List Value) (j : Nat) (hj : j < 64) (x : Int) (h : ks[j]? = some (.int .u8 x)) (w : World) :
    (Instr.index 43 (.agg ks.toArray) (.int .i64 (j : Int))).run Tryd.prog w = .ok (.int .u8 x) w := by
  have hb : 0 ≤ (j : Int) ∧ (j : Int) < 64 := by omega
  have hs : (sizeOf 5).run Tryd.prog w = .ok 1 w := by kernel_rfl
  have ha : (isAgg 5).run Tryd.prog w = .ok false w := by kernel_rfl
  simp only [Instr.index, asIntOf, run_underlying Tryd.underlying43, Sem.run_bind, Sem.run_pure, Result.andThen_ok, part]
  simp [h]
  intro hx
  omega

set_option maxRecDepth 100000 in
set_option maxHeartbeats 400000 in
theorem kdigest_any (k : List UInt8) (ks : List Value) (hk : Vec 64 k ks) (m : UInt8) (v : Value) (bs : List UInt8) (hn : bs.length ≤ 900000) (w : World) (hT : Tab w) (h : Arg w v bs) :
    Calls Tryd.prog 15 #[.agg ks.toArray, .int .u8 m.toNat, v] w fun e w' => ∃ rs : List Value, Hid (Vec 32 (dg (xorK k m ++ bs)) rs) ∧ e = .returned (.agg rs.toArray) ∧ Below w.heap.size w w' := by
  obtain ⟨A, cap, rfl⟩ := h.form
  obtain ⟨n, hnl⟩ : ∃ n, n = bs.length := ⟨_, rfl⟩
  rw [← hnl] at h hn ⊢
  have HNl := Lib.hid hnl
  have HK := Lib.hid hk
  have HA := Lib.hid h
  have HT := Lib.hid hT
  have Hksz : Hid (ks.toArray.size = 64) := hk.size
  have Hone : Hid (ks.toArray.all (·.oneCell') = true) := hk.one
  have HB : Hid (Below w.heap.size w ((w.alloc (.cells ks.toArray 43)).alloc (.cells Z32.toArray 27))) := ((Below.refl _ _).alloc (Nat.le_refl _) _).alloc (by simp) _
  obtain ⟨w1, hmk, hown1, hb1⟩ := made8 ((w.alloc (.cells ks.toArray 43)).alloc (.cells Z32.toArray 27)) (64 + n) (by omega)
  rw [show ((64 + n : Nat) : Int) = 64 + (n : Int) by omega] at hmk
  have hs2 : ((w.alloc (.cells ks.toArray 43)).alloc (.cells Z32.toArray 27)).heap.size = w.heap.size + 2 := by simp
  rw [hs2] at hmk hown1 hb1
  have HM := Lib.hid hmk
  have HO1 := Lib.hid hown1
  have HB1 : Hid (Below w.heap.size w w1) := HB.out.trans (hb1.mono (by omega))
  have HR0 : Hid (Row w1 w.heap.size 43 ks) := ((Row.new w 43 ks).alloc _).below hb1 (by omega)
  have HR1 : Hid (Row w1 (w.heap.size + 1) 27 Z32) := (Row.newAt 27 Z32 (by simp)).below hb1 (by omega)
  have hsz1 : w.heap.size + 2 ≤ w1.heap.size := by have := hb1.size; omega
  clear hnl hk h hT hown1 hs2 hb1 HM
  have hz2 := zero32
  go_enter Tryd.func15, Tryd.ntmps15
  go_wp2_with (refine wpList_load_row rfl 43 (.tmp 3) rfl w.heap.size rfl 43 ks.toArray (0, 0) _ HR0.out Tryd.underlying43 rfl (by rw [Hksz.out]; kernel_rfl) ?_)
  clear hmk hz2
  go_loopw [7, 9, 15] (fun o _ i wr => ∃ j : Nat, j ≤ 64 ∧ i = .int .i64 j ∧ Own wr (w.heap.size + 2) 5 o ((xorK (k.take j) m).map V8) ∧ Below (w.heap.size + 2) w1 wr) (fun _ _ i _ => 64 - (intOf i).toNat)
  case atStart => exact ⟨0, by omega, rfl, HO1.out, Below.refl _ _⟩
  case round =>
    obtain ⟨j, hj, rfl, hown, hbel⟩ := hrel
    have hszr := hbel.size
    by_cases hlt : j < 64
    · have hix : ks[j]? = some (.int .u8 (k.getD j 0).toNat) := by
        rw [HK.out.1, List.getElem?_map, List.getElem?_eq_getElem (by rw [HK.out.2]; exact hlt), List.getD_eq_getElem?_getD, List.getElem?_eq_getElem (by rw [HK.out.2]; exact hlt)]
        rfl
      have HT2 := Lib.hid (xorK_take k m j (by rw [HK.out.2]; exact hlt))
      have HXr := Lib.hid (xor8 (k.getD j 0) m)
      have HL : Hid (((xorK (k.take j) m).map V8).length + 1 ≤ 100000000) := by show _ ≤ _; rw [List.length_map, xorK_length, List.length_take]; omega
      generalize k.getD j 0 = x at *
      have Hown := Lib.hid hown
      clear hown
      have hrx := run_index_key ks j hlt _ hix
      go_wp2_with (at_builtin; refine wpList_app rfl (.tmp 18) (.tmp 22) 22 rfl (w.heap.size + 2) 5 Tryd.underlying22 info8 rfl (by decide) _ ((xorK (k.take j) m).map V8) rfl (Hown.out.alloc _) _ [.int .u8 (bits .xor .u8 (x.toNat : Int) m.toNat)] rfl (from_new wr 5 [.int .u8 (bits .xor .u8 (x.toNat : Int) m.toNat)]) (by rw [HXr.out]; exact oneC8 [x ^^^ m]) HL.out (by simp; omega) ?_; intro v' w2 hown2 hg2 _)
      go_roundw
      case rel =>
        refine ⟨j + 1, by omega, by go_num, ?_, ?_⟩
        · rw [HXr.out] at hown2
          rw [HT2.out, List.map_append]; exact hown2
        · exact below_app (hbel.alloc (by omega) _) (Hown.out.alloc _) hg2 (Nat.le_refl _) (by simp; omega)
      case measure => simp [intOf]; omega
    · obtain rfl : j = 64 := by omega
      rw [show ((64 : Nat) : Int) = 64 from rfl]
      have hx : xorK (k.take 64) m = xorK k m := by rw [List.take_of_length_le (by rw [HK.out.2]; omega)]
      rw [hx] at hown
      clear hx
      have Hown := Lib.hid hown
      have HLk : Hid ((xorK k m).length = 64) := by show _ = _; rw [xorK_length, HK.out.2]
      have hbw : Below w.heap.size w wr := HB1.out.trans (hbel.mono (by omega))
      have HF : Hid (From wr (.slice A n cap) (bs.map V8)) := arg_from (HA.out.below hbw)
      have H1 := Lib.hid (oneC8 bs)
      have HL : Hid (((xorK k m).map V8).length + (bs.map V8).length ≤ 100000000) := by show _ ≤ _; rw [List.length_map, List.length_map, HLk.out, ← HNl.out]; omega
      clear hown
      go_wp2_with (at_builtin; refine wpList_app rfl (.tmp 25) (.tmp 26) 22 rfl (w.heap.size + 2) 5 Tryd.underlying22 info8 rfl (by decide) _ ((xorK k m).map V8) rfl Hown.out _ (bs.map V8) rfl HF.out H1.out HL.out (by omega) ?_; intro v' w2 hown2 hg2 _)
      have hb2 : Below (w.heap.size + 2) w1 w2 := below_app hbel Hown.out hg2 (Nat.le_refl _) (by omega)
      have hbw2 : Below w.heap.size w w2 := HB1.out.trans (hb2.mono (by omega))
      rw [← List.map_append] at hown2
      have HA2 : Hid (Arg w2 v' (xorK k m ++ bs)) := hown2.arg
      have HR2 : Hid (Row w2 (w.heap.size + 1) 27 Z32) := HR1.out.below hb2 (by omega)
      clear hown2 hg2 hbel hbw hb2 Hown HF H1 HL HR1 HR0
      refine (Sum_vec _ _ (by rw [List.length_append, HLk.out, ← HNl.out]; omega) w2 (HT.out.below hbw2) HA2.out).mono ?_
      rintro e w3 ⟨rs, Hrs, rfl, hb3⟩
      have HR3 : Hid (Row w3 (w.heap.size + 1) 27 Z32) := HR2.out.below hb3 HR2.out.lt
      have HB3 : Hid (Below w.heap.size w w3) := hbw2.trans (hb3.mono hbw2.size)
      have Hsz : Hid (rs.toArray.size = 32) := Hrs.out.size
      have Hone3 : Hid (rs.toArray.all (·.oneCell') = true) := Hrs.out.one
      clear hb3 HR2 hbw2
      go_wp2_with (refine wpList_store_row rfl 27 (.tmp 6) (.tmp 28) rfl (w.heap.size + 1) rs.toArray rfl rfl 27 _ HR3.out (by rw [Hsz.out]; kernel_rfl) (by rw [Hsz.out]; rfl) Hone3.out ?_)
      have hlast := HR3.out.whole rs
      have hinfo : (Tryd.prog.info? 27).map (·.size) = some rs.toArray.size := by rw [Hsz.out]; kernel_rfl
      refine bodyPost_ret (v := .agg rs.toArray) (results_cell_row rfl _ _ (w.heap.size + 1) 27 rs.toArray (0, 0) _ rfl hlast Tryd.underlying27 rfl hinfo) rfl ?_
      exact ⟨rs, Hrs, rfl, below_setRow' HB3.out (by omega) _⟩
end Go.Proofs.YtcmledlghipcbaaDoor
