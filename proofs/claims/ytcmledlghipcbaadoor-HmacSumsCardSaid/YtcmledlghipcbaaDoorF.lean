/-
  THE WALKS of eachBlock and Sum.
-/
import Derived.Test.YtcmledlghipcbaaDoorE
namespace Go.Proofs.YtcmledlghipcbaaDoor
open Go.RowKit Sha

theorem arr128 : Tryd.prog.underlying 66 = some (.array (Tryd.prog.arrayLen 66) (Tryd.prog.elem 66)) := by kernel_rfl
theorem len128 : Tryd.prog.arrayLen 66 = 128 := by kernel_rfl
theorem el128 (W : World) : (sizeOf (Tryd.prog.elem 66)).run Tryd.prog W = .ok 1 W := by kernel_rfl
theorem slice_a128 (O j : Nat) (hj : j < 2) (lo hi : Int) (h1 : lo = 64 * (j : Int)) (h2 : hi = 64 * (j : Int) + 64) (W : World) :
    (Instr.sliceAt 66 (.pointer (some ⟨O, 0, none⟩)) (some (.int .i64 lo)) (some (.int .i64 hi)) none).run Tryd.prog W = .ok (.slice (some ⟨O, 64 * j, none⟩) 64 (128 - 64 * j)) W := by
  subst h1 h2
  rw [run_sliceAt_array_lh W 66 ⟨O, 0, none⟩ arr128 .i64 .i64 _ _ (by omega) (by omega) (by rw [len128]; omega), el128, len128, show (64 * (j : Int)).toNat = 64 * j by omega, show (64 * (j : Int) + 64).toNat = 64 * j + 64 by omega]
  simp only [Result.andThen_ok, slicedAt]
  rw [if_neg (by omega), Nat.mul_one, show 64 * j + 64 - 64 * j = 64 by omega]
  congr 3
  unfold Addr.add
  split <;> simp_all

theorem by_trans_of {a b c : World} {g : Option Nat} (h : a.grownBy b g) (k : b.grownBy c g) : a.grownBy c g := by_trans h k
theorem piece8 {w : World} {b o : Nat} {bs : List UInt8} (h : Sees w b o (bs.map V8)) (i n : Nat) : Sees w b (o + i) (((bs.drop i).take n).map V8) := by
  have := h.piece i n
  rwa [← List.map_drop, ← List.map_take] at this

theorem padEnd_var (A : Option Addr) (n cap total : Nat) (rest : List UInt8) (w : World) (h : Slc w w.heap.size A n (rest.map V8)) (hn : n < 64) (ht : total ≤ 1000000) :
    Calls Tryd.prog 32 #[.slice A n cap, .int .i64 total] w fun e w' => ∃ (rs : List Value) (Z : Nat), Hid (rs = (ended rest total).map V8) ∧ Hid (rs.toArray.size = 128) ∧ Hid (rs.toArray.all (·.oneCell') = true) ∧ Hid (Z = sizeOf_ n) ∧ (Z = 64 ∨ Z = 128) ∧ e = .returned (.tuple #[.agg rs.toArray, .int .i64 Z]) ∧ Below w.heap.size w w' := by
  refine (padEnd_any A n cap total rest w h hn ht).mono fun e w' h2 => ?_
  have hl := h.len
  rw [List.length_map] at hl
  refine ⟨_, _, rfl, ?_, one8 _, rfl, by unfold sizeOf_; split <;> omega, h2⟩
  show _ = _
  rw [List.size_toArray, List.length_map, ended_length _ _ (by omega)]

set_option maxRecDepth 100000 in
set_option maxHeartbeats 1000000 in
theorem eachBlock_some (S b o n cap : Nat) (s : St) (K : List UInt32) (hKl : K.length = 64) (bs : List UInt8) (hbs : bs.length = n) (hn : n ≤ 1000000) (hcap : n ≤ cap) (w : World) (hb : b < w.heap.size) (hbS : b ≠ S) (hS0 : 0 ≠ S)
    (hS : Row w S 61 (s.list.map V32)) (hK : Sees w 0 0 (K.map V32)) (h : Sees w b o (bs.map V8)) :
    Calls Tryd.prog 29 #[.slice (some ⟨b, o, none⟩) n cap, .func (.func 30) #[.pointer (some ⟨S, 0, none⟩)] #[]] w fun e w' =>
      e = .returned (.tuple #[]) ∧ Row w' S 61 ((run K (run K s bs (n / 64)) (ended (bs.drop (64 * (n / 64))) n) (sizeOf_ (n % 64) / 64)).list.map V32) ∧ w.grownBy w' (some S) := by
  have HKl := Lib.hid hKl
  have Hbs := Lib.hid hbs
  have HK := Lib.hid hK
  have h0 : 0 < w.heap.size := Nat.lt_of_le_of_lt (Nat.zero_le b) hb
  clear hKl hbs hK
  go_enter Tryd.func29, Tryd.ntmps29
  go_wp2
  go_loopw [5] (fun i wr => ∃ k : Nat, k ≤ n / 64 ∧ i = .int .i64 ((64 * k : Nat) : Int) ∧ Row wr S 61 ((run K s bs k).list.map V32) ∧ w.grownBy wr (some S)) (fun i _ => n - (intOf i).toNat)
  case atStart => exact ⟨0, Nat.zero_le _, rfl, hS, by_refl _ _⟩
  case round =>
    obtain ⟨k, hk, rfl, hrow, hg⟩ := hrel
    have hsz := hg.size
    by_cases hlt : k < n / 64
    · have hp : Sees wr b (o + 64 * k) (((bs.drop (64 * k)).take 64).map V8) := piece8 (h.grown hg hb (by simpa using hbS)) _ _
      have HP := Lib.hid hp
      have HKw : Hid (Sees wr 0 0 (K.map V32)) := HK.out.grown hg h0 (by simpa using hS0)
      have Hpl : Hid (((bs.drop (64 * k)).take 64).length = 64) := by show _ = _; rw [List.length_take, List.length_drop, Hbs.out]; omega
      have HR := Lib.hid hrow
      have Hrun : Hid (run K s bs (k + 1) = come K (run K s bs k) ((bs.drop (64 * k)).take 64)) := rfl
      clear hp hrow
      generalize run K s bs k = sk at *
      generalize (bs.drop (64 * k)).take 64 = piece at *
      have hkc : 64 * k < cap := by omega
      go_wp2_with fail
      refine (process_any S b _ _ sk K HKl.out piece Hpl.out wr (by omega) HR.out HKw.out HP.out).mono ?_
      rintro e w1 ⟨rfl, hr1, hg1⟩
      go_wp2
      go_roundw
      case rel => exact ⟨k + 1, by omega, by go_num, by rw [Hrun.out]; exact hr1, by_trans hg hg1⟩
      case measure => simp [intOf]; omega
    · obtain rfl : k = n / 64 := by omega
      obtain ⟨q, hq⟩ : ∃ q, q = n / 64 := ⟨_, rfl⟩
      rw [show ((n : Int) - (n : Int) % 64) = ((64 * q : Nat) : Int) by omega]
      rw [← hq] at hrow hlt ⊢
      have hq1 : 64 * q ≤ n := by omega
      have hq2 : n < 64 * q + 64 := by omega
      have HQ := Lib.hid hq
      clear hq
      have HR := Lib.hid hrow
      clear hrow
      have hz := zero128
      have HREST : Hid ((bs.drop (64 * q)).length = n - 64 * q) := by show _ = _; rw [List.length_drop, Hbs.out]
      have hcase : cap ≤ 64 * q ∨ 64 * q < cap := by omega
      rcases hcase with hc | hc
      · have HSL : Hid (Slc wr wr.heap.size (some ⟨b, o, none⟩) (n - 64 * q) ((bs.drop (64 * q)).map V8)) := ⟨by rw [List.length_map]; exact HREST.out, fun hp => by omega⟩
        go_wp2_with fail
        refine (padEnd_var (some ⟨b, o, none⟩) _ _ n _ wr HSL.out (by omega) hn).mono ?_
        rintro e w1 ⟨rs, Z, Hrs, Hsz, Hone, HZ, hZ, rfl, hb1⟩
        go_wp2_with (refine wpList_store_row rfl 66 (.tmp 6) (.tmp 34) rfl w1.heap.size rs.toArray rfl rfl 66 _ (Row.new w1 _ Z128) (by rw [Hsz.out]; kernel_rfl) (by rw [Hsz.out]; exact Z128_length) Hone.out ?_)
        try go_frame
        refine leave_wp (fun w2 => Hid (Row w2 w1.heap.size 66 rs) ∧ Hid (Row w2 S 61 ((run K s bs q).list.map V32)) ∧ Hid (Sees w2 0 0 (K.map V32)) ∧ w.grownBy w2 (some S) ∧ w1.heap.size < w2.heap.size) ?_ ?_
        · have hz1 := hb1.size
          have hSl := HR.out.lt
          refine ⟨(Row.new w1 _ Z128).whole rs, ((HR.out.below hb1 hSl).alloc _).wholeOff (by omega) _, ?_, ?_, by simp⟩
          · exact (((HK.out.grown hg h0 (by simpa using hS0)).below hb1 (by omega)).alloc (by omega) _).same (setRow_other _ _ _ _ (by omega))
          · exact by_setRow (by_alloc (by_below hg hb1) _) (.inr (by omega)) _
        rintro w2 ⟨HP, HR2, HK2, hg2, hlt2⟩
        have hSl : S < w1.heap.size := Nat.lt_of_lt_of_le HR.out.lt hb1.size
        clear HR hg hsz hz hb1 HSL
        generalize hs1 : run K s bs q = s1 at *
        have Hs1 := Lib.hid hs1
        clear hs1
        go_loopw [8] (fun i wr => ∃ j : Nat, 64 * j ≤ Z ∧ i = .int .i64 ((64 * j : Nat) : Int) ∧ Row wr S 61 ((run K s1 (ended (bs.drop (64 * q)) n) j).list.map V32) ∧ w2.grownBy wr (some S)) (fun i _ => 128 - (intOf i).toNat)
        case atStart => exact ⟨0, by omega, rfl, HR2.out, by_refl _ _⟩
        case round =>
          obtain ⟨j, hj, rfl, hrow, hg⟩ := hrel
          have hsz := hg.size
          by_cases hlt : 64 * j < Z
          · have HP2 : Hid (Sees wr w1.heap.size (64 * j) ((((ended (bs.drop (64 * q)) n).drop (64 * j)).take 64).map V8)) := by
              have h1 := (HP.out.grown hg (by simp; omega)).sees
              rw [Hrs.out] at h1
              have h2 := piece8 h1 (64 * j) 64
              rwa [Nat.zero_add] at h2
            have HKw : Hid (Sees wr 0 0 (K.map V32)) := HK2.out.grown hg (by omega) (by simpa using hS0)
            have Hpl : Hid ((((ended (bs.drop (64 * q)) n).drop (64 * j)).take 64).length = 64) := by
              show _ = _
              rw [List.length_take, List.length_drop, ended_length _ _ (by rw [HREST.out]; omega)]; omega
            have HRw := Lib.hid hrow
            have Hrun : Hid (run K s1 (ended (bs.drop (64 * q)) n) (j + 1) = come K (run K s1 (ended (bs.drop (64 * q)) n) j) (((ended (bs.drop (64 * q)) n).drop (64 * j)).take 64)) := rfl
            clear hrow
            generalize run K s1 (ended (bs.drop (64 * q)) n) j = sk at *
            generalize ((ended (bs.drop (64 * q)) n).drop (64 * j)).take 64 = piece at *
            have hsl1 := slice_a128 w1.heap.size j (by omega) ((64 * j : Nat) : Int) (64 * (j : Int) + 64) (by omega) rfl wr
            have hsl2 := slice_a128 w1.heap.size j (by omega) (64 * (j : Int)) (64 * (j : Int) + 64) rfl rfl wr
            go_wp2_with fail
            refine (process_any S w1.heap.size _ _ sk K HKl.out piece Hpl.out wr (by omega) HRw.out HKw.out HP2.out).mono ?_
            rintro e w3 ⟨rfl, hr3, hg3⟩
            clear hsl1 hsl2
            go_wp2
            go_roundw
            case rel => exact ⟨j + 1, by omega, by go_num, by rw [Hrun.out]; exact hr3, by_trans hg hg3⟩
            case measure => simp [intOf]; omega
          · have hj2 : j = Z / 64 := by omega
            have Hj := Lib.hid hj2
            clear hj2
            go_wp2
            go_end0
            refine ⟨rfl, ?_, by_trans_of hg2 hg⟩
            rw [← HQ.out, Hs1.out, show n % 64 = n - 64 * q by omega, ← HZ.out, ← Hj.out]
            exact hrow
      · have HSL : Hid (Slc wr wr.heap.size (some ⟨b, o + 64 * q, none⟩) (n - 64 * q) ((bs.drop (64 * q)).map V8)) := by
          refine ⟨by rw [List.length_map]; exact HREST.out, fun hp => ⟨b, o + 64 * q, rfl, by omega, ?_⟩⟩
          have := (h.grown hg hb (by simpa using hbS)).tail (64 * q)
          rwa [← List.map_drop] at this
        go_wp2_with fail
        refine (padEnd_var (some ⟨b, o + 64 * q, none⟩) _ _ n _ wr HSL.out (by omega) hn).mono ?_
        rintro e w1 ⟨rs, Z, Hrs, Hsz, Hone, HZ, hZ, rfl, hb1⟩
        go_wp2_with (refine wpList_store_row rfl 66 (.tmp 6) (.tmp 34) rfl w1.heap.size rs.toArray rfl rfl 66 _ (Row.new w1 _ Z128) (by rw [Hsz.out]; kernel_rfl) (by rw [Hsz.out]; exact Z128_length) Hone.out ?_)
        try go_frame
        refine leave_wp (fun w2 => Hid (Row w2 w1.heap.size 66 rs) ∧ Hid (Row w2 S 61 ((run K s bs q).list.map V32)) ∧ Hid (Sees w2 0 0 (K.map V32)) ∧ w.grownBy w2 (some S) ∧ w1.heap.size < w2.heap.size) ?_ ?_
        · have hz1 := hb1.size
          have hSl := HR.out.lt
          refine ⟨(Row.new w1 _ Z128).whole rs, ((HR.out.below hb1 hSl).alloc _).wholeOff (by omega) _, ?_, ?_, by simp⟩
          · exact (((HK.out.grown hg h0 (by simpa using hS0)).below hb1 (by omega)).alloc (by omega) _).same (setRow_other _ _ _ _ (by omega))
          · exact by_setRow (by_alloc (by_below hg hb1) _) (.inr (by omega)) _
        rintro w2 ⟨HP, HR2, HK2, hg2, hlt2⟩
        have hSl : S < w1.heap.size := Nat.lt_of_lt_of_le HR.out.lt hb1.size
        clear HR hg hsz hz hb1 HSL
        generalize hs1 : run K s bs q = s1 at *
        have Hs1 := Lib.hid hs1
        clear hs1
        go_loopw [8] (fun i wr => ∃ j : Nat, 64 * j ≤ Z ∧ i = .int .i64 ((64 * j : Nat) : Int) ∧ Row wr S 61 ((run K s1 (ended (bs.drop (64 * q)) n) j).list.map V32) ∧ w2.grownBy wr (some S)) (fun i _ => 128 - (intOf i).toNat)
        case atStart => exact ⟨0, by omega, rfl, HR2.out, by_refl _ _⟩
        case round =>
          obtain ⟨j, hj, rfl, hrow, hg⟩ := hrel
          have hsz := hg.size
          by_cases hlt : 64 * j < Z
          · have HP2 : Hid (Sees wr w1.heap.size (64 * j) ((((ended (bs.drop (64 * q)) n).drop (64 * j)).take 64).map V8)) := by
              have h1 := (HP.out.grown hg (by simp; omega)).sees
              rw [Hrs.out] at h1
              have h2 := piece8 h1 (64 * j) 64
              rwa [Nat.zero_add] at h2
            have HKw : Hid (Sees wr 0 0 (K.map V32)) := HK2.out.grown hg (by omega) (by simpa using hS0)
            have Hpl : Hid ((((ended (bs.drop (64 * q)) n).drop (64 * j)).take 64).length = 64) := by
              show _ = _
              rw [List.length_take, List.length_drop, ended_length _ _ (by rw [HREST.out]; omega)]; omega
            have HRw := Lib.hid hrow
            have Hrun : Hid (run K s1 (ended (bs.drop (64 * q)) n) (j + 1) = come K (run K s1 (ended (bs.drop (64 * q)) n) j) (((ended (bs.drop (64 * q)) n).drop (64 * j)).take 64)) := rfl
            clear hrow
            generalize run K s1 (ended (bs.drop (64 * q)) n) j = sk at *
            generalize ((ended (bs.drop (64 * q)) n).drop (64 * j)).take 64 = piece at *
            have hsl1 := slice_a128 w1.heap.size j (by omega) ((64 * j : Nat) : Int) (64 * (j : Int) + 64) (by omega) rfl wr
            have hsl2 := slice_a128 w1.heap.size j (by omega) (64 * (j : Int)) (64 * (j : Int) + 64) rfl rfl wr
            go_wp2_with fail
            refine (process_any S w1.heap.size _ _ sk K HKl.out piece Hpl.out wr (by omega) HRw.out HKw.out HP2.out).mono ?_
            rintro e w3 ⟨rfl, hr3, hg3⟩
            clear hsl1 hsl2
            go_wp2
            go_roundw
            case rel => exact ⟨j + 1, by omega, by go_num, by rw [Hrun.out]; exact hr3, by_trans hg hg3⟩
            case measure => simp [intOf]; omega
          · have hj2 : j = Z / 64 := by omega
            have Hj := Lib.hid hj2
            clear hj2
            go_wp2
            go_end0
            refine ⟨rfl, ?_, by_trans_of hg2 hg⟩
            rw [← HQ.out, Hs1.out, show n % 64 = n - 64 * q by omega, ← HZ.out, ← Hj.out]
            exact hrow

set_option maxRecDepth 100000 in
set_option maxHeartbeats 1000000 in
theorem eachBlock_nil (A : Option Addr) (S : Nat) (s : St) (K : List UInt32) (hKl : K.length = 64) (w : World) (hS0 : 0 ≠ S) (h0 : 0 < w.heap.size)
    (hS : Row w S 61 (s.list.map V32)) (hK : Sees w 0 0 (K.map V32)) :
    Calls Tryd.prog 29 #[.slice A 0 0, .func (.func 30) #[.pointer (some ⟨S, 0, none⟩)] #[]] w fun e w' =>
      e = .returned (.tuple #[]) ∧ Row w' S 61 ((run K s (ended [] 0) (sizeOf_ 0 / 64)).list.map V32) ∧ w.grownBy w' (some S) := by
  have HKl := Lib.hid hKl
  have HK := Lib.hid hK
  have HS := Lib.hid hS
  clear hKl hK hS
  have hz := zero128
  have HSL : Hid (Slc w w.heap.size A 0 (([] : List UInt8).map V8)) := ⟨rfl, fun hp => by omega⟩
  go_enter Tryd.func29, Tryd.ntmps29
  go_wp2
  refine wp_loop_rounds 1 ?_
  rw [rounds_succ]
  go_wp2_with fail
  refine (padEnd_var A 0 0 0 [] w HSL.out (by omega) (by omega)).mono ?_
  rintro e w1 ⟨rs, Z, Hrs, Hsz, Hone, HZ, hZ, rfl, hb1⟩
  go_wp2_with (refine wpList_store_row rfl 66 (.tmp 6) (.tmp 34) rfl w1.heap.size rs.toArray rfl rfl 66 _ (Row.new w1 _ Z128) (by rw [Hsz.out]; kernel_rfl) (by rw [Hsz.out]; exact Z128_length) Hone.out ?_)
  try go_frame
  refine leave_wp (fun w2 => Hid (Row w2 w1.heap.size 66 rs) ∧ Hid (Row w2 S 61 ((s).list.map V32)) ∧ Hid (Sees w2 0 0 (K.map V32)) ∧ w.grownBy w2 (some S) ∧ w1.heap.size < w2.heap.size) ?_ ?_
  · have hz1 := hb1.size
    have hSl := HS.out.lt
    refine ⟨(Row.new w1 _ Z128).whole rs, ((HS.out.below hb1 hSl).alloc _).wholeOff (by omega) _, ?_, ?_, by simp⟩
    · exact (((HK.out).below hb1 (by omega)).alloc (by omega) _).same (setRow_other _ _ _ _ (by omega))
    · exact by_setRow (by_alloc (below_to_by hb1 _) _) (.inr (by omega)) _
  rintro w2 ⟨HP, HR2, HK2, hg2, hlt2⟩
  have hSl : S < w1.heap.size := Nat.lt_of_lt_of_le HS.out.lt hb1.size
  clear HS hz hb1 HSL
  go_loopw [8] (fun i wr => ∃ j : Nat, 64 * j ≤ Z ∧ i = .int .i64 ((64 * j : Nat) : Int) ∧ Row wr S 61 ((run K s (ended [] 0) j).list.map V32) ∧ w2.grownBy wr (some S)) (fun i _ => 128 - (intOf i).toNat)
  case atStart => exact ⟨0, by omega, rfl, HR2.out, by_refl _ _⟩
  case round =>
    obtain ⟨j, hj, rfl, hrow, hg⟩ := hrel
    have hsz := hg.size
    by_cases hlt : 64 * j < Z
    · have HP2 : Hid (Sees wr w1.heap.size (64 * j) ((((ended [] 0).drop (64 * j)).take 64).map V8)) := by
        have h1 := (HP.out.grown hg (by simp; omega)).sees
        rw [Hrs.out] at h1
        have h2 := piece8 h1 (64 * j) 64
        rwa [Nat.zero_add] at h2
      have HKw : Hid (Sees wr 0 0 (K.map V32)) := HK2.out.grown hg (by omega) (by simpa using hS0)
      have Hpl : Hid ((((ended [] 0).drop (64 * j)).take 64).length = 64) := by
        show _ = _
        rw [List.length_take, List.length_drop, ended_length _ _ (by simp)]; omega
      have HRw := Lib.hid hrow
      have Hrun : Hid (run K s (ended [] 0) (j + 1) = come K (run K s (ended [] 0) j) (((ended [] 0).drop (64 * j)).take 64)) := rfl
      clear hrow
      generalize run K s (ended [] 0) j = sk at *
      generalize ((ended [] 0).drop (64 * j)).take 64 = piece at *
      have hsl1 := slice_a128 w1.heap.size j (by omega) ((64 * j : Nat) : Int) (64 * (j : Int) + 64) (by omega) rfl wr
      have hsl2 := slice_a128 w1.heap.size j (by omega) (64 * (j : Int)) (64 * (j : Int) + 64) rfl rfl wr
      go_wp2_with fail
      refine (process_any S w1.heap.size _ _ sk K HKl.out piece Hpl.out wr (by omega) HRw.out HKw.out HP2.out).mono ?_
      rintro e w3 ⟨rfl, hr3, hg3⟩
      clear hsl1 hsl2
      go_wp2
      go_roundw
      case rel => exact ⟨j + 1, by omega, by go_num, by rw [Hrun.out]; exact hr3, by_trans hg hg3⟩
      case measure => simp [intOf]; omega
    · have hj2 : j = Z / 64 := by omega
      have Hj := Lib.hid hj2
      clear hj2
      go_wp2
      go_end0
      refine ⟨rfl, ?_, by_trans_of hg2 hg⟩
      rw [← HZ.out, ← Hj.out]
      exact hrow
end Go.Proofs.YtcmledlghipcbaaDoor
