/-
  THE WALK of Put (the program's).
-/
import Derived.Test.YtaamhdgngnpmoaaGS
namespace Go.Proofs.Ytaamhdgngnpmoaa
open Go.RowKit Dir

theorem made0D (c : Nat) (hc : c ≤ 100000000) : ∃ zs : Array Value, zs.size = c ∧ ∀ W, (Instr.makeSlice 23 (.int .i64 0) (.int .i64 (c : Int))).run Try.prog W = .ok (.slice (some ⟨W.heap.size, 0, none⟩) 0 c) (W.alloc (.cells zs 5)) := by
  obtain ⟨i, hi, hz0, hz1, hz2⟩ := info_parts info8
  refine ⟨madeCells (Value.int .u8 0).cells (c * i.size), by rw [size_madeCells, hz1, Nat.mul_one], fun W => ?_⟩
  have := run_make (P := Try.prog) W 23 5 i (.int .u8 0) Try.underlying23 hi hz0 .i64 .i64 0 (c : Int) (by omega) (by omega) (by rw [hz2]; omega) (by omega)
  simpa using this
theorem EntsAt.form {w : World} {v : Value} {l : List En} (h : EntsAt w v l) : ∃ A cap, v = .slice A l.length cap := by
  obtain ⟨A, cap, e, _⟩ := h
  exact ⟨A, cap, e⟩

set_option maxRecDepth 100000 in
set_option maxHeartbeats 1000000 in
theorem DiPut_any (l : List En) (hn : l.length ≤ 1000) (hok : EnsOk l) (v : Value) (w : World) (h : EntsAt w v l) :
    Calls Try.prog 7 #[v] w fun e w' => ∃ r, e = .returned (.tuple #[r, .int .i64 (if fine l then 0 else 1)]) ∧ Hid (Arg w' r (if fine l then encL l else [])) ∧ Below w.heap.size w w' := by
  have HV := Lib.hid (DiValid_any l hn hok v w h)
  have HT : Hid (∀ W, Below w.heap.size w W → Calls Try.prog 22 #[v] W fun e w' => e = .returned (.bool (twN l l.length)) ∧ Below W.heap.size W w') := fun W hW => DiTwice_any l hn hok v W (h.below hW)
  have Hf := Lib.hid (fine_twice l)
  obtain ⟨EI, hEI⟩ : ∃ EI, EI = (if fine l then (0 : Int) else 1) := ⟨_, rfl⟩
  obtain ⟨EL, hEL⟩ : ∃ EL, EL = (if fine l then encL l else []) := ⟨_, rfl⟩
  rw [← hEI, ← hEL]
  have HN : Hid (fine l = false → EI = 1 ∧ EL = []) := fun h => by rw [hEI, hEL, h]; exact ⟨rfl, rfl⟩
  have HY : Hid (fine l = true → EI = 0 ∧ EL = encL l) := fun h => by rw [hEI, hEL, h]; exact ⟨rfl, rfl⟩
  clear hEI hEL
  by_cases hv : l.all okE = true
  · have Hok := Lib.hid hv
    rw [hv] at HV Hf
    by_cases ht : twN l l.length = true
    · rw [ht] at HT Hf
      obtain ⟨A, cap, rfl⟩ := h.form
      have HF := Lib.hid (HN.out Hf.out)
      clear hv ht h Hok Hf hok HN HY
      generalize l.length = n at *
      go_enter Try.func7, Try.ntmps7
      go_wp2_with (first
        | (go_at_call 21; refine HV.out.mono ?_; rintro e w1 ⟨rfl, hb1⟩)
        | (go_at_call 22; refine (HT.out _ hb1).mono ?_; rintro e w2 ⟨rfl, hb2⟩))
      refine bodyPost_ret (results_tmp2 rfl _ _ _) rfl ?_
      rw [HF.out.1, HF.out.2]
      exact ⟨_, rfl, .inl ⟨none, rfl, rfl⟩, hb1.trans (hb2.mono hb1.size)⟩
    · rw [Bool.not_eq_true] at ht
      rw [ht] at HT Hf
      have HF := Lib.hid (HY.out Hf.out)
      clear hv ht Hf HN HY
      obtain ⟨A, cap, rfl, hs⟩ := h
      have HS := Lib.hid hs
      obtain ⟨n, hnl⟩ : ∃ n, n = l.length := ⟨_, rfl⟩
      rw [← hnl] at HV HT HS hn ⊢
      have HNl := Lib.hid hnl
      clear hs hnl hok
      obtain ⟨zs, hzs, hmk⟩ := made0D (16 * n) (by omega)
      have hcm : ((16 * n : Nat) : Int) = 16 * (n : Int) := by omega
      rw [hcm] at hmk
      have HZs := Lib.hid hzs
      clear hzs hcm
      go_enter Try.func7, Try.ntmps7
      go_wp2_with (first
        | (go_at_call 21; refine HV.out.mono ?_; rintro e w1 ⟨rfl, hb1⟩)
        | (go_at_call 22; refine (HT.out _ hb1).mono ?_; rintro e w2 ⟨rfl, hb2⟩))
      have hb02 : Below w.heap.size w w2 := hb1.trans (hb2.mono hb1.size)
      have Hown3 : Hid (Own (w2.alloc (.cells zs 5)) w.heap.size 5 (.slice (some ⟨w2.heap.size, 0, none⟩) 0 (16 * n)) []) := World.ownsRow_made w2 zs (16 * n) hb02.size (by simp only [maxLen]; omega) (by rw [HZs.out, Nat.mul_one])
      have Hb3 : Hid (Below w.heap.size w (w2.alloc (.cells zs 5))) := hb02.alloc hb02.size _
      have e16 : ((16 * n : Nat) : Int) = 16 * (n : Int) := by omega
      clear hb1 hb2 hb02 HV HT HZs hmk e16
      go_loopw [4, 21] (fun b i wr => ∃ (k : Nat), k ≤ n ∧ i = .int .i64 k ∧ Hid (Own wr w.heap.size 5 b ((encL (l.take k)).map V8)) ∧ Hid (Below w.heap.size w wr)) (fun _ i _ => n - (intOf i).toNat)
      case atStart => exact ⟨0, by omega, rfl, Hown3.out, Hb3.out⟩
      case round =>
        clear Hown3 Hb3
        obtain ⟨k, hk, rfl, Hown, Hbel⟩ := hrel
        by_cases hlt : k < n
        · obtain ⟨bb, o, rfl, hb, hsee⟩ := HS.out (by omega)
          obtain ⟨hx, hx1⟩ := atE (hsee.below Hbel.out hb) k (by rw [← HNl.out]; exact hlt)
          have Ht := Lib.hid (take_snoc l k (by rw [← HNl.out]; exact hlt) ⟨[], 0⟩)
          have hmem : l.getD k ⟨[], 0⟩ ∈ l := by
            rw [List.getD_eq_getElem?_getD, List.getElem?_eq_getElem (by rw [← HNl.out]; exact hlt)]
            exact List.getElem_mem _
          have hokk := List.all_eq_true.1 Hok.out _ hmem
          have Hlen : Hid ((encL (l.take k)).length = 16 * k) := by
            show _ = _
            rw [encL_length fun e he => (nameE_ok (okE_iff.1 (List.all_eq_true.1 Hok.out e (List.mem_of_mem_take he))).1).2, List.length_take, Nat.min_eq_left (by rw [← HNl.out]; omega)]
          clear hsee HS hmem
          generalize l.getD k ⟨[], 0⟩ = x at *
          obtain ⟨xn, xk⟩ := x
          obtain ⟨h1, h2, h3⟩ := okE_iff.1 hokk
          obtain ⟨kn, rfl⟩ : ∃ kn : Nat, xk = (kn : Int) := ⟨xk.toNat, by simp only at h2; omega⟩
          have hn14 := (nameE_ok h1).2
          simp only at h2 h3 hn14 hx hx1
          have Henc : Hid (encL (l.take (k + 1)) = encL (l.take k) ++ encE ⟨xn, kn⟩) := by show _ = _; rw [Ht.out, encL_snoc]
          have Hel : Hid ((encE ⟨xn, kn⟩).length = 16) := encE_length hn14
          rename World => wx
          have HEn : Hid (∀ W, Calls Try.prog 23 #[.agg #[SB xn, .int .i64 kn]] W fun e w' => e = .returned (.agg ((encE ⟨xn, kn⟩).map V8).toArray) ∧ Below W.heap.size W w') := fun W => DiEncode_any xn kn hn14 (by omega) W
          obtain ⟨EE, hEE⟩ : ∃ EE, EE = (encE ⟨xn, kn⟩).map V8 := ⟨_, rfl⟩
          have Hl16 : Hid (EE.length = 16) := by show _ = _; rw [hEE, List.length_map]; exact Hel.out
          have H1 : Hid (EE.toArray.all (·.oneCell') = true) := by
            show _ = _
            rw [hEE, Array.all_eq_true_iff_forall_mem]
            intro x hx
            rw [List.mem_toArray, List.mem_map] at hx
            obtain ⟨y, _, rfl⟩ := hx
            rfl
          have HEE := Lib.hid hEE
          rw [← hEE] at HEn
          unfold SB at hx HEn
          have hzr := zero16
          have hst : ∀ W : World, (storeCells ⟨W.heap.size, 0, none⟩ EE 0).run Try.prog (W.alloc (.cells Z16.toArray 52)) = .ok () (W.alloc (.cells EE.toArray 52)) := fun W => by
            have := run_storeCells_new (P := Try.prog) W 52 Z16.toArray EE.toArray (by rw [List.size_toArray, Hl16.out]; exact size16) (by rw [List.size_toArray, List.size_toArray, Hl16.out]; rfl) H1.out
            simpa using this
          have HBs := Lib.hid Hbel.out.size
          have Hb2 : Hid (Below w.heap.size w (wx.alloc (.cells #[.string (strB xn), .int .i64 kn] 26))) := Hbel.out.alloc Hbel.out.size _
          clear hokk h1 h2 h3 hEE Ht
          go_wp2_with (first
            | (go_at_call 23; refine (HEn.out _).mono ?_; rintro e w3 ⟨rfl, hb3⟩; have HB3 := Lib.hid hb3; clear hb3;
                have HO4 : Hid (Own (w3.alloc (.cells EE.toArray 52)) w.heap.size 5 _ ((encL (l.take k)).map V8)) := ((Hown.out.alloc _).below HB3.out (Nat.le_refl _)).alloc _;
                have HB4 : Hid (Below w.heap.size w (w3.alloc (.cells EE.toArray 52))) := (Hb2.out.trans (HB3.out.mono Hb2.out.size)).alloc (Nat.le_trans Hb2.out.size HB3.out.size) _;
                have HA4 : Hid (Arg (w3.alloc (.cells EE.toArray 52)) (.slice (some ⟨w3.heap.size, 0, none⟩) 16 16) (encE ⟨xn, kn⟩)) := by rw [HEE.out]; exact (Row.new w3 52 _).arg 16 Hel.out)
            | (at_builtin; refine wpList_app rfl (.tmp 27) (.tmp 28) 23 rfl w.heap.size 5 Try.underlying23 info8 rfl (by decide) _ ((encL (l.take k)).map V8) rfl HO4.out _ ((encE ⟨xn, kn⟩).map V8) rfl (arg_from HA4.out) (oneC8 _) (by rw [List.length_map, List.length_map, Hlen.out, Hel.out]; omega) HB4.out.size ?_; intro v5 w5 hown5 hg5 _))
          have HO6 : Hid (Own w5 w.heap.size 5 v5 ((encL (l.take (k + 1))).map V8)) := by show Own _ _ _ _ _; rw [Henc.out, List.map_append]; exact hown5
          have HB6 : Hid (Below w.heap.size w w5) := below_app HB4.out HO4.out hg5 (Nat.le_refl _) HB4.out.size
          clear hown5 hg5 HO4 HB4 HA4 HB3 Hown Hbel Hb2 hst HEn
          go_roundw
          case rel => exact ⟨k + 1, by omega, by go_num, HO6, HB6⟩
          case measure => simp [intOf]; omega
        · obtain rfl : k = n := by omega
          go_wp2
          refine bodyPost_ret (results_tmp2 rfl _ _ _) rfl ?_
          have := Hown.out.arg
          rw [HNl.out, List.take_length] at this
          rw [HF.out.1, HF.out.2]
          exact ⟨_, rfl, this, Hbel.out⟩
  · rw [Bool.not_eq_true] at hv
    rw [hv] at HV Hf
    have HF := Lib.hid (HN.out Hf.out)
    obtain ⟨A, cap, rfl⟩ := h.form
    clear hv Hf hok h HT HN HY
    generalize l.length = n at *
    go_enter Try.func7, Try.ntmps7
    go_wp2_with (go_at_call 21; refine HV.out.mono ?_; rintro e w1 ⟨rfl, hb1⟩)
    refine bodyPost_ret (results_tmp2 rfl _ _ _) rfl ?_
    rw [HF.out.1, HF.out.2]
    exact ⟨_, rfl, .inl ⟨none, rfl, rfl⟩, hb1⟩
end Go.Proofs.Ytaamhdgngnpmoaa
