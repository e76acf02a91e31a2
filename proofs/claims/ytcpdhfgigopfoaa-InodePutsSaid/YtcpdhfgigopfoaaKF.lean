/-
  THE WALK of Put (the program's).
-/
import Derived.Test.YtcpdhfgigopfoaaKG
namespace Go.Proofs.Ytcpdhfgigopfoaa
open Go.RowKit Go.Shelf Cdc

attribute [local go_sem] Oper.semAt_some

theorem made0 (c : Nat) (hc : c ≤ 100000000) : ∃ zs : Array Value, zs.size = c ∧ ∀ W, (Instr.makeSlice 25 (.int .i64 0) (.int .i64 (c : Int))).run Try.prog W = .ok (.slice (some ⟨W.heap.size, 0, none⟩) 0 c) (W.alloc (.cells zs 5)) := by
  obtain ⟨i, hi, hz0, hz1, hz2⟩ := info_parts info8
  refine ⟨madeCells (Value.int .u8 0).cells (c * i.size), by rw [size_madeCells, hz1, Nat.mul_one], fun W => ?_⟩
  have := run_make (P := Try.prog) W 25 5 i (.int .u8 0) Try.underlying25 hi hz0 .i64 .i64 0 (c : Int) (by omega) (by omega) (by rw [hz2]; omega) (by omega)
  simpa using this

set_option maxRecDepth 100000 in
set_option maxHeartbeats 400000 in
theorem KPut_in (F : Fence) (m : Nat) (hm : 3 ≤ m) (hFn : ∀ f, F.fn f) (hro : F.round = none) (hC : ∀ {k f args w R}, Calls Try.prog f args w R → CallsIn F k Try.prog f args w R)
    (ws : List Int) (hn : ws.length ≤ 1000000) (l : List Nat) (h64 : ∀ x ∈ l, x < 2 ^ 64) (v u : Value) (w : World) (h : From w v (ws.map VI)) (hu : From w u (l.map VU)) :
    CallsIn F m Try.prog 15 #[v, u] w fun e w' => ∃ r, e = .returned (.tuple #[r, .int .i64 (errI (okP ws l))]) ∧ Hid (Arg w' r (putB ws l)) ∧ Below w.heap.size w w' := by
  have HF := Lib.hid h
  have HU := Lib.hid hu
  obtain ⟨A, cap, rfl, hs⟩ := h.parts
  obtain ⟨C, cap2, rfl, hs2⟩ := hu.parts
  rw [List.length_map] at hs HF hs2 HU
  rw [List.length_map, List.length_map]
  obtain ⟨n, hnl⟩ : ∃ n, n = ws.length := ⟨_, rfl⟩
  obtain ⟨q, hql⟩ : ∃ q, q = l.length := ⟨_, rfl⟩
  rw [← hnl] at hs hn HF ⊢
  rw [← hql] at HU hs2 ⊢
  have HS := Lib.hid hs
  have HS2 := Lib.hid hs2
  have HNl := Lib.hid hnl
  have HQl := Lib.hid hql
  have H64 := Lib.hid h64
  clear hs hs2 h hu hnl hql h64
  refine callsIn_of_wp_marks Try.func15 rfl (hFn _) ?_ hro
  simp only [Try.ntmps15, List.size_toArray, List.length_cons, List.length_nil, Nat.reduceAdd, Nat.reduceSub, Array.replicate_succ, Array.replicate_zero, List.push_toArray, List.append_toArray, List.nil_append, List.cons_append]
  have h6 := hFn 15
  have h10 := hFn 21
  have h13 := hFn 22
  have h14 := hFn 23
  have h17 := hFn 26
  have h1 : 1 ≤ m := by omega
  obtain ⟨i0, hi0, hz0, hz1, hz2⟩ := info_parts info8
  by_cases hok : ws.all okw = true
  · have HOK := Lib.hid hok
    have HWd : Hid (∀ W v, From W v (ws.map VI) → Calls Try.prog 21 #[v] W fun e w' => e = .returned (.int .i64 ((sumw ws : Nat) : Int)) ∧ Below W.heap.size W w') := fun W v hv => by
      rw [← wide_ok HOK.out]
      exact KWide_any ws (by rw [← HNl.out]; exact hn) v W hv
    have hs8 : sumw ws ≤ 8000000 := by have := sumw_le ws hok; have := HNl.out; omega
    obtain ⟨s, hsS⟩ : ∃ s, s = sumw ws := ⟨_, rfl⟩
    have HSS := Lib.hid hsS
    rw [← hsS] at HWd hs8
    clear hok hsS
    by_cases hnq : n = q
    · subst hnq
      have HL : Hid (ws.length = l.length) := by show _ = _; rw [← HNl.out, HQl.out]
      have HAf : Hid (∀ W v u, From W v (ws.map VI) → From W u (l.map VU) → Calls Try.prog 22 #[v, u] W fun e w' => e = .returned (.bool (fit ws l)) ∧ Below W.heap.size W w') := fun W v u hv hu =>
        allFit_any ws HOK.out l HL.out H64.out (by rw [← HNl.out]; exact hn) v u W hv hu
      by_cases hfit : fit ws l = true
      · have HFt := Lib.hid hfit
        rw [hfit] at HAf
        clear hfit
        obtain ⟨zs, hzs, hmk⟩ := made0 s (by omega)
        have HZs := Lib.hid hzs
        clear hzs
        gi_wp2_with (first
          | (gi_at_call 21; refine (hC (HWd.out _ _ HF.out)).mono ?_; rintro e w1 ⟨rfl, hb1⟩; have HF1 := Lib.hid (HF.out.below (hb1.mono (Nat.le_refl _))); have HU1 := Lib.hid (HU.out.below (hb1.mono (Nat.le_refl _))))
          | (gi_at_call 22; refine (hC (HAf.out _ _ _ HF1.out HU1.out)).mono ?_; rintro e w2 ⟨rfl, hb2⟩))
        have hb02 : Below w.heap.size w w2 := hb1.trans (hb2.mono hb1.size)
        have Hown3 : Hid (Own (w2.alloc (.cells zs 5)) w.heap.size 5 (.slice (some ⟨w2.heap.size, 0, none⟩) 0 s) []) := World.ownsRow_made w2 zs s hb02.size (by simp only [maxLen]; omega) (by rw [HZs.out, Nat.mul_one])
        have Hb3 : Hid (Below w.heap.size w (w2.alloc (.cells zs 5))) := hb02.alloc hb02.size _
        clear hb1 hb2 HF1 HU1 hb02
        have HMk0 : Hid (Marks w.heap.size ((w2.alloc (.cells zs 5)).alloc (.cells #[.slice (some ⟨w2.heap.size, 0, none⟩) 0 s] 25)).heap.size ((w2.alloc (.cells zs 5)).alloc (.cells #[.slice (some ⟨w2.heap.size, 0, none⟩) 0 s] 25)) []) := Marks.nil
        have HBx0 : Hid (Boxed ((w2.alloc (.cells zs 5)).alloc (.cells #[.slice (some ⟨w2.heap.size, 0, none⟩) 0 s] 25)) (w2.heap.size + 1) 25 (.slice (some ⟨w2.heap.size, 0, none⟩) 0 s)) := by
          have := Boxed.new (w2.alloc (.cells zs 5)) 25 (.slice (some ⟨w2.heap.size, 0, none⟩) 0 s)
          rwa [World.size_alloc] at this
        have HOw0 := Lib.hid (Hown3.out.alloc (.cells #[.slice (some ⟨w2.heap.size, 0, none⟩) 0 s] 25))
        have HBe0 : Hid (Below w.heap.size w ((w2.alloc (.cells zs 5)).alloc (.cells #[.slice (some ⟨w2.heap.size, 0, none⟩) 0 s] 25))) := Hb3.out.alloc Hb3.out.size _
        have hw2 : w.heap.size ≤ w2.heap.size + 1 := by have := Hb3.out.size; rwa [World.size_alloc] at this
        generalize (w2.alloc (.cells zs 5)).alloc (.cells #[.slice (some ⟨w2.heap.size, 0, none⟩) 0 s] 25) = W0 at *
        clear Hown3 Hb3 HZs hmk HWd HAf
        refine wpIn_loop (fun a' W => ∃ (k : Nat) (v : Value) (Ds : List Nat) (u2 u3 u4 u5 u6 u8 u9 u10 u11 u12 u13 u14 u15 u16 u17 u18 u19 u20 u21 u22 u23 u24 u25 u26 u27 u28 u29 u33 u34 u35 u36 u37 u38 u39 u40 u41 u42 u43 u44 u45 u46 u47 u48 u49 : Value), k ≤ n ∧ Boxed W (w2.heap.size + 1) 25 v ∧ Own W w.heap.size 5 v ((encs (ws.take k) (l.take k)).map V8) ∧ Below w.heap.size w W ∧ Marks w.heap.size W.heap.size W Ds ∧ a' = { tmps := #[.slice A n cap, .slice C n cap2, u2, u3, u4, u5, u6, .pointer (some ⟨w2.heap.size + 1, 0, none⟩), u8, u9, u10, u11, u12, u13, u14, u15, u16, u17, u18, u19, u20, u21, u22, u23, u24, u25, u26, u27, u28, u29, .slice A n cap, .int .i64 n, .int .i64 k, u33, u34, u35, u36, u37, u38, u39, u40, u41, u42, u43, u44, u45, u46, u47, u48, u49], defers := Ds.map mkd })
          (fun a' _ => n - (intOf (a'.tmps.getD 32 undef)).toNat) ⟨0, _, [], _, _, _, _, _, _, _, _, _, _, _, _, _, _, _, _, _, _, _, _, _, _, _, _, _, _, _, _, _, _, _, _, _, _, _, _, _, _, _, _, _, _, _, _, by omega, HBx0.out, HOw0.out, HBe0.out, HMk0.out, rfl⟩ ?_
        rintro _ wr ⟨k, v, Ds, u2, u3, u4, u5, u6, u8, u9, u10, u11, u12, u13, u14, u15, u16, u17, u18, u19, u20, u21, u22, u23, u24, u25, u26, u27, u28, u29, u33, u34, u35, u36, u37, u38, u39, u40, u41, u42, u43, u44, u45, u46, u47, u48, u49, hk, hbx, hown, hbel, hmk, rfl⟩
        clear HMk0 HBx0 HOw0 HBe0
        have HBX := Lib.hid hbx
        have HOW := Lib.hid hown
        have HBE := Lib.hid hbel
        have HMK := Lib.hid hmk
        have hszr : w.heap.size ≤ wr.heap.size := hbel.size
        have hltr : w2.heap.size + 1 < wr.heap.size := hbx.lt
        clear hown hbel hmk
        by_cases hlt : k < n
        · obtain ⟨b, o, rfl, hb, hsee⟩ := HS.out (by omega)
          obtain ⟨b2, o2, rfl, hb2, hsee2⟩ := HS2.out (by omega)
          have hx := atI (hsee.below HBE.out hb) k (by rw [← HNl.out]; exact hlt)
          have hy := atU (hsee2.below HBE.out hb2) k (by rw [← HQl.out]; exact hlt)
          have Htk := Lib.hid (take_snoc ws k (by rw [← HNl.out]; exact hlt) 0)
          have Htl := Lib.hid (take_snoc l k (by rw [← HQl.out]; exact hlt) 0)
          have hok : okw (ws.getD k 0) = true := by
            refine List.all_eq_true.1 HOK.out _ ?_
            rw [List.getD_eq_getElem?_getD, List.getElem?_eq_getElem (by rw [← HNl.out]; exact hlt)]
            exact List.getElem_mem _
          rw [okw_iff] at hok
          clear hsee hsee2 HS HS2 hbx
          generalize ws.getD k 0 = x at *
          generalize l.getD k 0 = y at *
          obtain ⟨h1x, h8x⟩ := hok
          have Hlen : Hid ((ws.take k).length = (l.take k).length) := by show _ = _; rw [List.length_take, List.length_take, HL.out]
          have Henc : Hid (encs (ws.take (k + 1)) (l.take (k + 1)) = encs (ws.take k) (l.take k) ++ big x.toNat y) := by show _ = _; rw [Htk.out, Htl.out, encs_append _ _ _ _ Hlen.out]
          have hel : (encs (ws.take k) (l.take k)).length ≤ 8000000 := by
            rw [encs_length _ _ Hlen.out]
            have h1 := sumw_append (ws.take k) (ws.drop k)
            rw [List.take_append_drop, ← HSS.out] at h1
            omega
          generalize encs (ws.take k) (l.take k) = E at *
          obtain ⟨xj, rfl⟩ : ∃ xj : Nat, x = (xj : Int) := ⟨x.toNat, by omega⟩
          have HX : Hid ((xj : Int).toNat = xj) := by show _ = _; omega
          rw [HX.out] at Henc
          gi_wp2_with (gi_at_call 23; refine (hC (numBytes_any (y : Int) xj wr)).mono ?_; rintro e w1 ⟨rfl, rfl⟩)
          have B1 := Boxed.new wr 40 (.int .u64 (y : Int))
          have B2 := Boxed.new (wr.alloc (.cells #[.int .u64 (y : Int)] 40)) 3 (.int .i64 (xj : Int))
          rw [World.size_alloc] at B2
          have B1' := B1.alloc (.cells #[.int .i64 (xj : Int)] 3)
          have HB1 := Lib.hid B1'
          have HB2 := Lib.hid B2
          have HBX1 := Lib.hid ((HBX.out.alloc (.cells #[.int .u64 (y : Int)] 40)).alloc (.cells #[.int .i64 (xj : Int)] 3))
          have HOW1 := Lib.hid ((HOW.out.alloc (.cells #[.int .u64 (y : Int)] 40)).alloc (.cells #[.int .i64 (xj : Int)] 3))
          have HBE1 : Hid (Below w.heap.size w ((wr.alloc (.cells #[.int .u64 (y : Int)] 40)).alloc (.cells #[.int .i64 (xj : Int)] 3))) := (HBE.out.alloc hszr _).alloc (by simp; omega) _
          have hsz1 : ((wr.alloc (.cells #[.int .u64 (y : Int)] 40)).alloc (.cells #[.int .i64 (xj : Int)] 3)).heap.size = wr.heap.size + 1 + 1 := by simp
          have HMK1 := Lib.hid ((HMK.out.alloc (.cells #[.int .u64 (y : Int)] 40)).alloc (.cells #[.int .i64 (xj : Int)] 3))
          clear B1 B2 B1' HBX HOW HBE HMK hx hy
          generalize (wr.alloc (.cells #[.int .u64 (y : Int)] 40)).alloc (.cells #[.int .i64 (xj : Int)] 3) = W1 at *
          refine wpIn_rangeFunc_ownG hro h1 (gf := 26) (lb := #[.pointer (some ⟨wr.heap.size + 1, 0, none⟩), .pointer (some ⟨wr.heap.size, 0, none⟩)]) rfl h17 (enters_of Try.func26 (by kernel_rfl) rfl)
            (numBytes_stops F (m - 1) h17 hro (by omega) (wr.heap.size + 1) wr.heap.size y xj (by omega) W1 HB2.out HB1.out) keepB_t (fun W l o o' hl ho hcl _ => keepB_b (by omega) (by omega) W l o o' hl ho hcl) (Below.refl _ _) (fun _ => rfl)
            (fun pre W => ((∃ v, Boxed W (w2.heap.size + 1) 25 v ∧ W.ownsRow w.heap.size 5 1 v ((E ++ pre).map V8).length ((E ++ pre).map V8) ∧ True) ∧ Boxed W (wr.heap.size + 1) 3 (.int .i64 (xj : Int)) ∧ Boxed W wr.heap.size 40 (.int .u64 (y : Int))) ∧ Below w.heap.size w W ∧ Marks w.heap.size W1.heap.size W Ds)
            (fun _ _ _ => False)
            (OwnFrom.and (OwnFrom.and (Own.from (holdsRow_own w.heap.size (w2.heap.size + 1) 25 5 1 (fun pre => ((E ++ pre).map V8).length) (fun pre => (E ++ pre).map V8) (fun _ _ => True)) _) (OwnFrom.and (Own.from (boxed_own _ _ (fun _ => .int .i64 (xj : Int))) _) (Own.from (boxed_own _ _ (fun _ => .int .u64 (y : Int))) _))) (OwnFrom.and (ownFrom_below (Nat.le_refl _) (by omega)) (marks_own (Nat.le_refl _))))
            (fun _ _ _ _ _ hs _ _ => hs)
            ⟨⟨⟨v, HBX1.out, by rw [List.append_nil]; exact HOW1.out, trivial⟩, HB2.out, HB1.out⟩, HBE1.out, HMK1.out.mono (by omega)⟩
            (fun z => { tmps := #[.slice (some ⟨b, o, none⟩) n cap, .slice (some ⟨b2, o2, none⟩) n cap2, u2, u3, u4, u5, u6, .pointer (some ⟨w2.heap.size + 1, 0, none⟩), .int .i64 k, .int .i64 (xj : Int), .int .u8 (z.toNat : Int), u11, u12, u13, u14, u15, u16, u17, u18, u19, u20, u21, u22, u23, u24, u25, u26, u27, u28, u29, .slice (some ⟨b, o, none⟩) n cap, .int .i64 n, .int .i64 k, .bool true, .int .i64 k, .pointer (some ⟨b, o + k, none⟩), .int .i64 (xj : Int), .slice (some ⟨b2, o2, none⟩) n cap2, .int .i64 k, .pointer (some ⟨b2, o2 + k, none⟩), .int .u64 (y : Int), .int .i64 (xj : Int), .func (.func 26) #[] #[.pointer (some ⟨wr.heap.size + 1, 0, none⟩), .pointer (some ⟨wr.heap.size, 0, none⟩)], .int .u8 (z.toNat : Int), u44, u45, u46, u47, u48, u49], defers := [] }) ?assign ?body ?done ?stop
          case assign =>
            intro l' z W K hK
            gi_wp2
            exact hK
          case body =>
            rintro l' pre z W ⟨⟨⟨v', hv, hrow, _⟩, hbw, hbu⟩, hB, hM⟩ hltj
            have hc := hv.cell
            have HM := Lib.hid hM
            have hBs := hB.size
            have hlen : ((E ++ pre).map V8).length + 1 ≤ 100000000 := by rw [List.length_map, List.length_append]; omega
            obtain ⟨N, hN⟩ : ∃ N, N = ((E ++ pre).map V8).length := ⟨_, rfl⟩
            rw [← hN] at hrow hlen
            have HN := Lib.hid hN
            clear hN hM HMK1 HOW1 HB1 HB2 HBX1 HBE1
            gi_wp2_with (gi_at_builtin; refine wpListIn_append_own _ rfl _ _ 25 rfl w.heap.size 5 i0 (.int .u8 0) 1 1 Try.underlying25 hi0 hz0 hz1 hz2 rfl (by decide) _ _ _ rfl (hrow.alloc _) ⟨W.heap.size, 0, none⟩ 1 1 [V8 z] rfl rfl (cell_one_new _ _ _) (by simp [V8, Value.oneCell']) (by simp only [maxLen]; omega) (by omega) (by simp; omega) ?_; intro v2 w5 hown' hgrow _; obtain ⟨g', cap', rfl⟩ := ownsRow_succ hown'; obtain ⟨hv1, hv2, hr2, hk2, hb2⟩ := hv.appended (by decide) hrow hBs hw2 hown' hgrow; have hc1 := hv1.cell; have hf1 := hv1.frozen)
            have hbw5 : Boxed w5 (wr.heap.size + 1) 3 (.int .i64 (xj : Int)) := (hbw.alloc _).kept hgrow (hbw.not_row (by decide) hrow)
            have hbu5 : Boxed w5 wr.heap.size 40 (.int .u64 (y : Int)) := (hbu.alloc _).kept hgrow (hbu.not_row (by decide) hrow)
            refine ⟨hk2.from _, ⟨fun v3 h3 => ?_, fun v3 h3 => ?_⟩, ⟨⟨_, hv2, by rw [← List.append_assoc, List.map_append, List.length_append, ← HN.out]; exact hr2, trivial⟩, hbw5.other (by omega) _, hbu5.other (by omega) _⟩, hB.trans hb2, HM.out.others hk2⟩
            · exact ((h3.alloc _).kept hgrow (h3.not_row (by decide) hrow)).other (by omega) _
            · exact ((h3.alloc _).kept hgrow (h3.not_row (by decide) hrow)).other (by omega) _
          case done =>
            rintro D ys W hD rfl ⟨⟨⟨v', hv, hrow, _⟩, hbw, hbu⟩, hB, hM⟩ hK
            rw [← Henc.out] at hrow
            have HV := Lib.hid hv
            have HR := Lib.hid hrow
            have HB := Lib.hid hB
            have HM : Hid (Marks w.heap.size W.heap.size W (D :: Ds)) := hM.cons hK hD (by omega)
            clear hv hrow hB hM hbw hbu HMK1 HOW1 HB1 HB2 HBX1 HBE1 hK Henc
            gi_wp2
            refine ⟨⟨k + 1, v', D :: Ds, _, _, _, _, _, _, _, _, _, _, _, _, _, _, _, _, _, _, _, _, _, _, _, _, _, _, _, _, _, _, _, _, _, _, _, _, _, _, _, _, _, _, _, _, by omega, HV.out, HR.out, HB.out, HM.out, by go_num⟩, ?_⟩
            simp [intOf]; omega
          case stop =>
            rintro D c pre W _ _ h _
            exact h.elim
        · obtain rfl : k = n := by omega
          have Henc : Hid (encs (ws.take k) (l.take k) = encs ws l) := by show _ = _; rw [List.take_of_length_le (by rw [← HNl.out]; omega), List.take_of_length_le (by rw [← HQl.out]; omega)]
          rw [Henc.out] at HOW
          have hc := HBX.out.cell
          have hok : okP ws l = true := okP_iff.2 ⟨HOK.out, HL.out, HFt.out⟩
          have HOKP := Lib.hid hok
          clear hok Henc
          gi_wp2
          refine leaves_marks Ds wr HMK.out fun W' hW' => ?_
          refine ⟨_, results_tmp2 rfl _ _ _, _, by rw [HOKP.out]; rfl, ?_, HBE.out.trans hW'.below⟩
          rw [putB, if_pos HOKP.out]
          exact (hW'.own HOW.out).arg
      · rw [Bool.not_eq_true] at hfit
        have HFt := Lib.hid hfit
        rw [hfit] at HAf
        clear hfit
        gi_wp2_with (first
          | (gi_at_call 21; refine (hC (HWd.out _ _ HF.out)).mono ?_; rintro e w1 ⟨rfl, hb1⟩; have HF1 := Lib.hid (HF.out.below (hb1.mono (Nat.le_refl _))); have HU1 := Lib.hid (HU.out.below (hb1.mono (Nat.le_refl _))))
          | (gi_at_call 22; refine (hC (HAf.out _ _ _ HF1.out HU1.out)).mono ?_; rintro e w2 ⟨rfl, hb2⟩))
        have hno : okP ws l = false := by rw [okP, HFt.out]; simp
        refine ⟨_, results_tmp2 rfl _ _ _, _, by rw [hno]; rfl, ?_, hb1.trans (hb2.mono hb1.size)⟩
        rw [putB, hno]
        exact .inl ⟨none, rfl, rfl⟩
    · gi_wp2_with (gi_at_call 21; refine (hC (HWd.out _ _ HF.out)).mono ?_; rintro e w1 ⟨rfl, hb1⟩)
      have hno : okP ws l = false := by
        rw [Bool.eq_false_iff]
        intro hh
        have := (okP_iff.1 hh).2.1
        rw [← HNl.out, ← HQl.out] at this
        exact hnq this
      refine ⟨_, results_tmp2 rfl _ _ _, _, by rw [hno]; rfl, ?_, hb1⟩
      rw [putB, hno]
      exact .inl ⟨none, rfl, rfl⟩
  · have hno : okP ws l = false := by
      rw [Bool.eq_false_iff]
      intro hh
      exact hok (okP_iff.1 hh).1
    have HNo := Lib.hid hno
    have HWd : Hid (∀ W v, From W v (ws.map VI) → Calls Try.prog 21 #[v] W fun e w' => e = .returned (.int .i64 (-1)) ∧ Below W.heap.size W w') := fun W v hv => by
      rw [← wide_bad hok]
      exact KWide_any ws (by rw [← HNl.out]; exact hn) v W hv
    have HOK := Lib.hid hok
    clear hok hno
    gi_wp2_with (gi_at_call 21; refine (hC (HWd.out _ _ HF.out)).mono ?_; rintro e w1 ⟨rfl, hb1⟩)
    refine ⟨_, results_tmp2 rfl _ _ _, _, by rw [HNo.out]; rfl, ?_, hb1⟩
    rw [putB, HNo.out]
    exact .inl ⟨none, rfl, rfl⟩

theorem KPut_any (ws : List Int) (hn : ws.length ≤ 1000000) (l : List Nat) (h64 : ∀ x ∈ l, x < 2 ^ 64) (v u : Value) (w : World) (h : From w v (ws.map VI)) (hu : From w u (l.map VU)) :
    Calls Try.prog 15 #[v, u] w fun e w' => ∃ r, e = .returned (.tuple #[r, .int .i64 (errI (okP ws l))]) ∧ Hid (Arg w' r (putB ws l)) ∧ Below w.heap.size w w' :=
  callsIn_wide.1 (KPut_in Fence.wide 3 (Nat.le_refl _) (fun _ => trivial) rfl (fun h => callsIn_wide.2 h) ws hn l h64 v u w h hu)
end Go.Proofs.Ytcpdhfgigopfoaa
