/-
  THE WALK of Get (the program's).
-/
import Derived.Test.YtaamhdgngnpmoaaGYA
import Derived.Test.YtaamhdgngnpmoaaGW
namespace Go.Proofs.Ytaamhdgngnpmoaa
open Go.RowKit Go.Shelf Dir

attribute [local go_sem] Oper.semAt_some

theorem leaves_markD {F : Fence} {m : Nat} {P : Program} {fn : Func} {tmps : Array Value} {R : Ending → World → Prop} {W : World} {D : Nat} (hK : W.heap[D]? = some (.deferred (some [])))
    (h : ∃ v, (results fn tmps).run P (W.putObj D (.deferred none)) = .ok v (W.putObj D (.deferred none)) ∧ R (.returned v) (W.putObj D (.deferred none))) : LeavesInM F m P fn tmps R [{ target := .collected D, args := #[] }] .returning W :=
  ⟨by simp, .inl ⟨D, _, rfl, run_takeDeferred hK, h⟩⟩
theorem below_shutD {n₀ D : Nat} {w W : World} {o' : Obj} (h : Below n₀ w W) (h0 : n₀ ≤ W.heap.size) (hD : n₀ ≤ D) : Below n₀ w (W.putObj D o') :=
  h.trans ((Below.refl n₀ W).grown (grownBy_putObj' W D o') h0 (fun k e => by cases e; omega))

/-- What a round of Get carries from one operation to the next. -/
structure BdG (B gl gs gz : Nat) (v' : Value) (L : List En) (W W' : World) : Prop where
  box : Boxed W' gl 22 v'
  own : OwnE W' B 26 v' L
  keep : KeepC gs gz W W'
  oth : KeepsOthers W W'
  bel : Below B W W'
theorem others_below {W W' : World} (h : Below W.heap.size W W') : KeepsOthers W W' := ⟨h.size, fun k _ hk _ => (h.block k (Array.getElem?_eq_some_iff.1 hk).1).trans hk⟩
theorem BdG.below {B gl gs gz : Nat} {v' : Value} {L : List En} {W X Y : World} (h : BdG B gl gs gz v' L W X) (hb : Below X.heap.size X Y) (hB : B ≤ X.heap.size) : BdG B gl gs gz v' L W Y :=
  ⟨(hb.block _ h.box.lt).trans h.box, h.own.below hb (Nat.le_refl _), keepC_t h.keep ⟨fun _ hv => (hb.block _ hv.lt).trans hv, fun _ hv => (hb.block _ hv.lt).trans hv⟩, h.oth.trans (others_below hb), h.bel.trans (hb.mono hB)⟩
theorem entsP_ok (b : List UInt8) : EnsOk (entsP b) := fun e he => by
  obtain ⟨i, _, rfl⟩ := List.mem_map.1 he
  unfold decP
  refine ⟨?_, ?_, ?_⟩
  · simp only [List.length_take]; omega
  · simp only; omega
  · simp only
    have := UInt8.toNat_lt (((b.drop (16 * i)).take 16).getD 0 0)
    omega
/-- The entries of some pieces. -/
def entF (b : List UInt8) {q : Nat} (pre : List (Fin q)) : List En := pre.map fun x => decP ((b.drop (16 * x.val)).take 16)
theorem entF_snoc (b : List UInt8) {q : Nat} (pre : List (Fin q)) (x : Fin q) : entF b (pre ++ [x]) = entF b pre ++ [decP ((b.drop (16 * x.val)).take 16)] := by simp [entF]
theorem entF_length (b : List UInt8) {q : Nat} (pre : List (Fin q)) : (entF b pre).length = pre.length := by simp [entF]
theorem entF_all (b : List UInt8) (q : Nat) (hb : b.length = 16 * q) : entF b (List.finRange q) = entsP b := by
  unfold entF entsP
  rw [hb, show 16 * q / 16 = q by omega]
  apply List.ext_getElem
  · simp
  · intro i h1 h2
    simp

set_option maxRecDepth 100000 in
set_option maxHeartbeats 2000000 in
theorem DiGet_in (F : Fence) (m : Nat) (hm : 3 ≤ m) (hO : Open F Try.prog) (hro : F.round = none) (bs : List UInt8) (hl : bs.length ≤ 1000) (v : Value) (w : World) (h : Arg w v bs) :
    CallsIn F m Try.prog 13 #[v] w fun e w' => ∃ r, e = .returned (.tuple #[r, .int .i64 (if okG bs then 0 else 10)]) ∧ Hid (EntsHi w' w.heap.size r (getL bs)) ∧ Below w.heap.size w w' := by
  obtain ⟨EI, hEI⟩ : ∃ EI, EI = (if okG bs then (0 : Int) else 10) := ⟨_, rfl⟩
  have HN : Hid (okG bs = false → EI = 10 ∧ getL bs = []) := fun h => ⟨by rw [hEI, h]; rfl, by rw [getL, h]; rfl⟩
  have HY : Hid (okG bs = true → EI = 0 ∧ getL bs = entsP bs) := fun h => ⟨by rw [hEI, h]; rfl, get_eq h⟩
  have HI := Lib.hid (ok_iff bs)
  have HLong : Hid (496 < bs.length → okG bs = false) := fun h => by
    rw [Bool.eq_false_iff]
    intro hh
    have := ok_long hh
    omega
  have H16 : Hid (bs.length % 16 ≠ 0 → okG bs = false) := fun h => by
    rw [Bool.eq_false_iff]
    intro hh
    exact h (okG_iff.1 hh).1
  rw [← hEI]
  clear hEI
  obtain ⟨EL, hEL⟩ : ∃ EL, EL = getL bs := ⟨_, rfl⟩
  rw [← hEL] at HN HY ⊢
  clear hEL
  have HA := Lib.hid h
  obtain ⟨A, cap, hv⟩ := h.form
  subst hv
  obtain ⟨n, hnl⟩ : ∃ n, n = bs.length := ⟨_, rfl⟩
  rw [← hnl] at hl HLong H16 HA ⊢
  have HNl := Lib.hid hnl
  have h1 : 1 ≤ m := by omega
  clear h hnl
  refine callsIn_of_wp_marks Try.func13 rfl (hO.fn _) ?_ hro
  simp only [Try.ntmps13, List.size_toArray, List.length_cons, List.length_nil, Nat.reduceAdd, Nat.reduceSub, Array.replicate_succ, Array.replicate_zero, List.push_toArray, List.append_toArray, List.nil_append, List.cons_append]
  have hf25 := hO.fn 25
  have hf7 := hO.fn 7
  have hf27 := hO.fn 27
  by_cases h16 : n % 16 = 0
  · obtain ⟨q, rfl⟩ : ∃ q, n = 16 * q := ⟨n / 16, by omega⟩
    by_cases h496 : 496 < 16 * q
    · have HNo := Lib.hid (HN.out (HLong.out h496))
      have hz : ((16 * q : Nat) : Int) % 16 = 0 := by omega
      have hg : (496 : Int) < ((16 * q : Nat) : Int) := by omega
      gi_wp2
      refine ⟨_, results_tmp2 rfl _ _ _, _, by rw [HNo.out.1]; rfl, ?_, Below.refl _ _⟩
      rw [HNo.out.2]
      exact ⟨none, 0, rfl, fun hp => absurd hp (by simp)⟩
    · have hz : ((16 * q : Nat) : Int) % 16 = 0 := by omega
      have hg : ¬ (496 : Int) < ((16 * q : Nat) : Int) := by omega
      gi_wp2_with (gi_at_call 25; refine (hO.calls (DiChunk_any A (16 * q) cap _)).mono ?_; rintro e w1 ⟨rfl, rfl⟩)
      obtain ⟨b, o, hAb, hcap⟩ : ∃ b o, (0 < q → A = some ⟨b, o, none⟩ ∧ b < w.heap.size ∧ Sees w b o (bs.map V8)) ∧ 16 * q ≤ cap := by
        rcases HA.out with ⟨A', e, h0⟩ | ⟨b, o, c, e, hb, hc, hs⟩
        · injection e with e1 e2 e3
          exact ⟨0, 0, fun hp => absurd hp (by omega), by omega⟩
        · injection e with e1 e2 e3
          exact ⟨b, o, fun _ => ⟨e1, hb, hs⟩, by rw [e3]; omega⟩
      have HAb := Lib.hid hAb
      have hq31 : q ≤ 31 := by omega
      obtain ⟨W1, hW1⟩ : ∃ W, W = ((w.alloc (.cells #[.slice none 0 0] 22)).alloc (.cells #[.slice A (16 * q) cap] 23)).alloc (.cells #[.int .i64 16] 3) := ⟨_, rfl⟩
      have hR0 : Boxed W1 w.heap.size 22 (.slice none 0 0) := by rw [hW1]; exact ((Boxed.new w 22 (.slice none 0 0)).alloc _).alloc _
      have hR1 : Boxed W1 (w.heap.size + 1) 23 (.slice A (16 * q) cap) := by
        rw [hW1]
        have := Boxed.new (w.alloc (.cells #[.slice none 0 0] 22)) 23 (.slice A (16 * q) cap)
        rw [World.size_alloc] at this
        exact this.alloc _
      have hR2 : Boxed W1 (w.heap.size + 1 + 1) 3 (.int .i64 16) := by
        rw [hW1]
        have := Boxed.new ((w.alloc (.cells #[.slice none 0 0] 22)).alloc (.cells #[.slice A (16 * q) cap] 23)) 3 (.int .i64 16)
        rwa [World.size_alloc, World.size_alloc] at this
      have hB1 : Below w.heap.size w W1 := by rw [hW1]; exact (((Below.refl _ _).alloc (Nat.le_refl _) _).alloc (by simp) _).alloc (by simp; omega) _
      have hs1 : W1.heap.size = w.heap.size + 1 + 1 + 1 := by rw [hW1]; simp
      have hsq := chunk_stops F (m - 1) hO hro (by omega) (w.heap.size + 1) (w.heap.size + 1 + 1) A b o q cap (fun hp => (HAb.out hp).1) (by omega) hcap W1 hR1 hR2
      rw [← hW1]
      clear hW1 hAb
      refine wpIn_rangeFunc_ownG hro h1 (gf := 33) (lb := #[.pointer (some ⟨w.heap.size + 1, 0, none⟩), .pointer (some ⟨w.heap.size + 1 + 1, 0, none⟩)]) rfl (hO.fn _) (enters_of Try.func33 (by kernel_rfl) rfl)
        hsq keepC_t (fun W l o o' hl ho hcl _ => keepC_b (by omega) (by omega) W l o o' hl ho hcl) (Below.refl _ _) (fun _ => rfl)
        (fun pre W => ((∃ v, Boxed W w.heap.size 22 v ∧ W.ownsRow w.heap.size 26 2 v (entF bs pre).length (cEs (entF bs pre)) ∧ True) ∧ Boxed W (w.heap.size + 1) 23 (.slice A (16 * q) cap) ∧ Boxed W (w.heap.size + 1 + 1) 3 (.int .i64 16)) ∧ Below w.heap.size w W)
        (fun _ _ _ => False)
        (OwnFrom.and (OwnFrom.and (Own.from (holdsRow_own w.heap.size w.heap.size 22 26 2 (fun pre => (entF bs pre).length) (fun pre => cEs (entF bs pre)) (fun _ _ => True)) _) (OwnFrom.and (Own.from (boxed_own _ _ (fun _ => .slice A (16 * q) cap)) _) (Own.from (boxed_own _ _ (fun _ => .int .i64 16)) _))) (ownFrom_below (Nat.le_refl _) (by omega)))
        (fun _ _ _ _ _ hs _ _ => hs)
        ⟨⟨⟨_, hR0, World.ownsRow_nil _ _ _ _, trivial⟩, hR1, hR2⟩, hB1⟩
        (fun z => { tmps := #[.slice A (16 * q) cap, undef, .slice none 0 0, .int .i64 0, .pointer (some ⟨w.heap.size, 0, none⟩), (.slice (some ⟨b, o + 16 * z.val, none⟩) 16 16), undef, undef, .slice A (16 * q) cap, .int .i64 (16 * (q : Int)), .int .i64 0, .bool false, .bool false, .slice A (16 * q) cap, .int .i64 (16 * (q : Int)), .bool (decide ((496 : Int) < 16 * (q : Int))), .bool (decide ((496 : Int) < 16 * (q : Int))), .slice A (16 * q) cap, .func (.func 33) #[] #[.pointer (some ⟨w.heap.size + 1, 0, none⟩), .pointer (some ⟨w.heap.size + 1 + 1, 0, none⟩)], (.slice (some ⟨b, o + 16 * z.val, none⟩) 16 16), undef, undef, undef, undef, undef, undef, undef, undef, undef, undef, undef, undef, undef, undef, undef, undef, undef, undef, undef, undef, undef], defers := [] }) ?assign ?body ?done ?stop
      case assign =>
        intro l' z W K hK
        gi_wp2
        exact hK
      case body =>
        rintro l' pre z W ⟨⟨⟨v', hv, hrow, _⟩, hbs, hbz⟩, hB⟩ hltj
        have hz : z.val < q := z.isLt
        obtain ⟨rfl, hb, hsee⟩ := HAb.out (by omega)
        obtain ⟨c, hc⟩ : ∃ c, c = (bs.drop (16 * z.val)).take 16 := ⟨_, rfl⟩
        have hc16 : c.length = 16 := by rw [hc, List.length_take, List.length_drop, ← HNl.out]; omega
        have HSn : Hid (entF bs (pre ++ [z]) = entF bs pre ++ [decP c]) := by rw [hc]; exact entF_snoc bs pre z
        have HRa : Hid (∀ X, Below w.heap.size w X → X.rangeAt b (o + 16 * z.val) (c.map V8)) := fun X hX => by
          have := (hsee.below hX hb).piece (16 * z.val) 16
          rw [← List.map_drop, ← List.map_take, ← hc] at this
          exact this
        have HDec := Lib.hid (DiDecode_any c hc16)
        obtain ⟨CC, hCC⟩ : ∃ CC, CC = c.map V8 := ⟨_, rfl⟩
        have HCl : Hid (CC.length = 16) := by show _ = _; rw [hCC, List.length_map, hc16]
        rw [← hCC] at HRa HDec
        obtain ⟨x, hx⟩ : ∃ x, x = decP c := ⟨_, rfl⟩
        rw [← hx] at HDec HSn
        clear hCC hx hc hsee hc16
        obtain ⟨xn, xk⟩ := x
        simp only at HDec
        obtain ⟨L, hL⟩ : ∃ L, L = entF bs pre := ⟨_, rfl⟩
        rw [← hL] at hrow HSn
        have HLl : Hid (L.length ≤ 1000) := by show _ ≤ _; rw [hL, entF_length]; omega
        have HBd : Hid (BdG w.heap.size w.heap.size (w.heap.size + 1) (w.heap.size + 1 + 1) v' L W W) := ⟨hv, hrow, ⟨fun _ h => h, fun _ h => h⟩, KeepsOthers.refl _, Below.refl _ _⟩
        have HB := Lib.hid hB
        have HBx : Hid (Boxed W (w.heap.size + 1) 23 (.slice (some ⟨b, o, none⟩) (16 * q) cap) ∧ Boxed W (w.heap.size + 1 + 1) 3 (.int .i64 16)) := ⟨hbs, hbz⟩
        clear hL hrow hv hB hbs hbz hsq hR0 hR1 hR2
        gi_wp2_with fail
        refine wpIn_region_held_drew (S := (fun X => X.rangeAt b (o + 16 * z.val) CC)) (hO.inRound l') (by kernel_rfl) (fun hn => ?nl) (by kernel_rfl) (HRa.out _ (below_drewN HB.out 1)) (fun hHeld => ?_)
        case nl =>
          obtain ⟨a, b, hn⟩ := hn
          exact hn
        have HBd1 : Hid (BdG w.heap.size w.heap.size (w.heap.size + 1) (w.heap.size + 1 + 1) v' L W W.drew) := HBd.out.below (below_drewN (Below.refl _ _) 1) HB.out.size
        generalize W.drew = Wd at *
        clear HBd
        refine wpAnyH_take (i := 1) (oi := ⟨some 21, _, _, _, _, _⟩) (v := ?_) rfl (by kernel_rfl) (by kernel_rfl) (by kernel_rfl) (fun _ _ _ h => h) (Or.inl ⟨by rfl, ?_⟩) hHeld ?_
        rotate_left
        · intro w hSw
          go_simp
          with_reducible rfl
        try go_frame
        refine wpAnyH_take (i := 2) (oi := ⟨some 22, _, _, _, _, _⟩) (v := ?_) rfl (by kernel_rfl) (by kernel_rfl) (by kernel_rfl) (fun _ _ _ h => h) (Or.inl ⟨by rfl, ?_⟩) hHeld ?_
        rotate_left
        · intro w hSw
          have har := run_arrayAt (P := Try.prog) w 52 5 16 (some ⟨b, o + 16 * z.val, none⟩) 16 16 Try.underlying52 (Nat.le_refl _)
          go_simp
          with_reducible rfl
        try go_frame
        refine wpAnyH_take (i := 3) (oi := ⟨some 23, _, _, _, _, _⟩) (v := .agg (CC).toArray) rfl (by kernel_rfl) (by kernel_rfl) (by kernel_rfl) (fun _ _ _ h => h) (yieldsIf_load_mid (by rfl) 52 (.tmp 22) rfl b (o + 16 * z.val) rfl CC _ (fun W h => h) Try.underlying52 rfl (by rw [HCl.out]; exact size16)) hHeld ?_
        try go_frame
        refine wpAnyH_ready (rs := [0, 4]) (by kernel_rfl) (by simp) ?_
        refine AllReadyH.cons (o := ⟨some 20, _, _, _, _, _⟩) rfl (fun K hK => ?_) ?_
        · skip
          have hc := HBd1.out.box.cell
          go_simp
          clear hc
          refine hK.out _ _ hHeld (fun hHeld => ?_)
          clear hK K
          try go_frame
          refine wpAnyH_ready (rs := [4]) (by kernel_rfl) (by simp) ?_
          refine AllReadyH.cons (o := ⟨some 24, _, _, _, _, _⟩) rfl (fun K hK => ?_) AllReadyH.nil
          go_simp
          go_at_call 26
          refine (HDec.out _).mono ?_
          rintro e Wc ⟨rfl, hb⟩
          have HBd2 : Hid (BdG w.heap.size w.heap.size (w.heap.size + 1) (w.heap.size + 1 + 1) v' L W Wc) := HBd1.out.below hb (Nat.le_trans HB.out.size HBd1.out.bel.size)
          have HBc : Hid (Below w.heap.size w Wc) := HB.out.trans HBd2.out.bel
          refine hK.out _ _ (HRa.out _ HBc.out) (fun hHeld => ?_)
          clear hK K hb
          try go_frame
          refine wpAnyH_ready (rs := [5]) (by kernel_rfl) (by simp) ?_
          refine AllReadyH.cons (o := ⟨some 25, _, _, _, _, _⟩) rfl (fun K hK => ?_) AllReadyH.nil
          go_simp
          refine hK.out _ _ (HRa.out _ (HBc.out.alloc HBc.out.size _)) (fun hHeld => ?_)
          clear hK K
          try go_frame
          refine wpAnyH_ready (rs := [6]) (by kernel_rfl) (by simp) ?_
          refine AllReadyH.cons (o := ⟨some 26, _, _, _, _, _⟩) rfl (fun K hK => ?_) AllReadyH.nil
          refine step_appE rfl (.tmp 20) (.tmp 25) 22 rfl Try.underlying22 infoEn rfl (OwnE.alloc HBd2.out.own _) Wc.heap.size ⟨xn, xk⟩ rfl (Row.new Wc 26 (cE ⟨xn, xk⟩)) (by have := HLl.out; omega) (by rw [World.size_alloc]; have := HBc.out.size; omega) ?_
          intro v5 w5 hown5 hg5 _
          have hown' : w5.ownsRow w.heap.size 26 2 v5 (L.length + 1) (cEs (L ++ [⟨xn, xk⟩])) := by have h : w5.ownsRow _ _ _ _ _ _ := hown5; rwa [List.length_append] at h
          obtain ⟨g', cap', rfl⟩ := ownsRow_succ hown'
          obtain ⟨hv1, hv2, hr2, hk2, hb2⟩ := Boxed.appended HBd2.out.box (by decide) HBd2.out.own HBc.out.size (Nat.le_refl _) hown' hg5
          have hks : ∀ u, Boxed W (w.heap.size + 1) 23 u → Boxed (w5.setCell ⟨w.heap.size, 0, none⟩ (.slice (some ⟨g', 0, none⟩) (L.length + 1) cap')) (w.heap.size + 1) 23 u := fun u hu =>
            (((HBd2.out.keep.1 u hu).alloc _).kept hg5 ((HBd2.out.keep.1 u hu).not_row (by decide) HBd2.out.own)).kept (grownBy_setCell' w5 _ _) (by intro e; injection e with e; omega)
          have hkz : ∀ u, Boxed W (w.heap.size + 1 + 1) 3 u → Boxed (w5.setCell ⟨w.heap.size, 0, none⟩ (.slice (some ⟨g', 0, none⟩) (L.length + 1) cap')) (w.heap.size + 1 + 1) 3 u := fun u hu =>
            (((HBd2.out.keep.2 u hu).alloc _).kept hg5 ((HBd2.out.keep.2 u hu).not_row (by decide) HBd2.out.own)).kept (grownBy_setCell' w5 _ _) (by intro e; injection e with e; omega)
          have hbel : Below w.heap.size w (w5.setCell ⟨w.heap.size, 0, none⟩ (.slice (some ⟨g', 0, none⟩) (L.length + 1) cap')) := HBc.out.trans hb2
          have HNew : Hid (KeepsFrom W1.heap.size W (w5.setCell ⟨w.heap.size, 0, none⟩ (.slice (some ⟨g', 0, none⟩) (L.length + 1) cap')) ∧ KeepC (w.heap.size + 1) (w.heap.size + 1 + 1) W (w5.setCell ⟨w.heap.size, 0, none⟩ (.slice (some ⟨g', 0, none⟩) (L.length + 1) cap')) ∧ ((∃ v, Boxed (w5.setCell ⟨w.heap.size, 0, none⟩ (.slice (some ⟨g', 0, none⟩) (L.length + 1) cap')) w.heap.size 22 v ∧ (w5.setCell ⟨w.heap.size, 0, none⟩ (.slice (some ⟨g', 0, none⟩) (L.length + 1) cap')).ownsRow w.heap.size 26 2 v (entF bs (pre ++ [z])).length (cEs (entF bs (pre ++ [z]))) ∧ True) ∧ Boxed (w5.setCell ⟨w.heap.size, 0, none⟩ (.slice (some ⟨g', 0, none⟩) (L.length + 1) cap')) (w.heap.size + 1) 23 (.slice (some ⟨b, o, none⟩) (16 * q) cap) ∧ Boxed (w5.setCell ⟨w.heap.size, 0, none⟩ (.slice (some ⟨g', 0, none⟩) (L.length + 1) cap')) (w.heap.size + 1 + 1) 3 (.int .i64 16)) ∧ Below w.heap.size w (w5.setCell ⟨w.heap.size, 0, none⟩ (.slice (some ⟨g', 0, none⟩) (L.length + 1) cap'))) := by
            refine ⟨(HBd2.out.oth.trans hk2).from _, ⟨hks, hkz⟩, ⟨⟨_, hv2, ?_, trivial⟩, hks _ HBx.out.1, hkz _ HBx.out.2⟩, hbel⟩
            rw [HSn.out, List.length_append]
            exact hr2
          have hbw5 : Below w.heap.size w w5 := below_appE (HBc.out.alloc HBc.out.size _) (OwnE.alloc HBd2.out.own _) hg5 (Nat.le_refl _) (by rw [World.size_alloc]; have := HBc.out.size; omega)
          have cs1 := hv1.cell
          have cs2 := hv1.frozen
          refine hK.out _ _ (HRa.out _ hbw5) (fun hHeld => ?_)
          clear hK K
          try go_frame
          refine wpAnyH_ready (rs := [7]) (by kernel_rfl) (by simp) ?_
          refine AllReadyH.cons (o := ⟨none, _, _, _, _, _⟩) rfl (fun K hK => ?_) AllReadyH.nil
          go_simp
          refine hK.out _ _ (HRa.out _ hbel) (fun hHeld => ?_)
          clear hK K
          try go_frame
          refine wpAnyH_done (by kernel_rfl) ?_ _
          exact HNew.out
        refine AllReadyH.cons (o := ⟨some 24, _, _, _, _, _⟩) rfl (fun K hK => ?_) ?_
        · skip
          go_simp
          go_at_call 26
          refine (HDec.out _).mono ?_
          rintro e Wc ⟨rfl, hb⟩
          have HBd2 : Hid (BdG w.heap.size w.heap.size (w.heap.size + 1) (w.heap.size + 1 + 1) v' L W Wc) := HBd1.out.below hb (Nat.le_trans HB.out.size HBd1.out.bel.size)
          have HBc : Hid (Below w.heap.size w Wc) := HB.out.trans HBd2.out.bel
          refine hK.out _ _ (HRa.out _ HBc.out) (fun hHeld => ?_)
          clear hK K hb
          try go_frame
          refine wpAnyH_ready (rs := [0, 5]) (by kernel_rfl) (by simp) ?_
          refine AllReadyH.cons (o := ⟨some 20, _, _, _, _, _⟩) rfl (fun K hK => ?_) ?_
          · skip
            have hc := HBd2.out.box.cell
            go_simp
            clear hc
            refine hK.out _ _ hHeld (fun hHeld => ?_)
            clear hK K
            try go_frame
            refine wpAnyH_ready (rs := [5]) (by kernel_rfl) (by simp) ?_
            refine AllReadyH.cons (o := ⟨some 25, _, _, _, _, _⟩) rfl (fun K hK => ?_) AllReadyH.nil
            go_simp
            refine hK.out _ _ (HRa.out _ (HBc.out.alloc HBc.out.size _)) (fun hHeld => ?_)
            clear hK K
            try go_frame
            refine wpAnyH_ready (rs := [6]) (by kernel_rfl) (by simp) ?_
            refine AllReadyH.cons (o := ⟨some 26, _, _, _, _, _⟩) rfl (fun K hK => ?_) AllReadyH.nil
            refine step_appE rfl (.tmp 20) (.tmp 25) 22 rfl Try.underlying22 infoEn rfl (OwnE.alloc HBd2.out.own _) Wc.heap.size ⟨xn, xk⟩ rfl (Row.new Wc 26 (cE ⟨xn, xk⟩)) (by have := HLl.out; omega) (by rw [World.size_alloc]; have := HBc.out.size; omega) ?_
            intro v5 w5 hown5 hg5 _
            have hown' : w5.ownsRow w.heap.size 26 2 v5 (L.length + 1) (cEs (L ++ [⟨xn, xk⟩])) := by have h : w5.ownsRow _ _ _ _ _ _ := hown5; rwa [List.length_append] at h
            obtain ⟨g', cap', rfl⟩ := ownsRow_succ hown'
            obtain ⟨hv1, hv2, hr2, hk2, hb2⟩ := Boxed.appended HBd2.out.box (by decide) HBd2.out.own HBc.out.size (Nat.le_refl _) hown' hg5
            have hks : ∀ u, Boxed W (w.heap.size + 1) 23 u → Boxed (w5.setCell ⟨w.heap.size, 0, none⟩ (.slice (some ⟨g', 0, none⟩) (L.length + 1) cap')) (w.heap.size + 1) 23 u := fun u hu =>
              (((HBd2.out.keep.1 u hu).alloc _).kept hg5 ((HBd2.out.keep.1 u hu).not_row (by decide) HBd2.out.own)).kept (grownBy_setCell' w5 _ _) (by intro e; injection e with e; omega)
            have hkz : ∀ u, Boxed W (w.heap.size + 1 + 1) 3 u → Boxed (w5.setCell ⟨w.heap.size, 0, none⟩ (.slice (some ⟨g', 0, none⟩) (L.length + 1) cap')) (w.heap.size + 1 + 1) 3 u := fun u hu =>
              (((HBd2.out.keep.2 u hu).alloc _).kept hg5 ((HBd2.out.keep.2 u hu).not_row (by decide) HBd2.out.own)).kept (grownBy_setCell' w5 _ _) (by intro e; injection e with e; omega)
            have hbel : Below w.heap.size w (w5.setCell ⟨w.heap.size, 0, none⟩ (.slice (some ⟨g', 0, none⟩) (L.length + 1) cap')) := HBc.out.trans hb2
            have HNew : Hid (KeepsFrom W1.heap.size W (w5.setCell ⟨w.heap.size, 0, none⟩ (.slice (some ⟨g', 0, none⟩) (L.length + 1) cap')) ∧ KeepC (w.heap.size + 1) (w.heap.size + 1 + 1) W (w5.setCell ⟨w.heap.size, 0, none⟩ (.slice (some ⟨g', 0, none⟩) (L.length + 1) cap')) ∧ ((∃ v, Boxed (w5.setCell ⟨w.heap.size, 0, none⟩ (.slice (some ⟨g', 0, none⟩) (L.length + 1) cap')) w.heap.size 22 v ∧ (w5.setCell ⟨w.heap.size, 0, none⟩ (.slice (some ⟨g', 0, none⟩) (L.length + 1) cap')).ownsRow w.heap.size 26 2 v (entF bs (pre ++ [z])).length (cEs (entF bs (pre ++ [z]))) ∧ True) ∧ Boxed (w5.setCell ⟨w.heap.size, 0, none⟩ (.slice (some ⟨g', 0, none⟩) (L.length + 1) cap')) (w.heap.size + 1) 23 (.slice (some ⟨b, o, none⟩) (16 * q) cap) ∧ Boxed (w5.setCell ⟨w.heap.size, 0, none⟩ (.slice (some ⟨g', 0, none⟩) (L.length + 1) cap')) (w.heap.size + 1 + 1) 3 (.int .i64 16)) ∧ Below w.heap.size w (w5.setCell ⟨w.heap.size, 0, none⟩ (.slice (some ⟨g', 0, none⟩) (L.length + 1) cap'))) := by
              refine ⟨(HBd2.out.oth.trans hk2).from _, ⟨hks, hkz⟩, ⟨⟨_, hv2, ?_, trivial⟩, hks _ HBx.out.1, hkz _ HBx.out.2⟩, hbel⟩
              rw [HSn.out, List.length_append]
              exact hr2
            have hbw5 : Below w.heap.size w w5 := below_appE (HBc.out.alloc HBc.out.size _) (OwnE.alloc HBd2.out.own _) hg5 (Nat.le_refl _) (by rw [World.size_alloc]; have := HBc.out.size; omega)
            have cs1 := hv1.cell
            have cs2 := hv1.frozen
            refine hK.out _ _ (HRa.out _ hbw5) (fun hHeld => ?_)
            clear hK K
            try go_frame
            refine wpAnyH_ready (rs := [7]) (by kernel_rfl) (by simp) ?_
            refine AllReadyH.cons (o := ⟨none, _, _, _, _, _⟩) rfl (fun K hK => ?_) AllReadyH.nil
            go_simp
            refine hK.out _ _ (HRa.out _ hbel) (fun hHeld => ?_)
            clear hK K
            try go_frame
            refine wpAnyH_done (by kernel_rfl) ?_ _
            exact HNew.out
          refine AllReadyH.cons (o := ⟨some 25, _, _, _, _, _⟩) rfl (fun K hK => ?_) ?_
          · skip
            go_simp
            refine hK.out _ _ (HRa.out _ (HBc.out.alloc HBc.out.size _)) (fun hHeld => ?_)
            clear hK K
            try go_frame
            refine wpAnyH_ready (rs := [0]) (by kernel_rfl) (by simp) ?_
            refine AllReadyH.cons (o := ⟨some 20, _, _, _, _, _⟩) rfl (fun K hK => ?_) AllReadyH.nil
            have hc := (Boxed.alloc HBd2.out.box (.cells #[SB xn, .int .i64 xk] 26)).cell
            go_simp
            clear hc
            refine hK.out _ _ hHeld (fun hHeld => ?_)
            clear hK K
            try go_frame
            refine wpAnyH_ready (rs := [6]) (by kernel_rfl) (by simp) ?_
            refine AllReadyH.cons (o := ⟨some 26, _, _, _, _, _⟩) rfl (fun K hK => ?_) AllReadyH.nil
            refine step_appE rfl (.tmp 20) (.tmp 25) 22 rfl Try.underlying22 infoEn rfl (OwnE.alloc HBd2.out.own _) Wc.heap.size ⟨xn, xk⟩ rfl (Row.new Wc 26 (cE ⟨xn, xk⟩)) (by have := HLl.out; omega) (by rw [World.size_alloc]; have := HBc.out.size; omega) ?_
            intro v5 w5 hown5 hg5 _
            have hown' : w5.ownsRow w.heap.size 26 2 v5 (L.length + 1) (cEs (L ++ [⟨xn, xk⟩])) := by have h : w5.ownsRow _ _ _ _ _ _ := hown5; rwa [List.length_append] at h
            obtain ⟨g', cap', rfl⟩ := ownsRow_succ hown'
            obtain ⟨hv1, hv2, hr2, hk2, hb2⟩ := Boxed.appended HBd2.out.box (by decide) HBd2.out.own HBc.out.size (Nat.le_refl _) hown' hg5
            have hks : ∀ u, Boxed W (w.heap.size + 1) 23 u → Boxed (w5.setCell ⟨w.heap.size, 0, none⟩ (.slice (some ⟨g', 0, none⟩) (L.length + 1) cap')) (w.heap.size + 1) 23 u := fun u hu =>
              (((HBd2.out.keep.1 u hu).alloc _).kept hg5 ((HBd2.out.keep.1 u hu).not_row (by decide) HBd2.out.own)).kept (grownBy_setCell' w5 _ _) (by intro e; injection e with e; omega)
            have hkz : ∀ u, Boxed W (w.heap.size + 1 + 1) 3 u → Boxed (w5.setCell ⟨w.heap.size, 0, none⟩ (.slice (some ⟨g', 0, none⟩) (L.length + 1) cap')) (w.heap.size + 1 + 1) 3 u := fun u hu =>
              (((HBd2.out.keep.2 u hu).alloc _).kept hg5 ((HBd2.out.keep.2 u hu).not_row (by decide) HBd2.out.own)).kept (grownBy_setCell' w5 _ _) (by intro e; injection e with e; omega)
            have hbel : Below w.heap.size w (w5.setCell ⟨w.heap.size, 0, none⟩ (.slice (some ⟨g', 0, none⟩) (L.length + 1) cap')) := HBc.out.trans hb2
            have HNew : Hid (KeepsFrom W1.heap.size W (w5.setCell ⟨w.heap.size, 0, none⟩ (.slice (some ⟨g', 0, none⟩) (L.length + 1) cap')) ∧ KeepC (w.heap.size + 1) (w.heap.size + 1 + 1) W (w5.setCell ⟨w.heap.size, 0, none⟩ (.slice (some ⟨g', 0, none⟩) (L.length + 1) cap')) ∧ ((∃ v, Boxed (w5.setCell ⟨w.heap.size, 0, none⟩ (.slice (some ⟨g', 0, none⟩) (L.length + 1) cap')) w.heap.size 22 v ∧ (w5.setCell ⟨w.heap.size, 0, none⟩ (.slice (some ⟨g', 0, none⟩) (L.length + 1) cap')).ownsRow w.heap.size 26 2 v (entF bs (pre ++ [z])).length (cEs (entF bs (pre ++ [z]))) ∧ True) ∧ Boxed (w5.setCell ⟨w.heap.size, 0, none⟩ (.slice (some ⟨g', 0, none⟩) (L.length + 1) cap')) (w.heap.size + 1) 23 (.slice (some ⟨b, o, none⟩) (16 * q) cap) ∧ Boxed (w5.setCell ⟨w.heap.size, 0, none⟩ (.slice (some ⟨g', 0, none⟩) (L.length + 1) cap')) (w.heap.size + 1 + 1) 3 (.int .i64 16)) ∧ Below w.heap.size w (w5.setCell ⟨w.heap.size, 0, none⟩ (.slice (some ⟨g', 0, none⟩) (L.length + 1) cap'))) := by
              refine ⟨(HBd2.out.oth.trans hk2).from _, ⟨hks, hkz⟩, ⟨⟨_, hv2, ?_, trivial⟩, hks _ HBx.out.1, hkz _ HBx.out.2⟩, hbel⟩
              rw [HSn.out, List.length_append]
              exact hr2
            have hbw5 : Below w.heap.size w w5 := below_appE (HBc.out.alloc HBc.out.size _) (OwnE.alloc HBd2.out.own _) hg5 (Nat.le_refl _) (by rw [World.size_alloc]; have := HBc.out.size; omega)
            have cs1 := hv1.cell
            have cs2 := hv1.frozen
            refine hK.out _ _ (HRa.out _ hbw5) (fun hHeld => ?_)
            clear hK K
            try go_frame
            refine wpAnyH_ready (rs := [7]) (by kernel_rfl) (by simp) ?_
            refine AllReadyH.cons (o := ⟨none, _, _, _, _, _⟩) rfl (fun K hK => ?_) AllReadyH.nil
            go_simp
            refine hK.out _ _ (HRa.out _ hbel) (fun hHeld => ?_)
            clear hK K
            try go_frame
            refine wpAnyH_done (by kernel_rfl) ?_ _
            exact HNew.out
          exact AllReadyH.nil
        exact AllReadyH.nil
      case done =>
        rintro D ys W hD rfl ⟨⟨⟨v', hv, hrow, _⟩, hbs, hbz⟩, hB⟩ hK
        rw [entF_all bs q HNl.out.symm] at hrow
        have HO : Hid (OwnE W w.heap.size 26 v' (entsP bs)) := hrow
        have hl3 : (entsP bs).length ≤ 1000 := by rw [entsP_length, ← HNl.out]; omega
        obtain ⟨PI, hPI⟩ : ∃ PI, PI = (if fine (entsP bs) then (0 : Int) else 1) := ⟨_, rfl⟩
        obtain ⟨PL, hPL⟩ : ∃ PL, PL = (if fine (entsP bs) then encL (entsP bs) else []) := ⟨_, rfl⟩
        have HPut : Hid (Calls Try.prog 7 #[v'] W fun e w' => ∃ r, e = .returned (.tuple #[r, .int .i64 PI]) ∧ Hid (Arg w' r PL) ∧ Below W.heap.size W w') := by
          have := DiPut_any (entsP bs) hl3 (entsP_ok bs) v' W HO.out.hi.at_
          rw [← hPI, ← hPL] at this
          exact this
        have HBe := Lib.hid hB
        have HK := Lib.hid hK
        have HV := Lib.hid hv
        have HAr : Hid (Arg W (.slice A (16 * q) cap) bs) := HA.out.below hB
        have hDl : D < W.heap.size := (Array.getElem?_eq_some_iff.1 hK).1
        have hc := hv.cell
        have HD : Hid (w.heap.size ≤ D) := by show _ ≤ _; omega
        clear hv hrow hbs hbz hB hK hsq hR0 hR1 hR2 HA
        cases hf : fine (entsP bs) with
        | false =>
          rw [hf] at hPI
          have HNo : Hid (EI = 10 ∧ EL = []) := HN.out (by rw [HI.out, hf]; rfl)
          have hPI' : PI = 1 := hPI
          subst hPI'
          clear hf hPI hPL
          gi_wp2_with (gi_at_call 7; refine (hO.calls HPut.out).mono ?_; rintro e w3 ⟨r, rfl, HAg, hb3⟩)
          have hK3 := (hb3.block D hDl).trans HK.out
          have hB3 := HBe.out.trans (hb3.mono HBe.out.size)
          refine leaves_markD hK3 ⟨_, results_tmp2 rfl _ _ _, _, by rw [HNo.out.1]; rfl, ?_, below_shutD hB3 hB3.size HD.out⟩
          rw [HNo.out.2]
          exact ⟨none, 0, rfl, fun hp => absurd hp (by simp)⟩
        | true =>
          rw [hf] at hPI hPL
          have hPI' : PI = 0 := hPI
          subst hPI'
          have HPL : Hid (PL = encL (entsP bs)) := hPL
          have HI2 : Hid (okG bs = decide (encL (entsP bs) = bs)) := by show _ = _; rw [HI.out, hf, Bool.true_and]
          clear hf hPI hPL
          obtain ⟨R, hR⟩ : ∃ R, R = decide (PL = bs) := ⟨_, rfl⟩
          have HR : Hid (okG bs = R) := by show _ = _; rw [HI2.out, hR, HPL.out]
          have HEq : Hid (∀ W r, Arg W r PL → Arg W (.slice A (16 * q) cap) bs → Calls Try.prog 27 #[r, .slice A (16 * q) cap] W fun e w' => e = .returned (.bool R) ∧ w' = W) := fun W r h1 h2 => by rw [hR]; exact ByEqual_any PL bs r _ W h1 h2
          clear hR
          cases R with
          | false =>
            have HNo : Hid (EI = 10 ∧ EL = []) := HN.out HR.out
            gi_wp2_with (first
              | (gi_at_call 7; refine (hO.calls HPut.out).mono ?_; rintro e w3 ⟨r, rfl, HAg, hb3⟩; have HAr3 := Lib.hid (HAr.out.below hb3))
              | (gi_at_call 27; refine (hO.calls (HEq.out _ _ HAg.out HAr3.out)).mono ?_; rintro e w4 ⟨rfl, rfl⟩))
            have hK3 := (hb3.block D hDl).trans HK.out
            have hB3 := HBe.out.trans (hb3.mono HBe.out.size)
            refine leaves_markD hK3 ⟨_, results_tmp2 rfl _ _ _, _, by rw [HNo.out.1]; rfl, ?_, below_shutD hB3 hB3.size HD.out⟩
            rw [HNo.out.2]
            exact ⟨none, 0, rfl, fun hp => absurd hp (by simp)⟩
          | true =>
            have HYes : Hid (EI = 0 ∧ EL = entsP bs) := HY.out HR.out
            gi_wp2_with (first
              | (gi_at_call 7; refine (hO.calls HPut.out).mono ?_; rintro e w3 ⟨r, rfl, HAg, hb3⟩; have HAr3 := Lib.hid (HAr.out.below hb3); have hc3 := Boxed.cell ((hb3.block _ HV.out.lt).trans HV.out : Boxed w3 w.heap.size 22 v'))
              | (gi_at_call 27; refine (hO.calls (HEq.out _ _ HAg.out HAr3.out)).mono ?_; rintro e w4 ⟨rfl, hw4⟩; rw [hw4]; clear hw4))
            have hK3 := (hb3.block D hDl).trans HK.out
            have hB3 := HBe.out.trans (hb3.mono HBe.out.size)
            refine leaves_markD hK3 ⟨_, results_tmp2 rfl _ _ _, _, by rw [HYes.out.1]; rfl, ?_, below_shutD hB3 hB3.size HD.out⟩
            rw [HYes.out.2]
            have hO3 : OwnE w3 w.heap.size 26 v' (entsP bs) := HO.out.below hb3 (Nat.le_refl _)
            exact OwnE.hi (ownsRow_putObj hO3 (.deferred none) hK3 rfl)
      case stop =>
        rintro D c pre W _ _ h _
        exact h.elim
  · have HNo := Lib.hid (HN.out (H16.out h16))
    have hz : ¬ ((n : Nat) : Int) % 16 = 0 := by omega
    have hz2 : (((n : Nat) : Int) % 16 == 0) = false := by simpa using hz
    gi_wp2
    refine ⟨_, results_tmp2 rfl _ _ _, _, by rw [HNo.out.1]; rfl, ?_, Below.refl _ _⟩
    rw [HNo.out.2]
    exact ⟨none, 0, rfl, fun hp => absurd hp (by simp)⟩

theorem DiGet_any (bs : List UInt8) (hl : bs.length ≤ 1000) (v : Value) (w : World) (h : Arg w v bs) :
    Calls Try.prog 13 #[v] w fun e w' => ∃ r, e = .returned (.tuple #[r, .int .i64 (if okG bs then 0 else 10)]) ∧ Hid (EntsHi w' w.heap.size r (getL bs)) ∧ Below w.heap.size w w' :=
  callsIn_wide.1 (DiGet_in Fence.wide 3 (Nat.le_refl _) (open_wide _) rfl bs hl v w h)
end Go.Proofs.Ytaamhdgngnpmoaa
