/-
  THE WALK of the program's Root.
-/
import Derived.Test.YtepbnimheedodaaDoorMYA
namespace Go.Proofs.YtepbnimheedodaaDoor
open Go.RowKit Go.Shelf Mk

attribute [local go_sem] Oper.semAt_some

theorem isH_ex (m : Nat) (hm : m ≤ 100) : ∃ h, IsH m h := by
  rcases Nat.lt_or_ge 4 m with h1 | h1
  · rcases Nat.lt_or_ge 16 m with h2 | h2
    · rcases Nat.lt_or_ge 64 m with h3 | h3
      · exact ⟨4, by omega, by show (m : Int) ≤ 256; omega, .inr (by show (64 : Int) < m; omega)⟩
      · exact ⟨3, by omega, by show (m : Int) ≤ 64; omega, .inr (by show (16 : Int) < m; omega)⟩
    · exact ⟨2, by omega, by show (m : Int) ≤ 16; omega, .inr (by show (4 : Int) < m; omega)⟩
  · exact ⟨1, by omega, by show (m : Int) ≤ 4; omega, .inl rfl⟩
/-- The one mark that a loop leaves is shut; then the results are read. -/
theorem leaves_mark {F : Fence} {m : Nat} {P : Program} {fn : Func} {tmps : Array Value} {R : Ending → World → Prop} {W : World} {D : Nat} (hK : W.heap[D]? = some (.deferred (some [])))
    (h : ∃ v, (results fn tmps).run P (W.putObj D (.deferred none)) = .ok v (W.putObj D (.deferred none)) ∧ R (.returned v) (W.putObj D (.deferred none))) : LeavesInM F m P fn tmps R [{ target := .collected D, args := #[] }] .returning W :=
  ⟨by simp, .inl ⟨D, _, rfl, run_takeDeferred hK, h⟩⟩
theorem below_shut {n₀ D : Nat} {w W : World} {o' : Obj} (h : Below n₀ w W) (h0 : n₀ ≤ W.heap.size) (hD : n₀ ≤ D) : Below n₀ w (W.putObj D o') :=
  h.trans ((Below.refl n₀ W).grown (grownBy_putObj' W D o') h0 (fun k e => by cases e; omega))

/-- What top holds behind so many levels. -/
def topL (key : Tg) (l : List Tg) (h : Nat) : Nat → List Tg
  | 0 => List.replicate 4 zero
  | i + 1 => (lev key (full l h) i).take 4
structure InR (key : Tg) (l : List Tg) (h : Nat) (w : World) (pre : List Lv) (C : Nat) (W : World) : Prop where
  top : Row W (w.heap.size + 1) 80 (cells (topL key l h pre.length))
  res : Row W w.heap.size 34 Hm.Z32
  bel : Below w.heap.size w W
  low : w.heap.size + 1 < C

theorem topL_ok (key : Tg) (l : List Tg) (h : Nat) (h1 : 1 ≤ h) (hlev : (lev key (full l h) (h - 1)).length = 4) (h32 : ∀ t ∈ lev key (full l h) (h - 1), t.length = 32) :
    (topL key l h h).length = 4 ∧ (∀ t ∈ topL key l h h, t.length = 32) ∧ root key l h = node key (topL key l h h) := by
  obtain ⟨i, rfl⟩ : ∃ i, h = i + 1 := ⟨h - 1, by omega⟩
  rw [Nat.add_sub_cancel] at hlev h32
  have ht : topL key l (i + 1) (i + 1) = lev key (full l (i + 1)) i := by rw [topL, List.take_of_length_le (by omega)]
  rw [ht]
  refine ⟨hlev, h32, ?_⟩
  have hg := ups_get key (lev key (full l (i + 1)) i) 1 0 (by omega) (by omega)
  rw [Nat.mul_zero, List.drop_zero, List.take_of_length_le (by omega)] at hg
  rw [root, List.getD_eq_getElem?_getD, lev, hg]; rfl

set_option maxRecDepth 100000 in
set_option maxHeartbeats 1000000 in
theorem root_in (F : Fence) (m : Nat) (hO : Open F Tryd.prog) (hro : F.round = none) (hm : 3 ≤ m) (key : Tg) (l : List Tg) (v x : Value) (w : World) (hk : key.length ≤ 1000) (hl : l.length ≤ 100) (hT : Hm.Tab w) (hA : Arg w v key) (hX : Tags w x l) :
    CallsIn F m Tryd.prog 18 #[v, x] w fun e w' => (∃ (h : Nat) (rs : List Value), Hid (IsH l.length h) ∧ Hid (Vec 32 (root key l h) rs) ∧ e = .returned (.agg rs.toArray)) ∧ Below w.heap.size w w' := by
  obtain ⟨h, hh⟩ := isH_ex l.length (by omega)
  have HLv : Hid (∀ (W : World) (gl gk : Nat), Below w.heap.size w W → Boxed W gl 48 x → Boxed W gk 22 v → Levels F (m - 1) Tryd.prog 44 #[.pointer (some ⟨gl, 0, none⟩), .pointer (some ⟨gk, 0, none⟩)] (encL h) blkL (liesL key l h) (KeepL w.heap.size gl gk) (allL h) (nextL h) W) :=
    fun W gl gk hW h1 h2 => levels1_in F (m - 1) hO hro (by omega) key l h hk (by omega) hh v x w W hT hA hX hW gl gk h1 h2
  obtain ⟨h', m0, eh, h3, hm0, hm64, hm4, hlen⟩ := isH_small (by omega) hh
  have Hlev : Hid (∀ i, i ≤ h → (lev key (full l h) i).length = 4 ^ (h - i)) := fun i hi => lev_length key _ h (full_length l h hlen) i hi
  have H32 : Hid (∀ i, ∀ t ∈ lev key (full l h) i, t.length = 32) := lev_32 key _ (full_32 l h hX.1)
  have H1 : Hid (1 ≤ h) := by show _ ≤ _; omega
  have Hh := Lib.hid hh
  have Hkey := Lib.hid hk
  have HT := Lib.hid hT
  have HA := Lib.hid hA
  obtain ⟨_, B, cap2, rfl, _⟩ := hX
  obtain ⟨A, cap, rfl⟩ := hA.form
  obtain ⟨kn, hkn⟩ : ∃ n, n = key.length := ⟨_, rfl⟩
  obtain ⟨ln, hln⟩ : ∃ n, n = l.length := ⟨_, rfl⟩
  rw [← hkn] at HA HLv ⊢
  rw [← hln] at Hh HLv ⊢
  have hz := Hm.zeroTag
  have hz4 := zero4
  have h1 : 1 ≤ m := by omega
  clear hk hl hh hT hA eh h3 hm0 hm64 hm4 hlen hkn hln
  refine callsIn_of_wp_marks Tryd.func18 rfl (hO.fn _) ?_ hro
  simp only [Tryd.ntmps18, List.size_toArray, List.length_cons, List.length_nil, Nat.reduceAdd, Nat.reduceSub, Array.replicate_succ, Array.replicate_zero, List.push_toArray, List.append_toArray, List.nil_append, List.cons_append]
  have hf1 := hO.fn 32
  have hf2 := hO.fn 33
  gi_wp2_with (gi_at_call 32; refine (hO.calls (levels_any A B kn cap ln cap2 _)).mono ?_; rintro e w1 ⟨rfl, rfl⟩)
  clear hz hz4
  obtain ⟨W1, hW1⟩ : ∃ W, W = (((w.alloc (.cells Hm.Z32.toArray 34)).alloc (.cells Z128.toArray 80)).alloc (.cells #[.slice A kn cap] 22)).alloc (.cells #[.slice B ln cap2] 48) := ⟨_, rfl⟩
  have hR0 : Row W1 w.heap.size 34 Hm.Z32 := by rw [hW1]; exact (((Row.new w 34 Hm.Z32).alloc _).alloc _).alloc _
  have hR1 : Row W1 (w.heap.size + 1) 80 Z128 := by rw [hW1]; exact ((Row.newAt 80 Z128 (by simp)).alloc _).alloc _
  have hgk : Boxed W1 (w.heap.size + 1 + 1) 22 (.slice A kn cap) := by
    rw [hW1]
    have := Boxed.new ((w.alloc (.cells Hm.Z32.toArray 34)).alloc (.cells Z128.toArray 80)) 22 (.slice A kn cap)
    rw [World.size_alloc, World.size_alloc] at this
    exact this.alloc _
  have hgl : Boxed W1 (w.heap.size + 1 + 1 + 1) 48 (.slice B ln cap2) := by
    rw [hW1]
    have := Boxed.new (((w.alloc (.cells Hm.Z32.toArray 34)).alloc (.cells Z128.toArray 80)).alloc (.cells #[.slice A kn cap] 22)) 48 (.slice B ln cap2)
    rwa [World.size_alloc, World.size_alloc, World.size_alloc] at this
  have hB1 : Below w.heap.size w W1 := by rw [hW1]; exact ((((Below.refl _ _).alloc (Nat.le_refl _) _).alloc (by simp) _).alloc (by simp; omega) _).alloc (by simp; omega) _
  have hs1 : W1.heap.size = w.heap.size + 1 + 1 + 1 + 1 := by rw [hW1]; simp
  rw [← hW1]
  have h0 : InR key l h w [] W1.heap.size W1 := ⟨by rw [show cells (topL key l h ([] : List Lv).length) = Z128 from Z128_eq.symm]; exact hR1, hR0, hB1, by omega⟩
  have hsq := HLv.out W1 _ _ hB1 hgl hgk
  clear hW1 hR0 hR1
  refine wpIn_levels hro h1 (gf := 44) (lb := #[.pointer (some ⟨w.heap.size + 1 + 1 + 1, 0, none⟩), .pointer (some ⟨w.heap.size + 1 + 1, 0, none⟩)]) rfl (hO.fn _) (enters_of Tryd.func44 (by kernel_rfl) rfl)
    hsq (Below.refl _ _) KeepL.trans (keepL_put (by omega) (by omega) (by omega)) (fun x W l o o' _ ho hc => liesL_put x W l o o' ho hc)
    (InR key l h w) ?putI (fun pre C X Y hI hC hB => ?belowI) (fun pre C D X hI hCD => ⟨hI.top, hI.res, hI.bel, Nat.lt_of_lt_of_le hI.low hCD⟩) h0
    (fun z => { tmps := #[.slice A kn cap, .slice B ln cap2, undef, undef, .pointer (some ⟨w.heap.size, 0, none⟩), .pointer (some ⟨w.heap.size + 1, 0, none⟩), encL h z, .slice A kn cap, .slice B ln cap2, .func (.func 44) #[] #[.pointer (some ⟨w.heap.size + 1 + 1 + 1, 0, none⟩), .pointer (some ⟨w.heap.size + 1 + 1, 0, none⟩)], encL h z, undef, undef, undef, undef, undef, undef], defers := [] }) ?assign ?body ?done
  case putI =>
    intro pre C W k o o' hI hk ho hc
    exact ⟨hI.top.put ho hc, hI.res.put ho hc, below_shut hI.bel hI.bel.size (by omega), hI.low⟩
  case belowI =>
    have := hI.low
    exact ⟨(hB.block _ this).trans hI.top, (hB.block _ (by omega)).trans hI.res, hI.bel.trans (hB.mono (by omega)), this⟩
  case assign =>
    intro l' z W K hK
    gi_wp2
    exact hK
  case body =>
    rintro l' pre ⟨g, i⟩ C W hI hC hCg hx ⟨hpre, hi⟩
    have hi' : i < h := hi
    have hlow := hI.low
    have hgw : w.heap.size + 1 < g := Nat.lt_of_lt_of_le hlow hCg
    have hpl : pre.length = i := by
      have := congrArg List.length hpre
      rwa [List.length_map, List.length_range] at this
    obtain ⟨n, hn⟩ : ∃ n, n = 4 ^ (h - 1 - i) := ⟨_, rfl⟩
    have he : encL h (g, i) = .slice (some ⟨g, 0, none⟩) n n := by rw [encL, ← hn]
    have hn1 : 0 < n := by rw [hn]; exact Nat.pow_pos (by omega)
    have hrl : (lev key (full l h) i).length = 4 * n := by rw [Hlev.out i (by omega), hn, show h - i = (h - 1 - i) + 1 by omega, Nat.pow_succ, Nat.mul_comm]
    have hx' : Row W g 80 (cells (lev key (full l h) i)) := hx
    have hld := four_at hx' hrl (H32.out i) hn1
    have hfc := (four_cells _ n 0 hrl (H32.out i) hn1).2
    simp only [Nat.mul_zero, List.drop_zero] at hld hfc
    obtain ⟨ks, hks⟩ : ∃ ks, ks = cells ((lev key (full l h) i).take 4) := ⟨_, rfl⟩
    rw [← hks] at hld hfc
    have Hld := Lib.hid hld
    have Hks : Hid (ks.length = 128) := hfc
    have Hone : Hid (ks.toArray.all (·.oneCell') = true) := by rw [hks]; exact one8 _
    have Htop := Lib.hid hI.top
    have Htl : Hid ((cells (topL key l h pre.length)).length = 128) := by
      show _ = _
      rcases Nat.eq_zero_or_pos i with e0 | e0
      · rw [hpl, e0, topL, show cells (List.replicate 4 zero) = Z128 from Z128_eq.symm]; rfl
      · obtain ⟨j, rfl⟩ : ∃ j, i = j + 1 := ⟨i - 1, by omega⟩
        have hj : (lev key (full l h) j).length = 4 * 4 ^ (h - 1 - j) := by rw [Hlev.out j (by omega), show h - j = (h - 1 - j) + 1 by omega, Nat.pow_succ, Nat.mul_comm]
        have := (four_cells _ (4 ^ (h - 1 - j)) 0 hj (H32.out j) (Nat.pow_pos (by omega))).2
        simp only [Nat.mul_zero, List.drop_zero] at this
        rw [hpl]; exact this
    have HInew : Hid (InR key l h w (pre ++ [(g, i)]) (W.setRow (w.heap.size + 1) ks.toArray).heap.size (W.setRow (w.heap.size + 1) ks.toArray)) := by
      refine ⟨?_, hI.res.wholeOff (by omega) _, below_setRow' hI.bel (by omega) _, by rw [size_setRow]; omega⟩
      rw [List.length_append, hpl, List.length_singleton, topL, ← hks]
      exact hI.top.whole ks
    have Hxn : Hid (liesL key l h (g, i) (W.setRow (w.heap.size + 1) ks.toArray)) := hx'.wholeOff (by omega) _
    have Hkf : Hid (KeepsFrom W1.heap.size W (W.setRow (w.heap.size + 1) ks.toArray)) := ⟨by rw [size_setRow]; exact Nat.le_refl _, fun k o hk ho _ => (setRow_other W (w.heap.size + 1) k ks.toArray (by omega)).trans ho⟩
    have Hkp : Hid (KeepL w.heap.size (w.heap.size + 1 + 1 + 1) (w.heap.size + 1 + 1) W (W.setRow (w.heap.size + 1) ks.toArray)) :=
      ⟨fun v hv => (setRow_other W (w.heap.size + 1) _ ks.toArray (by omega)).trans hv, fun v hv => (setRow_other W (w.heap.size + 1) _ ks.toArray (by omega)).trans hv, below_setRow' (Below.refl _ _) (by omega) _⟩
    clear hld hfc hx hx' hrl hn hI hks hpre hi hgk hgl h0 hsq
    simp only [he]
    gi_wp2_with (first
      | (refine wpListIn_load_mid (hO.inRound l') rfl 80 (.tmp 12) rfl g 0 rfl ks _ Hld.out Tryd.underlying80 rfl (by rw [Hks.out]; kernel_rfl) ?_)
      | (refine wpListIn_store_row (hO.inRound l') rfl 80 (.tmp 5) (.tmp 13) rfl (w.heap.size + 1) ks.toArray rfl rfl 80 _ Htop.out (by rw [List.size_toArray, Hks.out]; kernel_rfl) (by rw [List.size_toArray, List.size_toArray, Htl.out, Hks.out]) Hone.out ?_))
    exact ⟨Hkf.out, HInew.out, Hxn.out, Hkp.out⟩
  case done =>
    intro D xs W hD hS hI hK
    have hxl : xs.length = h := by
      have := congrArg List.length hS
      rwa [List.length_map, List.length_range] at this
    have htop := hI.top
    rw [hxl] at htop
    obtain ⟨t4, t32, tr⟩ := topL_ok key l h H1.out (by rw [Hlev.out (h - 1) (by omega), show h - (h - 1) = 1 by have := H1.out; omega]) (H32.out (h - 1))
    obtain ⟨fs, hfs⟩ : ∃ fs, fs = topL key l h h := ⟨_, rfl⟩
    rw [← hfs] at htop t4 t32 tr
    obtain ⟨ks, hks⟩ : ∃ ks, ks = cells fs := ⟨_, rfl⟩
    rw [← hks] at htop
    have Hkl : Hid (ks.length = 128) := by show _ = _; rw [hks, cells_length fs t32, t4]
    have Htr := Lib.hid tr
    have Hld : Hid (W.rangeAt (w.heap.size + 1) 0 ks) := htop.sees
    have HN : Hid (Calls Tryd.prog 33 #[.slice A kn cap, .agg ks.toArray] W fun e w' => (∃ rs : List Value, Hid (Vec 32 (node key fs) rs) ∧ e = .returned (.agg rs.toArray)) ∧ Below W.heap.size W w') :=
      node_holds key fs (.slice A kn cap) ks W Hkey.out t4 t32 hks (HT.out.below hI.bel) (HA.out.below hI.bel)
    have HK := Lib.hid hK
    have HBe := Lib.hid hI.bel
    have HRs := Lib.hid hI.res
    have hls := hI.bel.size
    clear htop t4 t32 tr hfs hks hI hK hS hxl hgk hgl h0 hsq
    gi_wp2_with (first
      | (refine wpListIn_load_mid hO rfl 80 (.tmp 5) rfl (w.heap.size + 1) 0 rfl ks _ Hld.out Tryd.underlying80 rfl (by rw [Hkl.out]; kernel_rfl) ?_)
      | (gi_at_call 33; refine (hO.calls HN.out).mono ?_; rintro e W2 ⟨⟨rs, Hrs, rfl⟩, hb2⟩)
      | (refine wpListIn_store_row hO rfl 34 (.tmp 4) (.tmp 16) rfl w.heap.size rs.toArray rfl rfl 34 _ (HRs.out.below hb2 HRs.out.lt) (by rw [Hrs.out.size]; kernel_rfl) (by rw [Hrs.out.size]; rfl) Hrs.out.one ?_))
    have hres := (HRs.out.below hb2 HRs.out.lt).whole rs
    have hlt3 : D ≠ w.heap.size := by omega
    obtain ⟨W3, hW3⟩ : ∃ W3, W3 = W2.setRow w.heap.size rs.toArray := ⟨_, rfl⟩
    have hK3 : W3.heap[D]? = some (.deferred (some [])) := by
      rw [hW3]
      exact (setRow_other W2 w.heap.size D rs.toArray hlt3).trans ((hb2.block D (Array.getElem?_eq_some_iff.1 HK.out).1).trans HK.out)
    have hB3 : Below w.heap.size w W3 := by rw [hW3]; exact below_setRow' (HBe.out.trans (hb2.mono HBe.out.size)) (Nat.le_refl _) _
    rw [← hW3] at hres ⊢
    have hinfo : (Tryd.prog.info? 34).map (·.size) = some rs.toArray.size := by rw [Hrs.out.size]; kernel_rfl
    refine leaves_mark hK3 ⟨_, results_cell_row rfl _ _ w.heap.size 34 rs.toArray (0, 0) _ rfl (hres.put hK3 rfl) Tryd.underlying34 rfl hinfo, ⟨h, rs, Hh, ?_, rfl⟩, below_shut hB3 hB3.size (by omega)⟩
    show Vec 32 (root key l h) rs
    rw [Htr.out]; exact Hrs.out

theorem root_holds : RootC := fun key l v x w hk hl hT hA hX => callsIn_wide.1 (root_in Fence.wide 3 (open_wide _) rfl (Nat.le_refl _) key l v x w hk (by omega) hT hA hX)
end Go.Proofs.YtepbnimheedodaaDoor
