/-
  THE WALK of the program's Way.
-/
import Derived.Test.YtnlbhbacedbdoaaDoorMYD
namespace Go.Proofs.YtnlbhbacedbdoaaDoor
open Go.RowKit Go.Shelf Mk

attribute [local go_sem] Oper.semAt_some

structure InW (key : Tg) (l : List Tg) (h p : Nat) (w : World) (pre : List Lv) (C : Nat) (W : World) : Prop where
  pl : Boxed W w.heap.size 3 (.int .i64 ((p / 4 ^ pre.length : Nat) : Int))
  wy : ∃ v, Boxed W (w.heap.size + 1) 36 v ∧ W.ownsRow w.heap.size 48 128 v pre.length (cells (wayTo key (full l h) p pre.length).flatten) ∧ ∀ g, v.ownBlock = some g → g < C
  bel : Below w.heap.size w W
  low : w.heap.size + 1 < C

theorem way_fours (key : Tg) (l : List Tg) (h p : Nat) (hlev : ∀ i, i ≤ h → (lev key (full l h) i).length = 4 ^ (h - i)) (h32 : ∀ i, ∀ t ∈ lev key (full l h) i, t.length = 32) (hp : p < 4 ^ h) :
    ∀ f ∈ way key l h p, f.length = 4 ∧ ∀ t ∈ f, t.length = 32 := fun f hf => by
  obtain ⟨i, hi, rfl⟩ := List.mem_map.1 hf
  have hi := List.mem_range.1 hi
  rw [fourAt_div]
  refine (four_cells _ (4 ^ (h - 1 - i)) (p / 4 ^ i / 4) ?_ (h32 i) ?_).1
  · rw [hlev i (by omega), show h - i = (h - 1 - i) + 1 by omega, Nat.pow_succ, Nat.mul_comm]
  · rw [Nat.div_div_eq_div_mul, ← Nat.pow_succ]
    refine Nat.div_lt_of_lt_mul ?_
    rw [← Nat.pow_add, show i + 1 + (h - 1 - i) = h by omega]
    exact hp

set_option maxRecDepth 100000 in
set_option maxHeartbeats 1000000 in
theorem way_in (F : Fence) (m : Nat) (hO : Open F Tryd.prog) (hro : F.round = none) (hm : 3 ≤ m) (key : Tg) (l : List Tg) (v x : Value) (p : Nat) (w : World) (hk : key.length ≤ 1000) (hl : l.length ≤ 70) (hp : p < l.length) (hT : Hm.Tab w) (hA : Arg w v key) (hX : Tags w x l) :
    CallsIn F m Tryd.prog 13 #[v, x, .int .i64 (p : Int)] w fun e w' => (∃ (h : Nat) (r : Value), Hid (IsH l.length h) ∧ Hid (Fours w' r (way key l h p)) ∧ e = .returned (.tuple #[r, .int .i64 0])) ∧ Below w.heap.size w w' := by
  obtain ⟨h, hh⟩ := isH_ex l.length hl
  have HLv : Hid (∀ (W : World) (gl gk : Nat), Below w.heap.size w W → Boxed W gl 23 x → Boxed W gk 22 v → Levels F (m - 1) Tryd.prog 30 #[.pointer (some ⟨gl, 0, none⟩), .pointer (some ⟨gk, 0, none⟩)] (encL h) blkL (liesL key l h) (KeepL w.heap.size gl gk) (allL h) (nextL h) W) :=
    fun W gl gk hW h1 h2 => levels1_in F (m - 1) hO hro (by omega) key l h hk hl hh v x w W hT hA hX hW gl gk h1 h2
  obtain ⟨h', m0, eh, h3, hm0, hm64, hm4, hlen⟩ := isH_small hl hh
  have Hlev : Hid (∀ i, i ≤ h → (lev key (full l h) i).length = 4 ^ (h - i)) := fun i hi => lev_length key _ h (full_length l h hlen) i hi
  have H32 : Hid (∀ i, ∀ t ∈ lev key (full l h) i, t.length = 32) := lev_32 key _ (full_32 l h hX.1)
  have H4 : Hid (h ≤ 4) := by show _ ≤ _; omega
  have Hp4 : Hid (p < 4 ^ h) := by show _ < _; omega
  have Hh := Lib.hid hh
  obtain ⟨_, B, cap2, rfl, _⟩ := hX
  obtain ⟨A, cap, rfl⟩ := hA.form
  obtain ⟨kn, hkn⟩ : ∃ n, n = key.length := ⟨_, rfl⟩
  obtain ⟨ln, hln⟩ : ∃ n, n = l.length := ⟨_, rfl⟩
  rw [← hkn] at HLv ⊢
  rw [← hln] at Hh HLv hp hl ⊢
  have h1 : 1 ≤ m := by omega
  clear hk hh hT hA eh h3 hm0 hm64 hm4 hlen hkn hln
  refine callsIn_of_wp_marks Tryd.func13 rfl (hO.fn _) ?_ hro
  simp only [Tryd.ntmps13, List.size_toArray, List.length_cons, List.length_nil, Nat.reduceAdd, Nat.reduceSub, Array.replicate_succ, Array.replicate_zero, List.push_toArray, List.append_toArray, List.nil_append, List.cons_append]
  have hf1 := hO.fn 22
  gi_wp2_with (gi_at_call 22; refine (hO.calls (levels_any A B kn cap ln cap2 _)).mono ?_; rintro e w1 ⟨rfl, rfl⟩)
  obtain ⟨W1, hW1⟩ : ∃ W, W = (((w.alloc (.cells #[.int .i64 (p : Int)] 3)).alloc (.cells #[.slice none 0 0] 36)).alloc (.cells #[.slice A kn cap] 22)).alloc (.cells #[.slice B ln cap2] 23) := ⟨_, rfl⟩
  have hR0 : Boxed W1 w.heap.size 3 (.int .i64 (p : Int)) := by rw [hW1]; exact (((Boxed.new w 3 (.int .i64 (p : Int))).alloc _).alloc _).alloc _
  have hR1 : Boxed W1 (w.heap.size + 1) 36 (.slice none 0 0) := by
    rw [hW1]
    have := Boxed.new (w.alloc (.cells #[.int .i64 (p : Int)] 3)) 36 (.slice none 0 0)
    rw [World.size_alloc] at this
    exact (this.alloc _).alloc _
  have hgk : Boxed W1 (w.heap.size + 1 + 1) 22 (.slice A kn cap) := by
    rw [hW1]
    have := Boxed.new ((w.alloc (.cells #[.int .i64 (p : Int)] 3)).alloc (.cells #[.slice none 0 0] 36)) 22 (.slice A kn cap)
    rw [World.size_alloc, World.size_alloc] at this
    exact this.alloc _
  have hgl : Boxed W1 (w.heap.size + 1 + 1 + 1) 23 (.slice B ln cap2) := by
    rw [hW1]
    have := Boxed.new (((w.alloc (.cells #[.int .i64 (p : Int)] 3)).alloc (.cells #[.slice none 0 0] 36)).alloc (.cells #[.slice A kn cap] 22)) 23 (.slice B ln cap2)
    rwa [World.size_alloc, World.size_alloc, World.size_alloc] at this
  have hB1 : Below w.heap.size w W1 := by rw [hW1]; exact ((((Below.refl _ _).alloc (Nat.le_refl _) _).alloc (by simp) _).alloc (by simp; omega) _).alloc (by simp; omega) _
  have hs1 : W1.heap.size = w.heap.size + 1 + 1 + 1 + 1 := by rw [hW1]; simp
  rw [← hW1]
  have h0 : InW key l h p w [] W1.heap.size W1 := ⟨by rw [List.length_nil, Nat.pow_zero, Nat.div_one]; exact hR0, ⟨_, hR1, ⟨rfl, .inl ⟨rfl, rfl⟩⟩, fun g hg => by cases hg⟩, hB1, by omega⟩
  have hsq := HLv.out W1 _ _ hB1 hgl hgk
  clear hW1 hR0 hR1
  refine wpIn_levels hro h1 (gf := 30) (lb := #[.pointer (some ⟨w.heap.size + 1 + 1 + 1, 0, none⟩), .pointer (some ⟨w.heap.size + 1 + 1, 0, none⟩)]) rfl (hO.fn _) (enters_of Tryd.func30 (by kernel_rfl) rfl)
    hsq (Below.refl _ _) KeepL.trans (keepL_put (by omega) (by omega) (by omega)) (fun x W l o o' _ ho hc => liesL_put x W l o o' ho hc)
    (InW key l h p w) ?putI (fun pre C X Y hI hC hB => ?belowI) (fun pre C D X hI hCD => ?monoI) h0
    (fun z => { tmps := #[.slice A kn cap, .slice B ln cap2, .int .i64 (p : Int), undef, undef, .pointer (some ⟨w.heap.size, 0, none⟩), .slice none 0 0, .int .i64 0, .pointer (some ⟨w.heap.size + 1, 0, none⟩), encL h z, .int .i64 (p : Int), .bool (decide ((p : Int) < 0)), .bool (decide ((p : Int) < 0)), .int .i64 (p : Int), .slice B ln cap2, .int .i64 (ln : Int), .bool false, .bool (decide ((p : Int) < 0)), .slice A kn cap, .slice B ln cap2, .func (.func 30) #[] #[.pointer (some ⟨w.heap.size + 1 + 1 + 1, 0, none⟩), .pointer (some ⟨w.heap.size + 1 + 1, 0, none⟩)], encL h z, undef, undef, undef, undef, undef, undef, undef, undef, undef, undef], defers := [] }) ?assign ?body ?done
  case putI =>
    intro pre C W k o o' hI hk ho hc
    obtain ⟨u, h2, h3, h4⟩ := hI.wy
    exact ⟨Row.put (cs := [_]) hI.pl ho hc, ⟨u, Row.put (cs := [_]) h2 ho hc, ownsRow_putObj h3 o' ho hc, h4⟩, below_shut hI.bel hI.bel.size (by omega), hI.low⟩
  case belowI =>
    have := hI.low
    obtain ⟨u, h2, h3, h4⟩ := hI.wy
    refine ⟨(hB.block _ (by omega)).trans hI.pl, ⟨u, (hB.block _ this).trans h2, ⟨h3.1, ?_⟩, h4⟩, hI.bel.trans (hB.mono (by omega)), this⟩
    rcases h3.2 with h5 | ⟨g, cap, cur, hv, hg, hr, r⟩
    · exact .inl h5
    · exact .inr ⟨g, cap, cur, hv, hg, (hB.block _ (h4 g (by rw [hv]; rfl))).trans hr, r⟩
  case monoI =>
    obtain ⟨u, h2, h3, h4⟩ := hI.wy
    exact ⟨hI.pl, ⟨u, h2, h3, fun g hg => Nat.lt_of_lt_of_le (h4 g hg) hCD⟩, hI.bel, Nat.lt_of_lt_of_le hI.low hCD⟩
  case assign =>
    intro l' z W K hK
    gi_wp2
    exact hK
  case body =>
    rintro l' pre ⟨g, i⟩ C W hI hC hCg hx ⟨hpre, hi⟩
    have hi' : i < h := hi
    have hlow := hI.low
    have hgw : w.heap.size + 1 < g := Nat.lt_of_lt_of_le hlow hCg
    have hpl : pre.length = i := by
      have := congrArg List.length hpre
      rwa [List.length_map, List.length_range] at this
    obtain ⟨n, hn⟩ : ∃ n, n = 4 ^ (h - 1 - i) := ⟨_, rfl⟩
    have he : encL h (g, i) = .slice (some ⟨g, 0, none⟩) n n := by rw [encL, ← hn]
    have hrl : (lev key (full l h) i).length = 4 * n := by rw [Hlev.out i (by omega), hn, show h - i = (h - 1 - i) + 1 by omega, Nat.pow_succ, Nat.mul_comm]
    obtain ⟨u, hwy, how, hob⟩ := hI.wy
    obtain ⟨q, hq⟩ : ∃ q, q = p / 4 ^ i := ⟨_, rfl⟩
    obtain ⟨q', hq'⟩ : ∃ q', q' = p / 4 ^ (i + 1) := ⟨_, rfl⟩
    have hqq : q' = q / 4 := by rw [hq', hq, Nat.pow_succ, ← Nat.div_div_eq_div_mul]
    have hqn : q' < n := by
      rw [hq', hn]
      refine Nat.div_lt_of_lt_mul ?_
      rw [← Nat.pow_add, show i + 1 + (h - 1 - i) = h by omega]
      exact Hp4.out
    have hq70 : q ≤ 70 := by have := Nat.div_le_self p (4 ^ i); omega
    have hpb := hI.pl
    rw [hpl, ← hq] at hpb
    rw [hpl] at how
    have hx' : Row W g 48 (cells (lev key (full l h) i)) := hx
    have hf32 := (four_cells _ n q' hrl (H32.out i) hqn)
    have hld := four_at hx' hrl (H32.out i) hqn
    obtain ⟨ks, hks⟩ : ∃ ks, ks = cells (((lev key (full l h) i).drop (4 * q')).take 4) := ⟨_, rfl⟩
    rw [← hks] at hld hf32
    have Hks : Hid (ks.length = 128) := hf32.2
    have HW : Hid (cells (wayTo key (full l h) p (i + 1)).flatten = cells (wayTo key (full l h) p i).flatten ++ ks) := by
      show _ = _
      rw [wayTo_succ, List.flatten_append, cells_append, hks, ← hq, fourAt_div, ← hqq]; simp
    have HI := Lib.hid hI
    have HX := Lib.hid hx'
    have HR := Lib.hid hwy
    have HO := Lib.hid how
    have HOb := Lib.hid hob
    have HLd := Lib.hid hld
    have HPb := Lib.hid hpb
    have HQ := Lib.hid hq'
    have HPl := Lib.hid hpl
    have c1 := hpb.cell
    have c2 := hpb.frozen
    have Hq4 : Hid ((q : Int) / 4 = (q' : Int)) := by show _ = _; omega
    have HLF : Hid (∀ X, Row X g 48 (cells (lev key (full l h) i)) → X.rangeAt g (q' * 128) ks) := fun X hX => by
      have := four_at hX hrl (H32.out i) hqn
      rwa [← hks, Nat.mul_comm] at this
    have Hone : Hid (∀ y ∈ ks, y.oneCell' = true) := by rw [hks]; exact oneC8 _
    have Hi20 : Hid (i ≤ 1000) := by show _ ≤ _; have := H4.out; omega
    clear hI hx hx' hpre hi hrl hwy how hob hpb hld hf32 hks hq' hn hq hpl hqq hgk hgl h0 hsq
    simp only [he]
    gi_wp2_with fail
    rw [Hq4.out]
    obtain ⟨W2, hW2⟩ : ∃ X, X = W.setCell ⟨w.heap.size, 0, none⟩ (.int .i64 (q' : Int)) := ⟨_, rfl⟩
    have HR2 : Hid (Boxed W2 (w.heap.size + 1) 36 u) := by rw [hW2]; exact HR.out.kept (grownBy_setCell' W _ _) (by simp)
    have HP2 : Hid (Boxed W2 w.heap.size 3 (.int .i64 (q' : Int))) := by rw [hW2]; exact HPb.out.set _
    have HO2 : Hid (W2.ownsRow w.heap.size 48 128 u i (cells (wayTo key (full l h) p i).flatten)) := by rw [hW2]; exact HO.out.kept (grownBy_setCell' W _ _) (.inr (HPb.out.not_row (by decide) HO.out).symm)
    have HX2 : Hid (Row W2 g 48 (cells (lev key (full l h) i))) := by rw [hW2]; exact HX.out.apart (p := ⟨w.heap.size, 0, none⟩) (show g ≠ w.heap.size by omega) _
    have HK2 : Hid (KeepsOthers W W2) := by rw [hW2]; exact KeepsOthers.setCell _ _ _
    have HB2 : Hid (Below w.heap.size W W2) := by rw [hW2]; exact (Below.refl _ _).setCell (p := ⟨w.heap.size, 0, none⟩) (Nat.le_refl _) _
    have HE2 : Hid ((∀ v, Boxed W (w.heap.size + 1 + 1 + 1) 23 v → Boxed W2 (w.heap.size + 1 + 1 + 1) 23 v) ∧ (∀ v, Boxed W (w.heap.size + 1 + 1) 22 v → Boxed W2 (w.heap.size + 1 + 1) 22 v)) := by
      rw [hW2]
      exact ⟨fun v hv => hv.kept (grownBy_setCell' W _ _) (by simp; omega), fun v hv => hv.kept (grownBy_setCell' W _ _) (by simp; omega)⟩
    have hs2 : W2.heap.size = W.heap.size := by rw [hW2]; simp
    rw [← hW2]
    clear c1 c2 hW2 HR HO HPb
    refine wpIn_region_held_drew (S := (fun X => Boxed X w.heap.size 3 (.int .i64 (q' : Int)) ∧ X.rangeAt g (q' * 128) ks)) (hO.inRound l') (by kernel_rfl) (fun hn => ?nl) (by kernel_rfl) ⟨HP2.out, HLF.out _ HX2.out⟩ (fun hHeld => ?_)
    case nl =>
      obtain ⟨a, b, hn⟩ := hn
      exact hn
    have HRd : Hid (Boxed W2.drew (w.heap.size + 1) 36 u) := HR2.out
    have HPd : Hid (Boxed W2.drew w.heap.size 3 (.int .i64 (q' : Int))) := HP2.out
    have HOd : Hid (W2.drew.ownsRow w.heap.size 48 128 u i (cells (wayTo key (full l h) p i).flatten)) := HO2.out
    have HXd : Hid (Row W2.drew g 48 (cells (lev key (full l h) i))) := HX2.out
    have HKd : Hid (KeepsOthers W W2.drew) := HK2.out.trans (KeepsOthers.drew _)
    have HBd : Hid (Below w.heap.size W W2.drew) := HB2.out.trans (below_drewN (Below.refl _ _) 1)
    have HEd : Hid ((∀ v, Boxed W (w.heap.size + 1 + 1 + 1) 23 v → Boxed W2.drew (w.heap.size + 1 + 1 + 1) 23 v) ∧ (∀ v, Boxed W (w.heap.size + 1 + 1) 22 v → Boxed W2.drew (w.heap.size + 1 + 1) 22 v)) := HE2.out
    have Hsd : Hid (W2.drew.heap.size = W.heap.size) := hs2
    generalize W2.drew = Wd at *
    clear HR2 HP2 HO2 HX2 HK2 HB2 HE2 hs2
    refine wpAnyH_take (i := 1) (oi := ⟨some 25, _, _, _, _, _⟩) (v := ?_) rfl (by kernel_rfl) (by kernel_rfl) (by kernel_rfl) (fun _ _ _ h => h) (Or.inl ⟨by rfl, ?_⟩) hHeld ?_
    rotate_left
    · intro w hSw
      go_simp
      with_reducible rfl
    try go_frame
    refine wpAnyH_take (i := 2) (oi := ⟨some 26, _, _, _, _, _⟩) (v := ?_) rfl (by kernel_rfl) (by kernel_rfl) (by kernel_rfl) (fun _ _ _ h => h) (Or.inl ⟨by rfl, ?_⟩) hHeld ?_
    rotate_left
    · intro w hSw
      have hc := hSw.1.cell
      go_simp
      with_reducible rfl
    try go_frame
    refine wpAnyH_take (i := 3) (oi := ⟨some 27, _, _, _, _, _⟩) (v := ?_) rfl (by kernel_rfl) (by kernel_rfl) (by kernel_rfl) (fun _ _ _ h => h) (Or.inl ⟨by rfl, ?_⟩) hHeld ?_
    rotate_left
    · intro w hSw
      have hiq : 0 ≤ (q' : Int) ∧ (q' : Int) < (n : Int) := by omega
      go_simp
      with_reducible rfl
    try go_frame
    refine wpAnyH_take (i := 4) (oi := ⟨some 28, _, _, _, _, _⟩) (v := .agg ks.toArray) rfl (by kernel_rfl) (by kernel_rfl) (by kernel_rfl) (fun _ _ _ h => h) (yieldsIf_load_mid (by rfl) 48 (.tmp 27) rfl g (q' * 128) rfl ks _ (fun W h => h.2) Tryd.underlying48 rfl (by rw [Hks.out]; kernel_rfl)) hHeld ?_
    try go_frame
    refine wpAnyH_ready (rs := [0, 5]) (by kernel_rfl) (by simp) ?_
    refine AllReadyH.cons (o := ⟨some 24, _, _, _, _, _⟩) rfl (fun K hK => ?_) ?_
    · skip
      have hc := HRd.out.cell
      go_simp
      clear hc
      refine hK.out _ _ hHeld (fun hHeld => ?_)
      clear hK K
      try go_frame
      refine wpAnyH_ready (rs := [5]) (by kernel_rfl) (by simp) ?_
      refine AllReadyH.cons (o := ⟨some 29, _, _, _, _, _⟩) rfl (fun K hK => ?_) AllReadyH.nil
      rw [if_pos (by rfl)]
      refine build4 36 48 (.tmp 28) rfl ks Hks.out rfl Tryd.underlying36 info4 ?_
      refine hK.out _ _ ⟨HPd.out.alloc _, HLF.out _ (HXd.out.alloc _)⟩ (fun hHeld => ?_)
      clear hK K
      try go_frame
      refine wpAnyH_ready (rs := [6]) (by kernel_rfl) (by simp) ?_
      refine AllReadyH.cons (o := ⟨some 30, _, _, _, _, _⟩) rfl (fun K hK => ?_) AllReadyH.nil
      rw [if_pos (by rfl)]
      refine app4 (.tmp 24) (.tmp 29) 36 rfl w.heap.size 48 rfl Tryd.underlying36 info4 u i _ rfl (HOd.out.alloc _) Wd.heap.size ks Hks.out Hone.out rfl (Row.new Wd 48 ks) Hi20.out (by have := Hsd.out; rw [World.size_alloc]; omega) ?_
      intro v' W5 hown hgrow hblk
      obtain ⟨g', cap', rfl⟩ := ownsRow_succ hown
      obtain ⟨hv1, hv2, hr2, hk2, hb2⟩ := Boxed.appended HRd.out (by decide) HOd.out (by have := Hsd.out; omega) (by omega) hown hgrow
      have hnb : some w.heap.size ≠ u.ownBlock := HPd.out.not_row (by decide) HOd.out
      have hP5 : Boxed W5 w.heap.size 3 (.int .i64 (q' : Int)) := (HPd.out.alloc _).kept hgrow hnb
      have hng : some g ≠ u.ownBlock := fun e => by have h1 := HOb.out g e.symm; have h2 : C ≤ g := hCg; omega
      have hX5 : Row W5 g 48 (cells (lev key (full l h) i)) := (HXd.out.alloc _).grown hgrow hng
      have hP6 := hP5.kept (grownBy_setCell' W5 (w.heap.size + 1) (.slice (some ⟨g', 0, none⟩) (i + 1) cap')) (by simp)
      have hX6 := hX5.apart (p := ⟨w.heap.size + 1, 0, none⟩) (show g ≠ w.heap.size + 1 by omega) (.slice (some ⟨g', 0, none⟩) (i + 1) cap')
      have hgl6 : ∀ v, Boxed W (w.heap.size + 1 + 1 + 1) 23 v → Boxed (W5.setCell ⟨w.heap.size + 1, 0, none⟩ (.slice (some ⟨g', 0, none⟩) (i + 1) cap')) (w.heap.size + 1 + 1 + 1) 23 v := fun v hv =>
        (((HEd.out.1 v hv).alloc _).kept hgrow ((HEd.out.1 v hv).not_row (by decide) HOd.out)).kept (grownBy_setCell' W5 _ _) (by intro e; injection e with e; omega)
      have hgk6 : ∀ v, Boxed W (w.heap.size + 1 + 1) 22 v → Boxed (W5.setCell ⟨w.heap.size + 1, 0, none⟩ (.slice (some ⟨g', 0, none⟩) (i + 1) cap')) (w.heap.size + 1 + 1) 22 v := fun v hv =>
        (((HEd.out.2 v hv).alloc _).kept hgrow ((HEd.out.2 v hv).not_row (by decide) HOd.out)).kept (grownBy_setCell' W5 _ _) (by intro e; injection e with e; omega)
      have hlt6 : g' < (W5.setCell ⟨w.heap.size + 1, 0, none⟩ (.slice (some ⟨g', 0, none⟩) (i + 1) cap')).heap.size := by
        rcases hr2.2 with ⟨h5, _⟩ | ⟨g2, cap2, cur, h5, _, h6, _⟩
        · cases h5
        · injection h5 with h5 _ _
          injection h5 with h5
          injection h5 with h5
          rw [← h5] at h6
          exact (Array.getElem?_eq_some_iff.1 h6).1
      have HNew : Hid (KeepsFrom W1.heap.size W (W5.setCell ⟨w.heap.size + 1, 0, none⟩ (.slice (some ⟨g', 0, none⟩) (i + 1) cap')) ∧ InW key l h p w (pre ++ [(g, i)]) (W5.setCell ⟨w.heap.size + 1, 0, none⟩ (.slice (some ⟨g', 0, none⟩) (i + 1) cap')).heap.size (W5.setCell ⟨w.heap.size + 1, 0, none⟩ (.slice (some ⟨g', 0, none⟩) (i + 1) cap')) ∧ liesL key l h (g, i) (W5.setCell ⟨w.heap.size + 1, 0, none⟩ (.slice (some ⟨g', 0, none⟩) (i + 1) cap')) ∧ KeepL w.heap.size (w.heap.size + 1 + 1 + 1) (w.heap.size + 1 + 1) W (W5.setCell ⟨w.heap.size + 1, 0, none⟩ (.slice (some ⟨g', 0, none⟩) (i + 1) cap'))) := by
        have hbb := HBd.out.trans hb2
        refine ⟨(HKd.out.trans hk2).from _, ⟨?_, ⟨_, hv2, ?_, fun g3 h3 => ?_⟩, HI.out.bel.trans hbb, ?_⟩, hX6, hgl6, hgk6, hbb⟩
        · rw [List.length_append, HPl.out, List.length_singleton, ← HQ.out]; exact hP6
        · rw [List.length_append, HPl.out, List.length_singleton, HW.out]; exact hr2
        · injection h3 with h3
          exact h3 ▸ hlt6
        · have := (HKd.out.trans hk2).size; omega
      have cs1 := hv1.cell
      have cs2 := hv1.frozen
      refine hK.out _ _ ⟨hP5, HLF.out _ hX5⟩ (fun hHeld => ?_)
      clear hK K
      try go_frame
      refine wpAnyH_ready (rs := [7]) (by kernel_rfl) (by simp) ?_
      refine AllReadyH.cons (o := ⟨none, _, _, _, _, _⟩) rfl (fun K hK => ?_) AllReadyH.nil
      go_simp
      refine hK.out _ _ ⟨hP6, HLF.out _ hX6⟩ (fun hHeld => ?_)
      clear hK K
      try go_frame
      refine wpAnyH_done (by kernel_rfl) ?_ _
      exact HNew.out
    refine AllReadyH.cons (o := ⟨some 29, _, _, _, _, _⟩) rfl (fun K hK => ?_) AllReadyH.nil
    · skip
      rw [if_pos (by rfl)]
      refine build4 36 48 (.tmp 28) rfl ks Hks.out rfl Tryd.underlying36 info4 ?_
      refine hK.out _ _ ⟨HPd.out.alloc _, HLF.out _ (HXd.out.alloc _)⟩ (fun hHeld => ?_)
      clear hK K
      try go_frame
      refine wpAnyH_ready (rs := [0]) (by kernel_rfl) (by simp) ?_
      refine AllReadyH.cons (o := ⟨some 24, _, _, _, _, _⟩) rfl (fun K hK => ?_) AllReadyH.nil
      have hc := (HRd.out.alloc (.cells ks.toArray 48)).cell
      go_simp
      clear hc
      refine hK.out _ _ ⟨HPd.out.alloc _, HLF.out _ (HXd.out.alloc _)⟩ (fun hHeld => ?_)
      clear hK K
      try go_frame
      refine wpAnyH_ready (rs := [6]) (by kernel_rfl) (by simp) ?_
      refine AllReadyH.cons (o := ⟨some 30, _, _, _, _, _⟩) rfl (fun K hK => ?_) AllReadyH.nil
      rw [if_pos (by rfl)]
      refine app4 (.tmp 24) (.tmp 29) 36 rfl w.heap.size 48 rfl Tryd.underlying36 info4 u i _ rfl (HOd.out.alloc _) Wd.heap.size ks Hks.out Hone.out rfl (Row.new Wd 48 ks) Hi20.out (by have := Hsd.out; rw [World.size_alloc]; omega) ?_
      intro v' W5 hown hgrow hblk
      obtain ⟨g', cap', rfl⟩ := ownsRow_succ hown
      obtain ⟨hv1, hv2, hr2, hk2, hb2⟩ := Boxed.appended HRd.out (by decide) HOd.out (by have := Hsd.out; omega) (by omega) hown hgrow
      have hnb : some w.heap.size ≠ u.ownBlock := HPd.out.not_row (by decide) HOd.out
      have hP5 : Boxed W5 w.heap.size 3 (.int .i64 (q' : Int)) := (HPd.out.alloc _).kept hgrow hnb
      have hng : some g ≠ u.ownBlock := fun e => by have h1 := HOb.out g e.symm; have h2 : C ≤ g := hCg; omega
      have hX5 : Row W5 g 48 (cells (lev key (full l h) i)) := (HXd.out.alloc _).grown hgrow hng
      have hP6 := hP5.kept (grownBy_setCell' W5 (w.heap.size + 1) (.slice (some ⟨g', 0, none⟩) (i + 1) cap')) (by simp)
      have hX6 := hX5.apart (p := ⟨w.heap.size + 1, 0, none⟩) (show g ≠ w.heap.size + 1 by omega) (.slice (some ⟨g', 0, none⟩) (i + 1) cap')
      have hgl6 : ∀ v, Boxed W (w.heap.size + 1 + 1 + 1) 23 v → Boxed (W5.setCell ⟨w.heap.size + 1, 0, none⟩ (.slice (some ⟨g', 0, none⟩) (i + 1) cap')) (w.heap.size + 1 + 1 + 1) 23 v := fun v hv =>
        (((HEd.out.1 v hv).alloc _).kept hgrow ((HEd.out.1 v hv).not_row (by decide) HOd.out)).kept (grownBy_setCell' W5 _ _) (by intro e; injection e with e; omega)
      have hgk6 : ∀ v, Boxed W (w.heap.size + 1 + 1) 22 v → Boxed (W5.setCell ⟨w.heap.size + 1, 0, none⟩ (.slice (some ⟨g', 0, none⟩) (i + 1) cap')) (w.heap.size + 1 + 1) 22 v := fun v hv =>
        (((HEd.out.2 v hv).alloc _).kept hgrow ((HEd.out.2 v hv).not_row (by decide) HOd.out)).kept (grownBy_setCell' W5 _ _) (by intro e; injection e with e; omega)
      have hlt6 : g' < (W5.setCell ⟨w.heap.size + 1, 0, none⟩ (.slice (some ⟨g', 0, none⟩) (i + 1) cap')).heap.size := by
        rcases hr2.2 with ⟨h5, _⟩ | ⟨g2, cap2, cur, h5, _, h6, _⟩
        · cases h5
        · injection h5 with h5 _ _
          injection h5 with h5
          injection h5 with h5
          rw [← h5] at h6
          exact (Array.getElem?_eq_some_iff.1 h6).1
      have HNew : Hid (KeepsFrom W1.heap.size W (W5.setCell ⟨w.heap.size + 1, 0, none⟩ (.slice (some ⟨g', 0, none⟩) (i + 1) cap')) ∧ InW key l h p w (pre ++ [(g, i)]) (W5.setCell ⟨w.heap.size + 1, 0, none⟩ (.slice (some ⟨g', 0, none⟩) (i + 1) cap')).heap.size (W5.setCell ⟨w.heap.size + 1, 0, none⟩ (.slice (some ⟨g', 0, none⟩) (i + 1) cap')) ∧ liesL key l h (g, i) (W5.setCell ⟨w.heap.size + 1, 0, none⟩ (.slice (some ⟨g', 0, none⟩) (i + 1) cap')) ∧ KeepL w.heap.size (w.heap.size + 1 + 1 + 1) (w.heap.size + 1 + 1) W (W5.setCell ⟨w.heap.size + 1, 0, none⟩ (.slice (some ⟨g', 0, none⟩) (i + 1) cap'))) := by
        have hbb := HBd.out.trans hb2
        refine ⟨(HKd.out.trans hk2).from _, ⟨?_, ⟨_, hv2, ?_, fun g3 h3 => ?_⟩, HI.out.bel.trans hbb, ?_⟩, hX6, hgl6, hgk6, hbb⟩
        · rw [List.length_append, HPl.out, List.length_singleton, ← HQ.out]; exact hP6
        · rw [List.length_append, HPl.out, List.length_singleton, HW.out]; exact hr2
        · injection h3 with h3
          exact h3 ▸ hlt6
        · have := (HKd.out.trans hk2).size; omega
      have cs1 := hv1.cell
      have cs2 := hv1.frozen
      refine hK.out _ _ ⟨hP5, HLF.out _ hX5⟩ (fun hHeld => ?_)
      clear hK K
      try go_frame
      refine wpAnyH_ready (rs := [7]) (by kernel_rfl) (by simp) ?_
      refine AllReadyH.cons (o := ⟨none, _, _, _, _, _⟩) rfl (fun K hK => ?_) AllReadyH.nil
      go_simp
      refine hK.out _ _ ⟨hP6, HLF.out _ hX6⟩ (fun hHeld => ?_)
      clear hK K
      try go_frame
      refine wpAnyH_done (by kernel_rfl) ?_ _
      exact HNew.out
  case done =>
    intro D xs W hD hS hI hK
    have hxl : xs.length = h := by
      have := congrArg List.length hS
      rwa [List.length_map, List.length_range] at this
    obtain ⟨u, hwy, how, _⟩ := hI.wy
    rw [hxl, wayTo_all] at how
    have HK := Lib.hid hK
    have HBe := Lib.hid hI.bel
    have HO := Lib.hid how
    have hc := hwy.cell
    clear hI hK hS how hwy hgk hgl h0 hsq hxl
    gi_wp2
    have hw4 := way_fours key l h p Hlev.out H32.out Hp4.out
    refine leaves_mark HK.out ⟨_, results_tmp2 rfl _ _ _, ⟨h, u, Hh, ?_, rfl⟩, below_shut HBe.out HBe.out.size (by omega)⟩
    exact fours_own hw4 (by rw [← show h = (way key l h p).length by simp [way]]; exact ownsRow_putObj HO.out (.deferred none) HK.out rfl)

theorem way_holds : WayC := fun key l v x p w hk hl hp hT hA hX => callsIn_wide.1 (way_in Fence.wide 3 (open_wide _) rfl (Nat.le_refl _) key l v x p w hk hl hp hT hA hX)
end Go.Proofs.YtnlbhbacedbdoaaDoor
