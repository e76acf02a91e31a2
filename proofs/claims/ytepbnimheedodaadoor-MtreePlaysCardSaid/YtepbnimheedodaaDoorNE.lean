/-
  DEEDS as they are read; what the law MtreeSame keeps in its loop; THE LAW MtreeSame (its regions by wip/mkqsame.py).
-/
import Derived.Test.YtepbnimheedodaaDoorND
import Derived.Test.YtepbnimheedodaaDoorMV
namespace Go.Proofs.YtepbnimheedodaaDoor
open Go.RowKit Mk Mt

/-- A deed: what is done, its place, its tag. -/
structure QDeed where
  what : Int
  i : Int
  t : Tg
def QDeed.cells (d : QDeed) : List Value := .int .i64 d.what :: .int .i64 d.i :: d.t.map V8
structure QDeed.ok (d : QDeed) : Prop where
  t32 : d.t.length = 32
  lo : -9223372036854775808 ≤ d.i
  hi : d.i ≤ 9223372036854775807
  wlo : -9223372036854775808 ≤ d.what
  whi : d.what ≤ 9223372036854775807
def QDeeds (w : World) (v : Value) (l : List QDeed) : Prop :=
  ∃ A cap, v = .slice A l.length cap ∧ (0 < l.length → ∃ b o, A = some ⟨b, o, none⟩ ∧ b < w.heap.size ∧ ∀ (j : Nat) (d : QDeed), l[j]? = some d → Sees w b (o + j * 34) d.cells) ∧ ∀ d ∈ l, d.ok

theorem Row.chg {W W' : World} {g : Nat} {t : TypeId} {cs : List Value} {X : Nat → Nat → Prop} (h : Row W g t cs) (hc : Chg X W W') (hg : ∀ o, ¬ X g o) : Row W' g t cs := (hc.block g h.lt hg).trans h
theorem row_tag {W : World} {g : Nat} {t : TypeId} {L : List Tg} {i : Nat} {d : Tg} (h : Row W g t (cells L)) (h32 : ∀ t ∈ L, t.length = 32) (hi : i < L.length) (hd : d.length = 32) : Row (W.setCells g (32 * i) (d.map V8)) g t (cells (L.set i d)) := by
  have e1 : L = L.take i ++ ([L[i]] ++ L.drop (i + 1)) := by
    rw [List.singleton_append, ← List.drop_eq_getElem_cons hi, List.take_append_drop]
  have e2 : L.set i d = L.take i ++ ([d] ++ L.drop (i + 1)) := by rw [List.set_eq_take_append_cons_drop, if_pos hi]; rfl
  have c1 : cells L = cells (L.take i) ++ (L[i].map V8 ++ cells (L.drop (i + 1))) := by
    rw [show cells L = cells (L.take i ++ ([L[i]] ++ L.drop (i + 1))) from congrArg cells e1, cells_append, cells_append]; simp [cells]
  rw [c1] at h
  rw [e2, cells_append, cells_append, show cells [d] = d.map V8 by simp [cells]]
  refine row_mid _ _ _ _ _ _ ?_ ?_ h
  · rw [cells_length _ fun u hu => h32 u (List.mem_of_mem_take hu), List.length_take]; congr 1; omega
  · rw [List.length_map, List.length_map, h32 _ (List.getElem_mem hi), hd]
theorem row_tags {W : World} {g : Nat} {t : TypeId} {L : List Tg} (h : Row W g t (cells L)) (h32 : ∀ t ∈ L, t.length = 32) (n : Nat) (hn : L.length = n) : Tags W (.slice (some ⟨g, 0, none⟩) n n) L := by
  refine ⟨h32, _, n, by rw [hn], fun _ => ⟨g, 0, rfl, h.lt, fun j t ht m u hu => ?_⟩⟩
  have hlt := (List.getElem?_eq_some_iff.1 ht).1
  have hp := cells_piece L h32 j 1 (by omega)
  have ht1 : (L.drop j).take 1 = [t] := by
    rw [List.drop_eq_getElem_cons hlt, List.take_succ_cons, List.take_zero]
    rw [List.getElem?_eq_getElem hlt] at ht
    injection ht with ht
    rw [ht]
  rw [ht1, show cells [t] = t.map V8 by simp [cells]] at hp
  have hm := (List.getElem?_eq_some_iff.1 hu).1
  rw [h.cell, Nat.zero_add]
  rw [← hp, List.getElem?_take, if_pos hm, List.getElem?_drop] at hu
  exact hu
theorem info32 : (Tryd.prog.info? 34).map (fun i => (i.zero, i.size, i.bytes)) = some (some (.agg Hm.Z32.toArray), 32, 32) := by kernel_rfl
set_option maxRecDepth 100000 in
theorem made32 (n : Nat) (hn : n ≤ 100000) (W : World) : (Instr.makeSlice 48 (.int .i64 (n : Int)) (.int .i64 (n : Int))).run Tryd.prog W = .ok (.slice (some ⟨W.heap.size, 0, none⟩) n n) (W.alloc (.cells (cells (List.replicate n zero)).toArray 34)) := by
  obtain ⟨i, hi, hz0, hz1, hz2⟩ := info_parts info32
  have := run_make (P := Tryd.prog) W 48 34 i (.agg Hm.Z32.toArray) Tryd.underlying48 hi hz0 .i64 .i64 n n (by omega) (by omega) (by rw [hz2]; omega) (by omega)
  rw [Int.toNat_natCast, hz1] at this
  rw [this]
  congr 3
  unfold madeCells
  have hc : (Value.agg Hm.Z32.toArray).cells = Hm.Z32.toArray := rfl
  have hz : Hm.Z32.toArray = Array.replicate 32 (.int .u8 0) := by kernel_rfl
  have hR : (cells (List.replicate n zero)) = List.replicate (n * 32) (.int .u8 0) := by
    have h1 : (List.replicate n zero).flatten = List.replicate (n * 32) 0 := by
      rw [zero, List.flatten_replicate_replicate]
    rw [cells, h1, List.map_replicate]; rfl
  rw [hR, hc]
  apply Array.ext
  · simp
  · intro j h1 h2
    simp only [Array.getElem_map, Array.getElem_range, List.getElem_toArray, List.getElem_replicate]
    exact getB _ _ 32 hz _ (by rw [hz, Array.size_replicate]; exact Nat.mod_lt _ (by omega))

theorem isH_exQ (m : Nat) (hm : m ≤ 100) : ∃ h, IsH m h ∧ h ≤ 9 := by
  rcases Nat.lt_or_ge 4 m with h1 | h1
  · rcases Nat.lt_or_ge 16 m with h2 | h2
    · rcases Nat.lt_or_ge 64 m with h3 | h3
      · exact ⟨4, ⟨by omega, by show (m : Int) ≤ 256; omega, .inr (by show (64 : Int) < m; omega)⟩, by omega⟩
      · exact ⟨3, ⟨by omega, by show (m : Int) ≤ 64; omega, .inr (by show (16 : Int) < m; omega)⟩, by omega⟩
    · exact ⟨2, ⟨by omega, by show (m : Int) ≤ 16; omega, .inr (by show (4 : Int) < m; omega)⟩, by omega⟩
  · exact ⟨1, ⟨by omega, by show (m : Int) ≤ 4; omega, .inl rfl⟩, by omega⟩
/-- A tree of the call's own, and a row of tags of the law's own beside it. -/
structure Aft (T : Tree) (w W : World) (key : Tg) (gr D : Nat) (F : Nat → Prop) (L : List Tg) (S : List Bool) (V : Nat) (R : List Tg) : Prop where
  tr : T W F D key L S V
  row : Row W gr 34 (cells R)
  Fn : ∀ k, F k → w.heap.size ≤ k ∧ k ≠ gr
  gn : w.heap.size ≤ gr
  bel : Below w.heap.size w W
section
variable {T : Tree} {w W W' : World} {key : Tg} {gr D : Nat} {F F' : Nat → Prop} {L L' : List Tg} {S S' : List Bool} {V V' : Nat} {R : List Tg}
theorem Aft.after (h : Aft T w W key gr D F L S V R) (hT : T W' F' D key L' S' V') (hF : ∀ k, F' k → F k ∨ W.heap.size ≤ k) (hC : Chg (fun k _ => F k) W W') : Aft T w W' key gr D F' L' S' V' R :=
  ⟨hT, h.row.chg hC fun _ hf => (h.Fn gr hf).2 rfl, fun k hk => (hF k hk).elim (h.Fn k) fun hl => ⟨Nat.le_trans h.bel.size hl, fun e => by have := h.row.lt; omega⟩, h.gn, below_chg h.bel h.bel.size hC fun k _ hk => (h.Fn k hk).1⟩
theorem Aft.still (C : TreeC T) (h : Aft T w W key gr D F L S V R) (hb : Below W.heap.size W W') : Aft T w W' key gr D F L S V R :=
  ⟨C.stay h.tr (Chg.below hb fun _ _ => False) fun _ _ _ x => x, h.row.below hb h.row.lt, h.Fn, h.gn, h.bel.trans (hb.mono h.bel.size)⟩
theorem Aft.drew (C : TreeC T) (h : Aft T w W key gr D F L S V R) : Aft T w W.drew key gr D F L S V R := h.still C (below_drewN (Below.refl _ _) 1)
theorem Aft.put (C : TreeC T) (h : Aft T w W key gr D F L S V R) {i : Nat} {d : Tg} (hi : i < R.length) (h32 : ∀ t ∈ R, t.length = 32) (hd : d.length = 32) : Aft T w (W.setCells gr (32 * i) (d.map V8)) key gr D F L S V (R.set i d) := by
  have hth : W.there gr (32 * i) (d.map V8).length := by
    rw [List.length_map, hd]
    exact h.row.thereMid _ _ (by rw [cells_length _ h32]; omega)
  have hC : Chg (fun k _ => k = gr) W (W.setCells gr (32 * i) (d.map V8)) := (Chg.refl _ W).setCells (fun _ _ _ => rfl) hth
  exact ⟨C.stay h.tr hC fun k _ hk e => (h.Fn k hk).2 e, row_tag h.row h32 hi hd, h.Fn, h.gn, below_cells h.gn _ _ h.bel⟩
end

set_option maxRecDepth 100000 in
set_option maxHeartbeats 4000000 in
theorem QSame_any {T : Tree} (C : TreeC T) (CH : HeightC) (CR : RootC) (key : Tg) (v : Value) (z : Int) (hz1 : -9223372036854775808 ≤ z) (hz2 : z ≤ 9223372036854775807) (l : List QDeed) (u : Value) (asks : List Bool) (y : Value) (w : World)
    (hA : Arg w v key) (hL : QDeeds w u l) (hy : From w y (asks.map VB)) (hT : Hm.Tab w) :
    Calls Tryd.prog 4 #[v, .int .i64 z, u, y] w fun e w' => e = .returned (.bool true) ∧ Below w.heap.size w w' := by
  obtain ⟨A, cap, rfl⟩ := hA.form
  obtain ⟨B, cap2, rfl, hs, hok⟩ := hL
  obtain ⟨A3, cap3, rfl, hs3⟩ := hy.parts
  rw [List.length_map] at hs3 ⊢
  obtain ⟨kn, hkn⟩ : ∃ n, n = key.length := ⟨_, rfl⟩
  obtain ⟨m, hm⟩ : ∃ n, n = l.length := ⟨_, rfl⟩
  obtain ⟨n3, hn3⟩ : ∃ n, n = asks.length := ⟨_, rfl⟩
  rw [← hkn] at hA ⊢
  rw [← hm] at hs ⊢
  rw [← hn3] at hs3 ⊢
  have HK := Lib.hid (Qknows_any C w hT)
  have HKn := Lib.hid hkn
  have HM := Lib.hid hm
  have HN3 := Lib.hid hn3
  have HA := Lib.hid hA
  have HS := Lib.hid hs
  have HAs := Lib.hid hs3
  have HOk := Lib.hid hok
  have HT0 := Lib.hid hT
  have Htl : Hid (0 < w.heap.size) := hT.1
  clear hkn hm hn3 hA hs hs3 hok hT hy
  rcases Nat.lt_or_ge 100 kn with hk1 | hk1
  · go_enter Tryd.func4, Tryd.ntmps4
    go_wp2_with fail
    refine HK.out.mono ?_
    rintro e w1 ⟨rfl, hb⟩
    go_wp2
    go_ret
    exact ⟨rfl, hb⟩
  rcases Int.lt_or_le z 1 with hp1 | hp1
  · go_enter Tryd.func4, Tryd.ntmps4
    go_wp2_with fail
    refine HK.out.mono ?_
    rintro e w1 ⟨rfl, hb⟩
    go_wp2
    go_ret
    exact ⟨rfl, hb⟩
  rcases Int.lt_or_le 100 z with hp2 | hp2
  · go_enter Tryd.func4, Tryd.ntmps4
    go_wp2_with fail
    refine HK.out.mono ?_
    rintro e w1 ⟨rfl, hb⟩
    go_wp2
    go_ret
    exact ⟨rfl, hb⟩
  rcases Nat.lt_or_ge 60 m with hm1 | hm1
  · go_enter Tryd.func4, Tryd.ntmps4
    go_wp2_with fail
    refine HK.out.mono ?_
    rintro e w1 ⟨rfl, hb⟩
    go_wp2
    go_ret
    exact ⟨rfl, hb⟩
  obtain ⟨n, rfl⟩ : ∃ n : Nat, z = (n : Int) := ⟨z.toNat, by omega⟩
  have hn1 : 1 ≤ n := by omega
  have hn2 : n ≤ 100 := by omega
  have Hk : Hid (key.length ≤ 1000) := by show _ ≤ _; rw [← HKn.out]; omega
  obtain ⟨h, hh⟩ := isH_exQ n hn2
  have Hh := Lib.hid hh.1
  have H9 : Hid (h ≤ 9) := hh.2
  have hmk := made32
  have HMK := Lib.hid hmk
  clear hz1 hz2 hp1 hp2 hh hmk HK
  have HNew := Lib.hid (C.newOk key _ n w Hk.out hn1 hn2 HT0.out HA.out)
  go_enter Tryd.func4, Tryd.ntmps4
  go_wp2_with fail
  refine HNew.out.mono ?_
  rintro e w1 ⟨D, F0, rfl, hT1, hF1, hb1⟩
  have hmk := HMK.out n (by omega) w1
  have HQ1 : Hid (Aft T w (w1.alloc (.cells (cells (List.replicate n zero)).toArray 34)) key w1.heap.size D F0 (List.replicate n zero) (List.replicate n false) 0 (List.replicate n zero)) := by
    have hal : Below w1.heap.size w1 (w1.alloc (.cells (cells (List.replicate n zero)).toArray 34)) := (Below.refl _ _).alloc (Nat.le_refl _) _
    exact ⟨C.stay hT1 (Chg.below hal fun _ _ => False) fun _ _ _ x => x, Row.new w1 34 _, fun k hk => ⟨hF1 k hk, fun e => by have := C.lt hT1 k hk; omega⟩, hb1.size, hb1.trans (hal.mono hb1.size)⟩
  have HS1 : Hid (0 + st h (List.replicate n false) ≤ 0 * h) := by show _ ≤ _; rw [st_no]; omega
  obtain ⟨gr, hgr⟩ : ∃ g, g = w1.heap.size := ⟨_, rfl⟩
  obtain ⟨wz, hwz⟩ : ∃ W, W = w1.alloc (.cells (cells (List.replicate n zero)).toArray 34) := ⟨_, rfl⟩
  rw [← hwz, ← hgr] at HQ1
  rw [← hwz, ← hgr] at hmk
  clear hT1 hF1 hb1 HNew hgr hwz
  go_wp2
  clear hmk
  have HL0 : Hid ((List.replicate n zero).length = n) := by show _ = _; rw [List.length_replicate]
  go_loopw [12, 13] (fun cv i wr => ∃ (k c : Nat) (F : Nat → Prop) (L : List Tg) (S : List Bool) (V : Nat), k ≤ m ∧ i = .int .i64 k ∧ cv = .int .i64 c ∧ c ≤ k ∧ Hid (Aft T w wr key gr D F L S V L) ∧ Hid (L.length = n) ∧ Hid (V + st h S ≤ c * h)) (fun _ i _ => m - (intOf i).toNat)
  case atStart => exact ⟨0, 0, F0, _, _, 0, by omega, rfl, rfl, by omega, HQ1, HL0, HS1⟩
  case round =>
    obtain ⟨k, c, F, L, S, V, hk, rfl, rfl, hck, HQ0, HLn, HSt0⟩ := hrel
    clear HQ1 HS1 HL0
    have H32 : Hid (∀ t ∈ L, t.length = 32) := (C.len HQ0.out.tr).2.2.2
    have HB0 : Hid (Below w.heap.size w wr) := HQ0.out.bel
    by_cases hlt : k < m
    · obtain ⟨b, o, rfl, hb, hsee⟩ := HS.out (by omega)
      obtain ⟨dd, hdd⟩ : ∃ d, l[k]? = some d := ⟨_, List.getElem?_eq_getElem (by rw [← HM.out]; exact hlt)⟩
      have hdok := HOk.out dd (List.mem_of_getElem? hdd)
      have hsd := hsee k dd hdd
      obtain ⟨what, x, d⟩ := dd
      have Hd : Hid (d.length = 32) := hdok.t32
      have hxlo : -9223372036854775808 ≤ x := hdok.lo
      have hxhi : x ≤ 9223372036854775807 := hdok.hi
      obtain ⟨ts, hts⟩ : ∃ ts, ts = d.map V8 := ⟨_, rfl⟩
      have Hts : Hid (Vec 32 d ts) := ⟨hts, Hd.out⟩
      have Htn : Hid (ts.length = 32) := Hts.out.len
      have Htz : Hid (ts.toArray.size = 32) := Hts.out.size
      have Hto : Hid (ts.toArray.all (·.oneCell') = true) := Hts.out.one
      have HSk : Hid (∀ X, Below w.heap.size w X → X.cell? ⟨b, o + k * 34 + 1, none⟩ = some (.int .i64 x) ∧ X.rangeAt b (o + k * 34 + 2) ts) := fun X hX => by
        refine ⟨(World.cell?_of_block (w := w) (hX.block b hb)).trans (hsd 1 _ rfl), fun j v hv => (World.cell?_of_block (w := w) (hX.block b hb)).trans ?_⟩
        rw [show o + k * 34 + 2 + j = o + k * 34 + (j + 2) by omega]
        exact hsd (j + 2) v (by rw [hts] at hv; exact hv)
      clear hsee hdd hdok hsd hts
      by_cases hfit : 0 ≤ x ∧ x < (n : Int)
      · obtain ⟨i, rfl⟩ : ∃ i : Nat, x = (i : Int) := ⟨x.toNat, by omega⟩
        have hin : i < n := by omega
        clear hfit hxlo hxhi
        go_wp2_with fail
        have HBd : Hid (Below w.heap.size w wr.drew) := below_drewN HB0.out 1
        refine wp_region_held_drew (S := (fun X => X.cell? ⟨b, o + k * 34 + 1, none⟩ = some (.int .i64 (i : Int)) ∧ X.rangeAt b (o + k * 34 + 2) ts)) (by kernel_rfl) (HSk.out _ HBd.out) (fun hHeld => ?_)
        have HQd : Hid (Aft T w wr.drew key gr D F L S V L) := HQ0.out.drew C
        have HTd : Hid (T wr.drew F D key L S V) := HQd.out.tr
        generalize wr.drew = wd at *
        refine wpAnyH_take (i := 0) (oi := ⟨some 51, _, _, _, _, _⟩) (v := ?_) rfl (by kernel_rfl) (by kernel_rfl) (by kernel_rfl) (fun _ _ _ h => h) (Or.inl ⟨by rfl, ?_⟩) hHeld ?_
        rotate_left
        · intro w hSw
          go_simp
          with_reducible rfl
        try go_frame
        refine wpAnyH_take (i := 1) (oi := ⟨some 52, _, _, _, _, _⟩) (v := ?_) rfl (by kernel_rfl) (by kernel_rfl) (by kernel_rfl) (fun _ _ _ h => h) (Or.inl ⟨by rfl, ?_⟩) hHeld ?_
        rotate_left
        · intro w hSw
          go_simp
          with_reducible rfl
        try go_frame
        refine wpAnyH_take (i := 2) (oi := ⟨some 53, _, _, _, _, _⟩) (v := ?_) rfl (by kernel_rfl) (by kernel_rfl) (by kernel_rfl) (fun _ _ _ h => h) (Or.inl ⟨by rfl, ?_⟩) hHeld ?_
        rotate_left
        · intro w hSw
          go_simp
          with_reducible rfl
        try go_frame
        refine wpAnyH_take (i := 3) (oi := ⟨some 54, _, _, _, _, _⟩) (v := ?_) rfl (by kernel_rfl) (by kernel_rfl) (by kernel_rfl) (fun _ _ _ h => h) (Or.inl ⟨by rfl, ?_⟩) hHeld ?_
        rotate_left
        · intro w hSw
          go_simp
          with_reducible rfl
        try go_frame
        refine wpAnyH_take (i := 4) (oi := ⟨some 55, _, _, _, _, _⟩) (v := ?_) rfl (by kernel_rfl) (by kernel_rfl) (by kernel_rfl) (fun _ _ _ h => h) (Or.inl ⟨by rfl, ?_⟩) hHeld ?_
        rotate_left
        · intro w hSw
          go_simp
          with_reducible rfl
        try go_frame
        refine wpAnyH_take (i := 5) (oi := ⟨some 56, _, _, _, _, _⟩) (v := ?_) rfl (by kernel_rfl) (by kernel_rfl) (by kernel_rfl) (fun _ _ _ h => h) (Or.inl ⟨by rfl, ?_⟩) hHeld ?_
        rotate_left
        · intro w hSw
          have hc := hSw.1
          go_simp
          with_reducible rfl
        try go_frame
        refine wpAnyH_take (i := 6) (oi := ⟨some 57, _, _, _, _, _⟩) (v := ?_) rfl (by kernel_rfl) (by kernel_rfl) (by kernel_rfl) (fun _ _ _ h => h) (Or.inl ⟨by rfl, ?_⟩) hHeld ?_
        rotate_left
        · intro w hSw
          go_simp
          with_reducible rfl
        try go_frame
        refine wpAnyH_take (i := 7) (oi := ⟨some 58, _, _, _, _, _⟩) (v := ?_) rfl (by kernel_rfl) (by kernel_rfl) (by kernel_rfl) (fun _ _ _ h => h) (Or.inl ⟨by rfl, ?_⟩) hHeld ?_
        rotate_left
        · intro w hSw
          go_simp
          with_reducible rfl
        try go_frame
        refine wpAnyH_take (i := 8) (oi := ⟨some 59, _, _, _, _, _⟩) (v := ?_) rfl (by kernel_rfl) (by kernel_rfl) (by kernel_rfl) (fun _ _ _ h => h) (Or.inl ⟨by rfl, ?_⟩) hHeld ?_
        rotate_left
        · intro w hSw
          go_simp
          with_reducible rfl
        try go_frame
        refine wpAnyH_take (i := 9) (oi := ⟨some 60, _, _, _, _, _⟩) (v := ?_) rfl (by kernel_rfl) (by kernel_rfl) (by kernel_rfl) (fun _ _ _ h => h) (Or.inl ⟨by rfl, ?_⟩) hHeld ?_
        rotate_left
        · intro w hSw
          go_simp
          with_reducible rfl
        try go_frame
        refine wpAnyH_take (i := 10) (oi := ⟨some 61, _, _, _, _, _⟩) (v := .agg (ts).toArray) rfl (by kernel_rfl) (by kernel_rfl) (by kernel_rfl) (fun _ _ _ h => h) (yieldsIf_load_mid (by rfl) 34 (.tmp 60) rfl b (o + k * 34 + 2) rfl ts _ (fun W h => h.2) Tryd.underlying34 rfl (by rw [Htn.out]; kernel_rfl)) hHeld ?_
        try go_frame
        refine wpAnyH_ready (rs := [11]) (by kernel_rfl) (by simp) ?_
        refine AllReadyH.cons (o := ⟨some 62, _, _, _, _, _⟩) rfl (fun K hK => ?_) AllReadyH.nil
        go_simp
        refine (C.setOk HTd.out i d ts (by rw [HLn.out]; exact hin) Hts.out).mono ?_
        rintro e w3 ⟨rfl, F3, hT3, hF3, hC3⟩
        have HA3 : Hid (Aft T w w3 key gr D F3 (L.set i d) (S.set i true) V L) := HQd.out.after hT3 hF3 hC3
        have HBc : Hid (Below w.heap.size w w3) := HA3.out.bel
        clear hT3 hF3 hC3
        refine hK.out _ _ (HSk.out _ HBc.out) (fun hHeld => ?_)
        clear hK K
        try go_frame
        refine wpAnyH_take (i := 12) (oi := ⟨some 63, _, _, _, _, _⟩) (v := ?_) rfl (by kernel_rfl) (by kernel_rfl) (by kernel_rfl) (fun _ _ _ h => h) (Or.inl ⟨by rfl, ?_⟩) hHeld ?_
        rotate_left
        · intro w hSw
          go_simp
          with_reducible rfl
        try go_frame
        refine wpAnyH_done (by kernel_rfl) ?_ _
        clear hHeld HBd HQd HTd HBc
        have c12 := (HSk.out _ HA3.out.bel).1
        go_wp2_with fail
        clear c12
        refine wp_region_held_drew (S := (fun X => X.cell? ⟨b, o + k * 34 + 1, none⟩ = some (.int .i64 (i : Int)) ∧ X.rangeAt b (o + k * 34 + 2) ts)) (by kernel_rfl) (HSk.out _ (below_drewN HA3.out.bel 1)) (fun hHeld => ?_)
        have HA4 : Hid (Aft T w w3.drew key gr D F3 (L.set i d) (S.set i true) V L) := HA3.out.drew C
        generalize w3.drew = w4 at *
        clear HA3
        have HTh : Hid (∀ X, X = w4 → X.there gr (32 * i) ts.toArray.size) := fun X e => by rw [e, Htz.out]; exact HA4.out.row.thereMid _ _ (by rw [cells_length _ H32.out, HLn.out]; omega)
        have HA5 : Hid (Aft T w (w4.setCells gr (32 * i) ts) key gr D F3 (L.set i d) (S.set i true) V (L.set i d)) := by rw [Hts.out.1]; exact HA4.out.put C (by rw [HLn.out]; exact hin) H32.out Hd.out
        have HBc : Hid (Below w.heap.size w (w4.setCells gr (32 * i) ts)) := HA5.out.bel
        refine wpAnyH_take (i := 0) (oi := ⟨some 79, _, _, _, _, _⟩) (v := ?_) rfl (by kernel_rfl) (by kernel_rfl) (by kernel_rfl) (fun _ _ _ h => h) (Or.inl ⟨by rfl, ?_⟩) hHeld ?_
        rotate_left
        · intro w hSw
          go_simp
          with_reducible rfl
        try go_frame
        refine wpAnyH_take (i := 1) (oi := ⟨some 80, _, _, _, _, _⟩) (v := ?_) rfl (by kernel_rfl) (by kernel_rfl) (by kernel_rfl) (fun _ _ _ h => h) (Or.inl ⟨by rfl, ?_⟩) hHeld ?_
        rotate_left
        · intro w hSw
          go_simp
          with_reducible rfl
        try go_frame
        refine wpAnyH_take (i := 2) (oi := ⟨some 81, _, _, _, _, _⟩) (v := ?_) rfl (by kernel_rfl) (by kernel_rfl) (by kernel_rfl) (fun _ _ _ h => h) (Or.inl ⟨by rfl, ?_⟩) hHeld ?_
        rotate_left
        · intro w hSw
          go_simp
          with_reducible rfl
        try go_frame
        refine wpAnyH_take (i := 3) (oi := ⟨some 82, _, _, _, _, _⟩) (v := ?_) rfl (by kernel_rfl) (by kernel_rfl) (by kernel_rfl) (fun _ _ _ h => h) (Or.inl ⟨by rfl, ?_⟩) hHeld ?_
        rotate_left
        · intro w hSw
          go_simp
          with_reducible rfl
        try go_frame
        refine wpAnyH_take (i := 4) (oi := ⟨some 83, _, _, _, _, _⟩) (v := ?_) rfl (by kernel_rfl) (by kernel_rfl) (by kernel_rfl) (fun _ _ _ h => h) (Or.inl ⟨by rfl, ?_⟩) hHeld ?_
        rotate_left
        · intro w hSw
          go_simp
          with_reducible rfl
        try go_frame
        refine wpAnyH_take (i := 5) (oi := ⟨some 84, _, _, _, _, _⟩) (v := ?_) rfl (by kernel_rfl) (by kernel_rfl) (by kernel_rfl) (fun _ _ _ h => h) (Or.inl ⟨by rfl, ?_⟩) hHeld ?_
        rotate_left
        · intro w hSw
          have hc := hSw.1
          go_simp
          with_reducible rfl
        try go_frame
        refine wpAnyH_take (i := 6) (oi := ⟨some 85, _, _, _, _, _⟩) (v := ?_) rfl (by kernel_rfl) (by kernel_rfl) (by kernel_rfl) (fun _ _ _ h => h) (Or.inl ⟨by rfl, ?_⟩) hHeld ?_
        rotate_left
        · intro w hSw
          go_simp
          with_reducible rfl
        try go_frame
        refine wpAnyH_take (i := 7) (oi := ⟨some 86, _, _, _, _, _⟩) (v := ?_) rfl (by kernel_rfl) (by kernel_rfl) (by kernel_rfl) (fun _ _ _ h => h) (Or.inl ⟨by rfl, ?_⟩) hHeld ?_
        rotate_left
        · intro w hSw
          go_simp
          with_reducible rfl
        try go_frame
        refine wpAnyH_take (i := 8) (oi := ⟨some 87, _, _, _, _, _⟩) (v := ?_) rfl (by kernel_rfl) (by kernel_rfl) (by kernel_rfl) (fun _ _ _ h => h) (Or.inl ⟨by rfl, ?_⟩) hHeld ?_
        rotate_left
        · intro w hSw
          go_simp
          with_reducible rfl
        try go_frame
        refine wpAnyH_take (i := 9) (oi := ⟨some 88, _, _, _, _, _⟩) (v := ?_) rfl (by kernel_rfl) (by kernel_rfl) (by kernel_rfl) (fun _ _ _ h => h) (Or.inl ⟨by rfl, ?_⟩) hHeld ?_
        rotate_left
        · intro w hSw
          go_simp
          with_reducible rfl
        try go_frame
        refine wpAnyH_take (i := 10) (oi := ⟨some 89, _, _, _, _, _⟩) (v := .agg (ts).toArray) rfl (by kernel_rfl) (by kernel_rfl) (by kernel_rfl) (fun _ _ _ h => h) (yieldsIf_load_mid (by rfl) 34 (.tmp 88) rfl b (o + k * 34 + 2) rfl ts _ (fun W h => h.2) Tryd.underlying34 rfl (by rw [Htn.out]; kernel_rfl)) hHeld ?_
        try go_frame
        refine wpAnyH_take (i := 11) (oi := ⟨some 90, _, _, _, _, _⟩) (v := ?_) rfl (by kernel_rfl) (by kernel_rfl) (by kernel_rfl) (fun _ _ _ h => h) (Or.inl ⟨by rfl, ?_⟩) hHeld ?_
        rotate_left
        · intro w hSw
          have hin2 : 0 ≤ (i : Int) ∧ (i : Int) < (n : Int) := by omega
          have ho2 : i * 32 = 32 * i := Nat.mul_comm _ _
          go_simp
          with_reducible rfl
        try go_frame
        refine wpAnyH_ready (rs := [12]) (by kernel_rfl) (by simp) ?_
        refine AllReadyH.cons (o := ⟨none, _, _, _, _, _⟩) rfl (fun K hK => ?_) AllReadyH.nil
        rw [if_pos (by rfl)]
        refine Go.wp_store_mid 34 (.tmp 90) (.tmp 89) rfl gr (32 * i) ts.toArray rfl rfl (HTh.out _ rfl) (by rw [Htz.out]; kernel_rfl) Hto.out ?_
        rw [List.toList_toArray]
        refine hK.out _ _ (HSk.out _ HBc.out) (fun hHeld => ?_)
        clear hK K
        try go_frame
        refine wpAnyH_done (by kernel_rfl) ?_ _
        clear hHeld HA4 HTh
        generalize w4.setCells gr (32 * i) ts = w5 at *
        skip
        have HSt : Hid (V + st h (S.set i true) ≤ (c + 1) * h) := by
          have h1 := st_set h S i (by rw [(C.len HQ0.out.tr).1, HLn.out]; exact hin)
          have h2 := HSt0.out
          show _ ≤ _
          rw [Nat.succ_mul]; omega
        by_cases hk3 : k < n3
        · obtain ⟨b3, o3, rfl, hb3, hs3⟩ := HAs.out (by omega)
          have c3 : w5.cell? ⟨b3, o3 + k, none⟩ = some (.bool (asks.getD k false)) := by
            rw [World.cell?_of_block (w := w) (HA5.out.bel.block b3 hb3)]
            exact hs3 k (VB (asks.getD k false)) (by rw [List.getElem?_map, List.getElem?_eq_getElem (by rw [← HN3.out]; exact hk3), List.getD_eq_getElem?_getD, List.getElem?_eq_getElem (by rw [← HN3.out]; exact hk3)]; rfl)
          clear hs3
          cases ha : asks.getD k false with
          | false =>
            rw [ha] at c3
            go_wp2
            go_roundw
            case rel => exact ⟨k + 1, (c + 1), F3, (L.set i d), (S.set i true), V, by omega, by go_num, by go_num, by omega, HA5, by show _ = _; rw [List.length_set]; exact HLn.out, HSt⟩
            case measure => rw [iO9, show intOf (.int .i64 (k : Int)) = (k : Int) from rfl]; omega
          | true =>
            rw [ha] at c3
            have hVb : V ≤ 100000 := by
              have h1 := HSt.out
              have h2 : (c + 1) * h ≤ 61 * 10 := Nat.mul_le_mul (by omega) (by have := H9.out; omega)
              omega
            have HRt := Lib.hid (C.root HA5.out.tr (HT0.out.stay Htl.out HA5.out.bel) (fun q hq => by have := (HA5.out.Fn q hq).1; have := Htl.out; omega) hVb h (by rw [List.length_set, HLn.out]; exact Hh.out))
            go_wp2_with fail
            refine HRt.out.mono ?_
            rintro e w8 ⟨rs8, ⟨_, rfl⟩, F8, hT8, hF8, hC8⟩
            have HA8 : Hid (Aft T w w8 key gr D F8 (L.set i d) (List.replicate ((L.set i d)).length false) (V + st h (S.set i true)) (L.set i d)) := HA5.out.after hT8 hF8 hC8
            have HS8 : Hid (V + st h (S.set i true) + st h (List.replicate ((L.set i d)).length false) ≤ (c + 1) * h) := by show _ ≤ _; rw [st_no, Nat.add_zero]; exact HSt.out
            clear hT8 hF8 hC8 HRt
            go_wp2
            go_roundw
            case rel => exact ⟨k + 1, (c + 1), F8, (L.set i d), _, _, by omega, by go_num, by go_num, by omega, HA8, by show _ = _; rw [List.length_set]; exact HLn.out, HS8⟩
            case measure => rw [iO9, show intOf (.int .i64 (k : Int)) = (k : Int) from rfl]; omega
        · skip
          go_wp2
          go_roundw
          case rel => exact ⟨k + 1, (c + 1), F3, (L.set i d), (S.set i true), V, by omega, by go_num, by go_num, by omega, HA5, by show _ = _; rw [List.length_set]; exact HLn.out, HSt⟩
          case measure => rw [iO9, show intOf (.int .i64 (k : Int)) = (k : Int) from rfl]; omega
      · have hbad : x < 0 ∨ (n : Int) ≤ x := by omega
        go_wp2_with fail
        have HBd : Hid (Below w.heap.size w wr.drew) := below_drewN HB0.out 1
        refine wp_region_held_drew (S := (fun X => X.cell? ⟨b, o + k * 34 + 1, none⟩ = some (.int .i64 x) ∧ X.rangeAt b (o + k * 34 + 2) ts)) (by kernel_rfl) (HSk.out _ HBd.out) (fun hHeld => ?_)
        have HQd : Hid (Aft T w wr.drew key gr D F L S V L) := HQ0.out.drew C
        have HTd : Hid (T wr.drew F D key L S V) := HQd.out.tr
        generalize wr.drew = wd at *
        refine wpAnyH_take (i := 0) (oi := ⟨some 51, _, _, _, _, _⟩) (v := ?_) rfl (by kernel_rfl) (by kernel_rfl) (by kernel_rfl) (fun _ _ _ h => h) (Or.inl ⟨by rfl, ?_⟩) hHeld ?_
        rotate_left
        · intro w hSw
          go_simp
          with_reducible rfl
        try go_frame
        refine wpAnyH_take (i := 1) (oi := ⟨some 52, _, _, _, _, _⟩) (v := ?_) rfl (by kernel_rfl) (by kernel_rfl) (by kernel_rfl) (fun _ _ _ h => h) (Or.inl ⟨by rfl, ?_⟩) hHeld ?_
        rotate_left
        · intro w hSw
          go_simp
          with_reducible rfl
        try go_frame
        refine wpAnyH_take (i := 2) (oi := ⟨some 53, _, _, _, _, _⟩) (v := ?_) rfl (by kernel_rfl) (by kernel_rfl) (by kernel_rfl) (fun _ _ _ h => h) (Or.inl ⟨by rfl, ?_⟩) hHeld ?_
        rotate_left
        · intro w hSw
          go_simp
          with_reducible rfl
        try go_frame
        refine wpAnyH_take (i := 3) (oi := ⟨some 54, _, _, _, _, _⟩) (v := ?_) rfl (by kernel_rfl) (by kernel_rfl) (by kernel_rfl) (fun _ _ _ h => h) (Or.inl ⟨by rfl, ?_⟩) hHeld ?_
        rotate_left
        · intro w hSw
          go_simp
          with_reducible rfl
        try go_frame
        refine wpAnyH_take (i := 4) (oi := ⟨some 55, _, _, _, _, _⟩) (v := ?_) rfl (by kernel_rfl) (by kernel_rfl) (by kernel_rfl) (fun _ _ _ h => h) (Or.inl ⟨by rfl, ?_⟩) hHeld ?_
        rotate_left
        · intro w hSw
          go_simp
          with_reducible rfl
        try go_frame
        refine wpAnyH_take (i := 5) (oi := ⟨some 56, _, _, _, _, _⟩) (v := ?_) rfl (by kernel_rfl) (by kernel_rfl) (by kernel_rfl) (fun _ _ _ h => h) (Or.inl ⟨by rfl, ?_⟩) hHeld ?_
        rotate_left
        · intro w hSw
          have hc := hSw.1
          go_simp
          with_reducible rfl
        try go_frame
        refine wpAnyH_take (i := 6) (oi := ⟨some 57, _, _, _, _, _⟩) (v := ?_) rfl (by kernel_rfl) (by kernel_rfl) (by kernel_rfl) (fun _ _ _ h => h) (Or.inl ⟨by rfl, ?_⟩) hHeld ?_
        rotate_left
        · intro w hSw
          go_simp
          with_reducible rfl
        try go_frame
        refine wpAnyH_take (i := 7) (oi := ⟨some 58, _, _, _, _, _⟩) (v := ?_) rfl (by kernel_rfl) (by kernel_rfl) (by kernel_rfl) (fun _ _ _ h => h) (Or.inl ⟨by rfl, ?_⟩) hHeld ?_
        rotate_left
        · intro w hSw
          go_simp
          with_reducible rfl
        try go_frame
        refine wpAnyH_take (i := 8) (oi := ⟨some 59, _, _, _, _, _⟩) (v := ?_) rfl (by kernel_rfl) (by kernel_rfl) (by kernel_rfl) (fun _ _ _ h => h) (Or.inl ⟨by rfl, ?_⟩) hHeld ?_
        rotate_left
        · intro w hSw
          go_simp
          with_reducible rfl
        try go_frame
        refine wpAnyH_take (i := 9) (oi := ⟨some 60, _, _, _, _, _⟩) (v := ?_) rfl (by kernel_rfl) (by kernel_rfl) (by kernel_rfl) (fun _ _ _ h => h) (Or.inl ⟨by rfl, ?_⟩) hHeld ?_
        rotate_left
        · intro w hSw
          go_simp
          with_reducible rfl
        try go_frame
        refine wpAnyH_take (i := 10) (oi := ⟨some 61, _, _, _, _, _⟩) (v := .agg (ts).toArray) rfl (by kernel_rfl) (by kernel_rfl) (by kernel_rfl) (fun _ _ _ h => h) (yieldsIf_load_mid (by rfl) 34 (.tmp 60) rfl b (o + k * 34 + 2) rfl ts _ (fun W h => h.2) Tryd.underlying34 rfl (by rw [Htn.out]; kernel_rfl)) hHeld ?_
        try go_frame
        refine wpAnyH_ready (rs := [11]) (by kernel_rfl) (by simp) ?_
        refine AllReadyH.cons (o := ⟨some 62, _, _, _, _, _⟩) rfl (fun K hK => ?_) AllReadyH.nil
        go_simp
        refine (C.setBad HTd.out x d ts (by rw [HLn.out]; exact hbad) Hts.out).mono ?_
        rintro e w3 ⟨rfl, hb3⟩
        have HA3 : Hid (Aft T w w3 key gr D F L S V L) := HQd.out.still C hb3
        have HBc : Hid (Below w.heap.size w w3) := HA3.out.bel
        clear hb3
        refine hK.out _ _ (HSk.out _ HBc.out) (fun hHeld => ?_)
        clear hK K
        try go_frame
        refine wpAnyH_take (i := 12) (oi := ⟨some 63, _, _, _, _, _⟩) (v := ?_) rfl (by kernel_rfl) (by kernel_rfl) (by kernel_rfl) (fun _ _ _ h => h) (Or.inl ⟨by rfl, ?_⟩) hHeld ?_
        rotate_left
        · intro w hSw
          go_simp
          with_reducible rfl
        try go_frame
        refine wpAnyH_done (by kernel_rfl) ?_ _
        clear hHeld HBd HQd HTd HBc
        have HSt : Hid (V + st h S ≤ c * h) := by
          exact HSt0.out
        by_cases hk3 : k < n3
        · obtain ⟨b3, o3, rfl, hb3, hs3⟩ := HAs.out (by omega)
          have c3 : w3.cell? ⟨b3, o3 + k, none⟩ = some (.bool (asks.getD k false)) := by
            rw [World.cell?_of_block (w := w) (HA3.out.bel.block b3 hb3)]
            exact hs3 k (VB (asks.getD k false)) (by rw [List.getElem?_map, List.getElem?_eq_getElem (by rw [← HN3.out]; exact hk3), List.getD_eq_getElem?_getD, List.getElem?_eq_getElem (by rw [← HN3.out]; exact hk3)]; rfl)
          clear hs3
          cases ha : asks.getD k false with
          | false =>
            rw [ha] at c3
            go_wp2
            go_roundw
            case rel => exact ⟨k + 1, c, F, L, S, V, by omega, by go_num, rfl, by omega, HA3, HLn, HSt⟩
            case measure => rw [iO9, show intOf (.int .i64 (k : Int)) = (k : Int) from rfl]; omega
          | true =>
            rw [ha] at c3
            have hVb : V ≤ 100000 := by
              have h1 := HSt.out
              have h2 : c * h ≤ 61 * 10 := Nat.mul_le_mul (by omega) (by have := H9.out; omega)
              omega
            have HRt := Lib.hid (C.root HA3.out.tr (HT0.out.stay Htl.out HA3.out.bel) (fun q hq => by have := (HA3.out.Fn q hq).1; have := Htl.out; omega) hVb h (by rw [HLn.out]; exact Hh.out))
            go_wp2_with fail
            refine HRt.out.mono ?_
            rintro e w8 ⟨rs8, ⟨_, rfl⟩, F8, hT8, hF8, hC8⟩
            have HA8 : Hid (Aft T w w8 key gr D F8 L (List.replicate (L).length false) (V + st h S) L) := HA3.out.after hT8 hF8 hC8
            have HS8 : Hid (V + st h S + st h (List.replicate (L).length false) ≤ c * h) := by show _ ≤ _; rw [st_no, Nat.add_zero]; exact HSt.out
            clear hT8 hF8 hC8 HRt
            go_wp2
            go_roundw
            case rel => exact ⟨k + 1, c, F8, L, _, _, by omega, by go_num, rfl, by omega, HA8, HLn, HS8⟩
            case measure => rw [iO9, show intOf (.int .i64 (k : Int)) = (k : Int) from rfl]; omega
        · skip
          go_wp2
          go_roundw
          case rel => exact ⟨k + 1, c, F, L, S, V, by omega, by go_num, rfl, by omega, HA3, HLn, HSt⟩
          case measure => rw [iO9, show intOf (.int .i64 (k : Int)) = (k : Int) from rfl]; omega
    · obtain rfl : k = m := by omega
      have hVb : V ≤ 100000 := by
        have h1 := HSt0.out
        have h2 : c * h ≤ 61 * 10 := Nat.mul_le_mul (by omega) (by have := H9.out; omega)
        omega
      have HhL : Hid (IsH L.length h) := by show IsH _ _; rw [HLn.out]; exact Hh.out
      have HRt := Lib.hid (C.root HQ0.out.tr (HT0.out.stay Htl.out HQ0.out.bel) (fun q hq => by have := (HQ0.out.Fn q hq).1; have := Htl.out; omega) hVb h HhL.out)
      go_wp2_with fail
      refine HRt.out.mono ?_
      rintro e w5 ⟨rs, ⟨Hrs, rfl⟩, F5, hT5, hF5, hC5⟩
      have HA5 : Hid (Aft T w w5 key gr D F5 L (List.replicate L.length false) (V + st h S) L) := HQ0.out.after hT5 hF5 hC5
      obtain ⟨W8, hW8⟩ : ∃ x, x = V + st h S := ⟨_, rfl⟩
      rw [← hW8] at HA5
      obtain ⟨P8, hP8⟩ : ∃ x, x = c * h := ⟨_, rfl⟩
      have Hle : Hid (W8 ≤ P8) := by show _ ≤ _; rw [hW8, hP8]; exact HSt0.out
      have HP9 : Hid (P8 ≤ 610) := by show _ ≤ _; rw [hP8]; exact Nat.mul_le_mul (show c ≤ 61 by omega) (by have := H9.out; omega : h ≤ 10)
      have Hmul : Hid ((c : Int) * (h : Int) = (P8 : Int)) := by show _ = _; rw [hP8]; exact (Int.natCast_mul _ _).symm
      clear hW8 hP8
      have HLl : Hid (L.length ≤ 100) := by show _ ≤ _; rw [HLn.out]; exact hn2
      clear hT5 hF5 hC5 HRt
      go_wp2_with fail
      refine (CR key L _ _ w5 Hk.out HLl.out (HT0.out.stay Htl.out HA5.out.bel) (HA.out.below HA5.out.bel) (row_tags HA5.out.row H32.out n HLn.out)).mono ?_
      rintro e w6 ⟨⟨h2, rs2, Hh2, Hrs2, rfl⟩, hb6⟩
      obtain rfl : h2 = h := Hh2.out.unique HhL.out
      obtain rfl : rs2 = rs := Hrs2.out.same Hrs.out rfl
      have HA6 : Hid (Aft T w w6 key gr D F5 L (List.replicate L.length false) W8 L) := HA5.out.still C hb6
      have hte := fun W => (arr_eq 34 32 Tryd.underlying34 _ _ rs2 rs2 Hrs.out Hrs.out W).trans (by rw [decide_eq_true rfl] : _ = Result.ok true W)
      clear hb6 Hrs Hrs2 HA5 Hh2
      go_wp2_with fail
      refine (C.work HA6.out.tr).mono ?_
      rintro e w7 ⟨rfl, hb7⟩
      have HA7 : Hid (Aft T w w7 key gr D F5 L (List.replicate L.length false) W8 L) := HA6.out.still C hb7
      clear hb7 HA6
      go_wp2_with fail
      refine (CH (n : Int) w7 (by omega)).mono ?_
      rintro e w8 ⟨⟨h3, Hh3, h39, rfl⟩, hb8⟩
      obtain rfl : h3 = h2 := Hh3.out.unique Hh.out
      have HA8 : Hid (Aft T w w8 key gr D F5 L (List.replicate L.length false) W8 L) := HA7.out.still C hb8
      clear hb8 HA7 Hh3
      have hle := Hle.out
      have hP9 := HP9.out
      have hmul := Hmul.out
      go_wp2_with fail
      refine (C.stale HA8.out.tr h3 HhL.out).mono ?_
      rintro e w9 ⟨rfl, hb9⟩
      rw [st_no]
      have HA9 := Lib.hid (HA8.out.still C hb9)
      clear hb9 HA8
      go_wp2_with fail
      refine (Qknows_any C w9 (HT0.out.stay Htl.out HA9.out.bel)).mono ?_
      rintro e w10 ⟨rfl, hb10⟩
      have HB10 : Hid (Below w.heap.size w w10) := HA9.out.bel.trans (hb10.mono HA9.out.bel.size)
      clear hb10 HA9
      go_wp2
      go_ret
      exact ⟨rfl, HB10.out⟩
end Go.Proofs.YtepbnimheedodaaDoor
