/-
  BOTH TREES, side by side; THE LAW MtreePlays (its regions by wip/mkqplays.py).
-/
import Derived.Test.YtepbnimheedodaaDoorNE
namespace Go.Proofs.YtepbnimheedodaaDoor
open Go.RowKit Mk Mt

/-- The program's tree at D, the reference's at M, both the call's own (from w on); X: other parts of memory that neither has. -/
structure Bth (T : Tree) (w W : World) (X : Nat → Prop) (key : Tg) (D M : Nat) (F G : Nat → Prop) (L : List Tg) (S : List Bool) (V : Nat) (L' : List Tg) (S' : List Bool) (V' : Nat) : Prop where
  tr : T W F D key L S V
  rf : RefAt W G M L' S' V'
  Fn : ∀ k, F k → w.heap.size ≤ k ∧ ¬ X k
  Gn : ∀ k, G k → w.heap.size ≤ k ∧ ¬ X k
  FG : ∀ k, F k → ¬ G k
  Xl : ∀ k, X k → k < W.heap.size
  bel : Below w.heap.size w W
theorem RefAt.lt {w : World} {G : Nat → Prop} {M : Nat} {L : List Tg} {S : List Bool} {V : Nat} (h : RefAt w G M L S V) : ∀ k, G k → k < w.heap.size := by
  obtain ⟨a, b, ca, cb, h⟩ := h
  exact h.lt
section
variable {T : Tree} {w W W' : World} {X : Nat → Prop} {key : Tg} {D M : Nat} {F G F' G' : Nat → Prop} {L L' L2 : List Tg} {S S' S2 : List Bool} {V V' V2 : Nat}
theorem Bth.after (h : Bth T w W X key D M F G L S V L' S' V') (hT : T W' F' D key L2 S2 V2) (hF : ∀ k, F' k → F k ∨ W.heap.size ≤ k) (hC : Chg (fun k _ => F k) W W') : Bth T w W' X key D M F' G L2 S2 V2 L' S' V' :=
  ⟨hT, h.rf.stay hC fun k _ hg hf => h.FG k hf hg, fun k hk => (hF k hk).elim (h.Fn k) fun hl => ⟨Nat.le_trans h.bel.size hl, fun hx => by have := h.Xl k hx; omega⟩, h.Gn,
    fun k hk hg => (hF k hk).elim (fun hf => h.FG k hf hg) fun hl => by have := h.rf.lt k hg; omega, fun k hk => Nat.lt_of_lt_of_le (h.Xl k hk) hC.size, below_chg h.bel h.bel.size hC fun k _ hk => (h.Fn k hk).1⟩
theorem Bth.rafter (C : TreeC T) (h : Bth T w W X key D M F G L S V L' S' V') (hR : RefAt W' G' M L2 S2 V2) (hG : ∀ k, G' k → G k ∨ W.heap.size ≤ k) (hC : Chg (fun k _ => G k) W W') : Bth T w W' X key D M F G' L S V L2 S2 V2 :=
  ⟨C.stay h.tr hC fun k _ hf hg => h.FG k hf hg, hR, h.Fn, fun k hk => (hG k hk).elim (h.Gn k) fun hl => ⟨Nat.le_trans h.bel.size hl, fun hx => by have := h.Xl k hx; omega⟩,
    fun k hf hk => (hG k hk).elim (h.FG k hf) fun hl => by have := C.lt h.tr k hf; omega, fun k hk => Nat.lt_of_lt_of_le (h.Xl k hk) hC.size, below_chg h.bel h.bel.size hC fun k _ hk => (h.Gn k hk).1⟩
theorem Bth.also (C : TreeC T) (h : Bth T w W X key D M F G L S V L' S' V') (hb : Below W.heap.size W W') (Y : Nat → Prop) (hY : ∀ k, Y k → X k ∨ (W.heap.size ≤ k ∧ k < W'.heap.size)) : Bth T w W' Y key D M F G L S V L' S' V' := by
  have h1 : ∀ k, k < W.heap.size → ¬ X k → ¬ Y k := fun k hk hx hy => by
    rcases hY k hy with h | h
    · exact hx h
    · omega
  refine ⟨C.stay h.tr (Chg.below hb fun _ _ => False) fun _ _ _ x => x, h.rf.below hb, fun k hk => ⟨(h.Fn k hk).1, h1 k (C.lt h.tr k hk) (h.Fn k hk).2⟩, fun k hk => ⟨(h.Gn k hk).1, h1 k (h.rf.lt k hk) (h.Gn k hk).2⟩, h.FG, fun k hk => ?_, h.bel.trans (hb.mono h.bel.size)⟩
  rcases hY k hk with h2 | h2
  · exact Nat.lt_of_lt_of_le (h.Xl k h2) hb.size
  · exact h2.2
theorem Bth.still (C : TreeC T) (h : Bth T w W X key D M F G L S V L' S' V') (hb : Below W.heap.size W W') : Bth T w W' X key D M F G L S V L' S' V' := h.also C hb _ fun _ hk => .inl hk
theorem Bth.less {Y : Nat → Prop} (h : Bth T w W (fun q => Y q ∨ X q) key D M F G L S V L' S' V') : Bth T w W Y key D M F G L S V L' S' V' :=
  ⟨h.tr, h.rf, fun k hk => ⟨(h.Fn k hk).1, fun hy => (h.Fn k hk).2 (.inl hy)⟩, fun k hk => ⟨(h.Gn k hk).1, fun hy => (h.Gn k hk).2 (.inl hy)⟩, h.FG, fun k hk => h.Xl k (.inl hk), h.bel⟩
end

/-- The reference's key, its blocks among these. -/
def KeyOn (w : World) (K : Nat → Prop) (p : Value) (key : Tg) : Prop :=
  ∃ g kb kc rb rc cb cc, p = .pointer (some ⟨g, 0, none⟩) ∧ (g < w.heap.size ∧ Hm.Sees w g 0 [.slice (some ⟨kb, 0, none⟩) 64 kc, .slice (some ⟨rb, 0, none⟩) 8 rc, .slice (some ⟨cb, 0, none⟩) 64 cc]
    ∧ kb < w.heap.size ∧ 64 ≤ kc ∧ Hm.Sees w kb 0 ((Hm.fullK key).map Hm.V8) ∧ rb < w.heap.size ∧ Hm.Sees w rb 0 (Hm.Sha.R0.list.map Hm.V32) ∧ cb < w.heap.size ∧ Hm.Sees w cb 0 (Hm.Sha.K0.map Hm.V32)) ∧ K g ∧ K kb ∧ K rb ∧ K cb
theorem KeyOn.of {w : World} {B : Nat} {p : Value} {key : Tg} (h : Hm.KeyFrom w B p key) : KeyOn w (fun k => B ≤ k ∧ k < w.heap.size) p key := by
  obtain ⟨g, kb, kc, rb, rc, cb, cc, e, hh, b1, b2, b3, b4⟩ := h
  exact ⟨g, kb, kc, rb, rc, cb, cc, e, hh, ⟨b1, hh.1⟩, ⟨b2, hh.2.2.1⟩, ⟨b3, hh.2.2.2.2.2.1⟩, ⟨b4, hh.2.2.2.2.2.2.2.1⟩⟩
theorem KeyOn.at {w : World} {K : Nat → Prop} {p : Value} {key : Tg} (h : KeyOn w K p key) : Hm.KeyAt w p key := by
  obtain ⟨g, kb, kc, rb, rc, cb, cc, e, hh, _⟩ := h
  exact ⟨g, kb, kc, rb, rc, cb, cc, e, hh⟩
theorem sees_chg {w w' : World} {b : Nat} {vs : List Value} {X : Nat → Nat → Prop} (h : Hm.Sees w b 0 vs) (hc : Chg X w w') (hb : b < w.heap.size) (hn : ∀ o, ¬ X b o) : Hm.Sees w' b 0 vs := fun j v hv => by
  rw [World.cell?_of_block (hc.block b hb hn)]; exact h j v hv
theorem KeyOn.chg {w w' : World} {K : Nat → Prop} {p : Value} {key : Tg} {X : Nat → Nat → Prop} (h : KeyOn w K p key) (hc : Chg X w w') (hn : ∀ k o, K k → ¬ X k o) : KeyOn w' K p key := by
  obtain ⟨g, kb, kc, rb, rc, cb, cc, e, ⟨h1, h2, h3, h4, h5, h6, h7, h8, h9⟩, k1, k2, k3, k4⟩ := h
  have hs := hc.size
  exact ⟨g, kb, kc, rb, rc, cb, cc, e, ⟨by omega, sees_chg h2 hc h1 fun o => hn _ o k1, by omega, h4, sees_chg h5 hc h3 fun o => hn _ o k2, by omega, sees_chg h7 hc h6 fun o => hn _ o k3, by omega, sees_chg h9 hc h8 fun o => hn _ o k4⟩, k1, k2, k3, k4⟩
theorem KeyOn.below {w w' : World} {K : Nat → Prop} {p : Value} {key : Tg} (h : KeyOn w K p key) (hb : Below w.heap.size w w') : KeyOn w' K p key := h.chg (Chg.below hb fun _ _ => False) fun _ _ _ x => x

section
variable {w : World} {G : Nat → Prop} {M a b ca cb : Nat} {L : List Tg} {S : List Bool} {V i : Nat} {d : Tg}
theorem RefT.below {w' : World} (h : RefT w G M a b ca cb L S V) (hb : Below w.heap.size w w') : RefT w' G M a b ca cb L S V := h.stay (Chg.below hb fun _ _ => False) fun _ _ _ x => x
theorem RefT.fromL (h : RefT w G M a b ca cb L S V) : From w (.slice (some ⟨a, 0, none⟩) L.length ca) (L.map VS) :=
  .inr ⟨a, 0, ca, by rw [List.length_map], h.lt _ h.ga, fun j v hv => h.tags.1 j v hv⟩
theorem RefT.cellL (h : RefT w G M a b ca cb L S V) (hi : i < L.length) : w.cell? ⟨a, i, none⟩ = some (VS (L.getD i [])) :=
  h.tags.head (j := i) (by rw [List.getElem?_map, List.getElem?_eq_getElem hi, List.getD_eq_getElem?_getD, List.getElem?_eq_getElem hi]; rfl)
theorem RefT.freeL (h : RefT w G M a b ca cb L S V) (hi : i < L.length) : w.frozen? ⟨a, i, none⟩ = false := h.tags.headFree (by rw [List.length_map]; exact hi)
theorem RefT.cellS (h : RefT w G M a b ca cb L S V) (hi : i < S.length) : w.cell? ⟨b, i, none⟩ = some (VB (S.getD i false)) :=
  h.sets.head (j := i) (by rw [List.getElem?_map, List.getElem?_eq_getElem hi, List.getD_eq_getElem?_getD, List.getElem?_eq_getElem hi]; rfl)
theorem RefT.freeS (h : RefT w G M a b ca cb L S V) (hi : i < S.length) : w.frozen? ⟨b, i, none⟩ = false := h.sets.headFree (by rw [List.length_map]; exact hi)
theorem RefT.putL (h : RefT w G M a b ca cb L S V) (hi : i < L.length) (hd : d.length = 32) : RefT (w.setCell ⟨a, i, none⟩ (VS d)) G M a b ca cb (L.set i d) S V ∧ Chg (fun k _ => G k) w (w.setCell ⟨a, i, none⟩ (VS d)) := by
  have h1 := h.tags.put i (by rw [List.length_map]; exact hi) (VS d)
  rw [Nat.zero_add, ← List.map_set] at h1
  refine ⟨⟨by rw [List.length_set]; exact h.head.putOff (p := ⟨a, i, none⟩) h.Ma _, h1, h.sets.putOff (p := ⟨a, i, none⟩) (fun e => h.ab e.symm) _, by rw [List.length_set]; exact h.len, fun t ht => ?_, h.Ma, h.Mb, h.ab, h.gM, h.ga, h.gb, fun k hk => by have := h.lt k hk; simpa using this, by rw [List.length_set]; exact h.few, by rw [List.length_set]; exact h.pos⟩, ?_⟩
  · rcases List.mem_or_eq_of_mem_set ht with h2 | h2
    · exact h.t32 t h2
    · rw [h2]; exact hd
  · exact (Chg.refl _ w).setCell (p := ⟨a, i, none⟩) rfl (fun _ => h.ga) (by rw [h.cellL hi]; rfl) _
theorem RefT.putS (h : RefT w G M a b ca cb L S V) (hi : i < S.length) : RefT (w.setCell ⟨b, i, none⟩ (.bool true)) G M a b ca cb L (S.set i true) V ∧ Chg (fun k _ => G k) w (w.setCell ⟨b, i, none⟩ (.bool true)) := by
  have h1 := h.sets.put i (by rw [List.length_map]; exact hi) (.bool true)
  rw [Nat.zero_add, ← List.map_set] at h1
  refine ⟨⟨h.head.putOff (p := ⟨b, i, none⟩) h.Mb _, h.tags.putOff (p := ⟨b, i, none⟩) h.ab _, h1, by rw [List.length_set]; exact h.len, h.t32, h.Ma, h.Mb, h.ab, h.gM, h.ga, h.gb, fun k hk => by have := h.lt k hk; simpa using this, h.few, h.pos⟩, ?_⟩
  exact (Chg.refl _ w).setCell (p := ⟨b, i, none⟩) rfl (fun _ => h.gb) (by rw [h.cellS hi]; rfl) _
end
def ZQ : List Value := .int .i64 0 :: .int .i64 0 :: Hm.Z32
theorem zeroQ (w : World) : (zeroValue 36).run Tryd.prog w = .ok (.agg ZQ.toArray) w := by kernel_rfl

set_option maxRecDepth 100000 in
set_option maxHeartbeats 8000000 in
theorem QPlays_any {T : Tree} (C : TreeC T) (key : Tg) (v : Value) (z : Int) (hz1 : -9223372036854775808 ≤ z) (hz2 : z ≤ 9223372036854775807) (l : List QDeed) (u : Value) (w : World)
    (hA : Arg w v key) (hL : QDeeds w u l) (hT : Hm.Tab w) :
    Calls Tryd.prog 3 #[v, .int .i64 z, u] w fun e w' => e = .returned (.bool true) ∧ Below w.heap.size w w' := by
  obtain ⟨A, cap, rfl⟩ := hA.form
  obtain ⟨B, cap2, rfl, hs, hok⟩ := hL
  obtain ⟨kn, hkn⟩ : ∃ n, n = key.length := ⟨_, rfl⟩
  obtain ⟨m, hm⟩ : ∃ n, n = l.length := ⟨_, rfl⟩
  rw [← hkn] at hA ⊢
  rw [← hm] at hs ⊢
  have HK := Lib.hid (Qknows_any C w hT)
  have HKn := Lib.hid hkn
  have HM := Lib.hid hm
  have HA := Lib.hid hA
  have HS := Lib.hid hs
  have HOk := Lib.hid hok
  have HT0 := Lib.hid hT
  have Htl : Hid (0 < w.heap.size) := hT.1
  clear hkn hm hA hs hok hT
  rcases Nat.lt_or_ge 100 kn with hk1 | hk1
  · go_enter Tryd.func3, Tryd.ntmps3
    go_wp2_with fail
    refine HK.out.mono ?_
    rintro e w1 ⟨rfl, hb⟩
    go_wp2
    go_ret
    exact ⟨rfl, hb⟩
  have Hk : Hid (key.length ≤ 1000) := by show _ ≤ _; rw [← HKn.out]; omega
  by_cases hmid : 100 < z ∧ z ≤ 512
  · obtain ⟨hp1, hp2⟩ := hmid
    go_enter Tryd.func3, Tryd.ntmps3
    go_wp2_with fail
    refine HK.out.mono ?_
    rintro e w1 ⟨rfl, hb⟩
    go_wp2
    go_ret
    exact ⟨rfl, hb⟩
  rcases Nat.lt_or_ge 40 m with hm1 | hm1
  · have HmidF : Hid (¬ (100 < z ∧ z ≤ 512)) := hmid
    rcases Int.lt_or_le 100 z with hp1 | hp1
    · have hp2 : 512 < z := by omega
      clear hmid
      go_enter Tryd.func3, Tryd.ntmps3
      go_wp2_with fail
      refine HK.out.mono ?_
      rintro e w1 ⟨rfl, hb⟩
      go_wp2
      go_ret
      exact ⟨rfl, hb⟩
    · clear hmid
      go_enter Tryd.func3, Tryd.ntmps3
      go_wp2_with fail
      refine HK.out.mono ?_
      rintro e w1 ⟨rfl, hb⟩
      go_wp2
      go_ret
      exact ⟨rfl, hb⟩
  rcases Int.lt_or_le 512 z with hbig | hbig
  · have h100 : 100 < z := by omega
    have HNb := Lib.hid (C.newBad key _ z w Hk.out (.inr hbig) HT0.out HA.out)
    clear hmid HK
    go_enter Tryd.func3, Tryd.ntmps3
    go_wp2_with fail
    refine HNb.out.mono ?_
    rintro e w1 ⟨rfl, hb⟩
    have HK1 := Lib.hid (Qknows_any C w1 (HT0.out.below hb))
    have HB1 := Lib.hid hb
    clear hb HNb
    go_wp2_with fail
    refine HK1.out.mono ?_
    rintro e w2 ⟨rfl, hb⟩
    have HB2 : Hid (Below w.heap.size w w2) := HB1.out.trans (hb.mono HB1.out.size)
    clear hb
    go_wp2
    go_ret
    exact ⟨rfl, HB2.out⟩
  have h100 : z ≤ 100 := by omega
  clear hmid
  rcases Int.lt_or_le z 1 with hlow | hlow
  · have HNb := Lib.hid (C.newBad key _ z w Hk.out (.inl hlow) HT0.out HA.out)
    clear HK
    go_enter Tryd.func3, Tryd.ntmps3
    go_wp2_with fail
    refine HNb.out.mono ?_
    rintro e w1 ⟨rfl, hb⟩
    have HK1 := Lib.hid (Qknows_any C w1 (HT0.out.below hb))
    have HB1 := Lib.hid hb
    clear hb HNb
    go_wp2_with fail
    refine HK1.out.mono ?_
    rintro e w2 ⟨rfl, hb⟩
    have HB2 : Hid (Below w.heap.size w w2) := HB1.out.trans (hb.mono HB1.out.size)
    clear hb
    go_wp2
    go_ret
    exact ⟨rfl, HB2.out⟩
  obtain ⟨n, rfl⟩ : ∃ n : Nat, z = (n : Int) := ⟨z.toNat, by omega⟩
  have hn1 : 1 ≤ n := by omega
  have hn2 : n ≤ 100 := by omega
  obtain ⟨h, hh⟩ := isH_exQ n hn2
  have Hh := Lib.hid hh.1
  have H9 : Hid (h ≤ 9) := hh.2
  clear hz1 hz2 hh HK hbig h100 hlow
  have HNew := Lib.hid (C.newOk key _ n w Hk.out hn1 hn2 HT0.out HA.out)
  go_enter Tryd.func3, Tryd.ntmps3
  go_wp2_with fail
  refine HNew.out.mono ?_
  rintro e w1 ⟨D, F0, rfl, hT1, hF1, hb1⟩
  have HT1 := Lib.hid hT1
  have HF1 := Lib.hid hF1
  have HB1 := Lib.hid hb1
  clear hT1 hF1 hb1 HNew
  go_wp2_with fail
  refine (Hm.New_from _ key (by have := Hk.out; omega) w1 (HA.out.below HB1.out)).mono ?_
  rintro e w2 ⟨pk, rfl, hk2, hb2⟩
  have HK2 := Lib.hid (KeyOn.of hk2)
  have HB2 := Lib.hid hb2
  obtain ⟨gk, hgk⟩ : ∃ g, pk = .pointer (some ⟨g, 0, none⟩) := by
    obtain ⟨g, _, _, _, _, _, _, e, _⟩ := hk2
    exact ⟨g, e⟩
  subst hgk
  clear hk2 hb2
  go_wp2_with fail
  refine (RQNew_any n hn1 (by omega) w2).mono ?_
  rintro e w3 ⟨M, G0, rfl, hR3, hG3, hb3⟩
  obtain ⟨KS, hKd⟩ : ∃ K : Nat → Prop, K = fun k => w1.heap.size ≤ k ∧ k < w2.heap.size := ⟨_, rfl⟩
  obtain ⟨pk, hpk⟩ : ∃ p : Value, p = .pointer (some ⟨gk, 0, none⟩) := ⟨_, rfl⟩
  have HQ0 : Hid (Bth T w w3 KS key D M F0 G0 (List.replicate n zero) (List.replicate n false) 0 (List.replicate n zero) (List.replicate n false) 0) := by
    have hb23 : Below w1.heap.size w1 w3 := HB2.out.trans (hb3.mono HB2.out.size)
    have s1 := HB1.out.size
    have s2 := HB2.out.size
    have s3 := hb3.size
    refine ⟨C.stay HT1.out (Chg.below hb23 fun _ _ => False) fun _ _ _ x => x, hR3, fun k hk => ⟨HF1.out k hk, fun hx => ?_⟩, fun k hk => ⟨by have := hG3 k hk; omega, fun hx => ?_⟩, fun k hf hg => ?_, fun k hx => ?_, HB1.out.trans (hb23.mono HB1.out.size)⟩
    · rw [hKd] at hx; have h1 := hx.1; have := C.lt HT1.out k hk; omega
    · rw [hKd] at hx; have h1 := hx.2; have := hG3 k hk; omega
    · have := C.lt HT1.out k hf; have := hG3 k hg; omega
    · rw [hKd] at hx; have h1 := hx.2; omega
  have HK0 : Hid (KeyOn w3 KS pk key) := by rw [hKd, hpk]; exact HK2.out.below hb3
  have HPk := Lib.hid hpk
  have HL0 : Hid ((List.replicate n zero).length = n) := by show _ = _; rw [List.length_replicate]
  clear hR3 hG3 hb3 HT1 HF1 HB1 HK2 HB2 hKd hpk
  rw [← HPk.out]
  go_wp2
  go_loopw [11] (fun i wr => ∃ (k : Nat) (F G : Nat → Prop) (L : List Tg) (S : List Bool) (V : Nat), k ≤ m ∧ i = .int .i64 k ∧ V ≤ k * 1000 ∧ Hid (Bth T w wr KS key D M F G L S V L S V) ∧ Hid (KeyOn wr KS pk key) ∧ Hid (L.length = n)) (fun i _ => m - (intOf i).toNat)
  case atStart => exact ⟨0, F0, G0, _, _, 0, by omega, rfl, by omega, HQ0, HK0, HL0⟩
  case round =>
    obtain ⟨k, F, G, L, S, V, hk, rfl, hV, HQ, HKq, HLn⟩ := hrel
    clear HQ0 HK0 HL0
    by_cases hlt : k < m
    · obtain ⟨b, o, rfl, hb, hsee⟩ := HS.out (by omega)
      obtain ⟨dd, hdd⟩ : ∃ d, l[k]? = some d := ⟨_, List.getElem?_eq_getElem (by rw [← HM.out]; exact hlt)⟩
      have hdok := HOk.out dd (List.mem_of_getElem? hdd)
      have hsd := hsee k dd hdd
      obtain ⟨what, x, d⟩ := dd
      have Hd : Hid (d.length = 32) := hdok.t32
      have H32 : Hid (∀ t ∈ L, t.length = 32) := (C.len HQ.out.tr).2.2.2
      have hxlo : -9223372036854775808 ≤ x := hdok.lo
      have hxhi : x ≤ 9223372036854775807 := hdok.hi
      obtain ⟨ts, hts⟩ : ∃ ts, ts = d.map V8 := ⟨_, rfl⟩
      have Hts : Hid (Vec 32 d ts) := ⟨hts, Hd.out⟩
      have Htn : Hid (ts.length = 32) := Hts.out.len
      obtain ⟨cq, hcq⟩ : ∃ cs : List Value, cs = .int .i64 what :: .int .i64 x :: ts := ⟨_, rfl⟩
      have Hcn : Hid (cq.length = 34) := by show _ = _; rw [hcq, List.length_cons, List.length_cons, Htn.out]
      have Hcz : Hid (cq.toArray.size = 34) := Hcn.out
      have Hco : Hid (cq.toArray.all (·.oneCell') = true) := by
        show _ = _
        rw [Array.all_eq_true_iff_forall_mem]
        intro y hy
        rw [hcq, hts] at hy
        simp only [List.mem_toArray, List.mem_cons] at hy
        rcases hy with rfl | rfl | hy
        · rfl
        · rfl
        · exact oneC8 d y hy
      have HLd : Hid (wr.rangeAt b (o + k * 34) cq) := fun j v hv => by
        rw [World.cell?_of_block (w := w) (HQ.out.bel.block b hb)]
        refine hsd j v ?_
        rw [hcq, hts] at hv; exact hv
      have hz := zeroQ
      obtain ⟨bx, hbx⟩ : ∃ q, q = wr.heap.size := ⟨_, rfl⟩
      obtain ⟨wx, hwx⟩ : ∃ X, X = (wr.alloc (.cells ZQ.toArray 36)).setRow wr.heap.size cq.toArray := ⟨_, rfl⟩
      have hbw : Below wr.heap.size wr wx := by rw [hwx]; exact below_setRow' ((Below.refl _ _).alloc (Nat.le_refl _) _) (Nat.le_refl _) cq.toArray
      have hX : Row wx bx 36 cq := by rw [hwx, hbx]; exact (Row.new wr 36 ZQ).whole cq
      have HKx : Hid (KeyOn wx KS pk key) := HKq.out.below hbw
      have HBx : Hid (Bth T w wx (fun q => KS q ∨ q = bx) key D M F G L S V L S V) := HQ.out.also C hbw _ fun q hq => hq.imp id fun e => by
        have := hX.lt
        omega
      have HX : Hid (Row wx bx 36 cq) := hX
      have Hq1 : Hid (cq[1]? = some (.int .i64 x)) := by show _ = _; rw [hcq]; rfl
      have HXt : Hid (∀ X, Row X bx 36 cq → X.rangeAt bx 2 ts) := fun X h => h.piece 2 ts (by rw [hcq]; exact List.take_length)
      have c0 : wx.cell? ⟨bx, 0, none⟩ = some (.int .i64 what) := (hX.cell 0).trans (by rw [hcq]; rfl)
      have c1 : wx.cell? ⟨bx, 1, none⟩ = some (.int .i64 x) := (hX.cell 1).trans (by rw [hcq]; rfl)
      obtain ⟨s, hss⟩ : ∃ s, s = strB d := ⟨_, rfl⟩
      have HSs : Hid (strB d = s) := hss.symm
      have HXc : Hid (∀ X, Row X bx 36 cq → (convert 22 9 (.slice (some ⟨bx, 2, none⟩) 32 32)).run Tryd.prog X = .ok (.string s) X) := fun X h => by
        rw [hss]
        refine conv_arg (.inr ⟨bx, 2, 32, by rw [Hd.out], h.lt, by rw [Hd.out]; exact Nat.le_refl _, fun j u hu => ?_⟩)
        exact HXt.out X h j u (by rw [hts]; exact hu)
      have Hbx := Lib.hid hbx
      have Hwx := Lib.hid hwx
      clear hss hsee hdd hdok hsd hts hX hbw HQ HKq hcq hbx hwx
      by_cases hw0 : what = 0
      · subst hw0
        rcases Int.lt_or_le x 0 with hneg | hnn
        · have hbad : x < 0 ∨ (n : Int) ≤ x := .inl hneg
          as_aux_lemma =>
            go_wp2_with (first | (refine wpList_load_mid rfl 36 (.tmp 74) rfl b (o + k * 34) rfl cq _ HLd.out Tryd.underlying36 rfl (by rw [Hcn.out]; kernel_rfl) ?_) | (refine wpList_store_row rfl 36 (.tmp 12) (.tmp 75) rfl wr.heap.size cq.toArray rfl rfl 36 _ (Row.new wr _ ZQ) (by rw [Hcz.out]; kernel_rfl) (by rw [Hcz.out]; rfl) Hco.out ?_; rw [← Hwx.out, ← Hbx.out]) | (refine wpList_load_mid rfl 34 (.tmp 130) rfl bx 2 rfl ts _ (HXt.out wx HX.out) Tryd.underlying34 rfl (by rw [Htn.out]; kernel_rfl) ?_))
            refine (C.setBad HBx.out.tr x d ts (by rw [HLn.out]; exact hbad) Hts.out).mono ?_
            rintro e w3 ⟨rfl, hb3⟩
            have HK3 : Hid (KeyOn w3 KS pk key) := HKx.out.below hb3
            have HB3 : Hid (Bth T w w3 (fun q => KS q ∨ q = bx) key D M F G L S V L S V) := HBx.out.still C hb3
            clear hb3 HX HKx HBx
            obtain ⟨E, hE⟩ : ∃ E, E = st h S := ⟨_, rfl⟩
            have HE := Lib.hid hE
            clear hE
            have HKeep : Hid (∀ X, Below w3.heap.size w3 X → X.cell? ⟨M, 2, none⟩ = some (.int .i64 ((V : Nat) : Int))) := fun X hX => (HB3.out.rf.below hX).cell2
            go_wp2_with fail
            have hC : Below w3.heap.size w3 w3.drew := below_drewN (Below.refl _ _) 1
            refine wp_region_held_drew (S := (fun X => X.cell? ⟨M, 2, none⟩ = some (.int .i64 ((V : Nat) : Int)))) (by kernel_rfl) (HKeep.out _ hC) (fun hHeld => ?_)
            generalize w3.drew = w3d at *
            refine wpAnyH_take (i := 0) (oi := ⟨some 178, _, _, _, _, _⟩) (v := ?_) rfl (by kernel_rfl) (by kernel_rfl) (by kernel_rfl) (fun _ _ _ h => h) (Or.inl ⟨by rfl, ?_⟩) hHeld ?_
            rotate_left
            · intro w hSw
              go_simp
              with_reducible rfl
            try go_frame
            refine wpAnyH_take (i := 2) (oi := ⟨some 180, _, _, _, _, _⟩) (v := ?_) rfl (by kernel_rfl) (by kernel_rfl) (by kernel_rfl) (fun _ _ _ h => h) (Or.inl ⟨by rfl, ?_⟩) hHeld ?_
            rotate_left
            · intro w hSw
              go_simp
              with_reducible rfl
            try go_frame
            refine wpAnyH_ready (rs := [1]) (by kernel_rfl) (by simp) ?_
            refine AllReadyH.cons (o := ⟨some 179, _, _, _, _, _⟩) rfl (fun K hK => ?_) AllReadyH.nil
            go_simp
            go_at_call 14
            refine (C.stale (C.stay HB3.out.tr (Chg.below hC fun _ _ => False) fun _ _ _ x => x) h (by rw [HLn.out]; exact Hh.out)).mono ?_
            rintro e w3d_s1 ⟨rfl, hb⟩
            replace hC := hC.trans (hb.mono hC.size)
            refine hK.out _ _ (HKeep.out _ hC) (fun hHeld => ?_)
            clear hK K hb 
            rw [← HE.out]
            try go_frame
            refine wpAnyH_ready (rs := [3]) (by kernel_rfl) (by simp) ?_
            refine AllReadyH.cons (o := ⟨some 181, _, _, _, _, _⟩) rfl (fun K hK => ?_) AllReadyH.nil
            go_simp
            go_at_call 15
            refine (RQStale_any (HB3.out.rf.below hC) h (by rw [HLn.out]; exact Hh.out)).mono ?_
            rintro e w3d_s1_s2 ⟨rfl, hb⟩
            replace hC := hC.trans (hb.mono hC.size)
            refine hK.out _ _ (HKeep.out _ hC) (fun hHeld => ?_)
            clear hK K hb 
            rw [← HE.out]
            try go_frame
            refine wpAnyH_take (i := 4) (oi := ⟨some 182, _, _, _, _, _⟩) (v := ?_) rfl (by kernel_rfl) (by kernel_rfl) (by kernel_rfl) (fun _ _ _ h => h) (Or.inl ⟨by rfl, ?_⟩) hHeld ?_
            rotate_left
            · intro w hSw
              go_simp
              with_reducible rfl
            try go_frame
            refine wpAnyH_take (i := 5) (oi := ⟨some 183, _, _, _, _, _⟩) (v := ?_) rfl (by kernel_rfl) (by kernel_rfl) (by kernel_rfl) (fun _ _ _ h => h) (Or.inl ⟨by rfl, ?_⟩) hHeld ?_
            rotate_left
            · intro w hSw
              go_simp
              with_reducible rfl
            try go_frame
            refine wpAnyH_take (i := 6) (oi := ⟨some 184, _, _, _, _, _⟩) (v := ?_) rfl (by kernel_rfl) (by kernel_rfl) (by kernel_rfl) (fun _ _ _ h => h) (Or.inl ⟨by rfl, ?_⟩) hHeld ?_
            rotate_left
            · intro w hSw
              go_simp
              with_reducible rfl
            try go_frame
            refine wpAnyH_take (i := 8) (oi := ⟨some 186, _, _, _, _, _⟩) (v := ?_) rfl (by kernel_rfl) (by kernel_rfl) (by kernel_rfl) (fun _ _ _ h => h) (Or.inl ⟨by rfl, ?_⟩) hHeld ?_
            rotate_left
            · intro w hSw
              go_simp
              with_reducible rfl
            try go_frame
            refine wpAnyH_take (i := 9) (oi := ⟨some 187, _, _, _, _, _⟩) (v := ?_) rfl (by kernel_rfl) (by kernel_rfl) (by kernel_rfl) (fun _ _ _ h => h) (Or.inl ⟨by rfl, ?_⟩) hHeld ?_
            rotate_left
            · intro w hSw
              go_simp
              with_reducible rfl
            try go_frame
            refine wpAnyH_take (i := 10) (oi := ⟨some 188, _, _, _, _, _⟩) (v := ?_) rfl (by kernel_rfl) (by kernel_rfl) (by kernel_rfl) (fun _ _ _ h => h) (Or.inl ⟨by rfl, ?_⟩) hHeld ?_
            rotate_left
            · intro w hSw
              go_simp
              with_reducible rfl
            try go_frame
            refine wpAnyH_take (i := 11) (oi := ⟨some 189, _, _, _, _, _⟩) (v := ?_) rfl (by kernel_rfl) (by kernel_rfl) (by kernel_rfl) (fun _ _ _ h => h) (Or.inl ⟨by rfl, ?_⟩) hHeld ?_
            rotate_left
            · intro w hSw
              have hc := hSw
              go_simp
              with_reducible rfl
            try go_frame
            refine wpAnyH_ready (rs := [7]) (by kernel_rfl) (by simp) ?_
            refine AllReadyH.cons (o := ⟨some 185, _, _, _, _, _⟩) rfl (fun K hK => ?_) AllReadyH.nil
            go_simp
            go_at_call 16
            refine (C.work (C.stay HB3.out.tr (Chg.below hC fun _ _ => False) fun _ _ _ x => x)).mono ?_
            rintro e w3d_s1_s2_s3 ⟨rfl, hb⟩
            replace hC := hC.trans (hb.mono hC.size)
            refine hK.out _ _ (HKeep.out _ hC) (fun hHeld => ?_)
            clear hK K hb 
            try go_frame
            refine wpAnyH_take (i := 12) (oi := ⟨some 190, _, _, _, _, _⟩) (v := ?_) rfl (by kernel_rfl) (by kernel_rfl) (by kernel_rfl) (fun _ _ _ h => h) (Or.inl ⟨by rfl, ?_⟩) hHeld ?_
            rotate_left
            · intro w hSw
              go_simp
              with_reducible rfl
            try go_frame
            refine wpAnyH_take (i := 13) (oi := ⟨some 191, _, _, _, _, _⟩) (v := ?_) rfl (by kernel_rfl) (by kernel_rfl) (by kernel_rfl) (fun _ _ _ h => h) (Or.inl ⟨by rfl, ?_⟩) hHeld ?_
            rotate_left
            · intro w hSw
              go_simp
              with_reducible rfl
            try go_frame
            refine wpAnyH_done (by kernel_rfl) ?_ _
            have HBj : Hid (Bth T w w3d_s1_s2_s3 KS key D M F G L S V L S V) := (HB3.out.still C hC).less
            have HKj : Hid (KeyOn w3d_s1_s2_s3 KS pk key) := HK3.out.below hC
            clear hHeld hC HKeep
            go_wp2
            go_roundw
            case rel => exact ⟨k + 1, F, G, L, S, V, by omega, by go_num, by omega, HBj, HKj, by show _ = _; rw [HLn.out]⟩
            case measure => rw [iO9, show intOf (.int .i64 (k : Int)) = (k : Int) from rfl]; omega
        rcases Int.lt_or_le x (n : Int) with hfit | hge
        · obtain ⟨i, rfl⟩ : ∃ i : Nat, x = (i : Int) := ⟨x.toNat, by omega⟩
          have hin : i < n := by omega
          clear hnn hfit hxlo hxhi
          as_aux_lemma =>
            go_wp2_with (first | (refine wpList_load_mid rfl 36 (.tmp 74) rfl b (o + k * 34) rfl cq _ HLd.out Tryd.underlying36 rfl (by rw [Hcn.out]; kernel_rfl) ?_) | (refine wpList_store_row rfl 36 (.tmp 12) (.tmp 75) rfl wr.heap.size cq.toArray rfl rfl 36 _ (Row.new wr _ ZQ) (by rw [Hcz.out]; kernel_rfl) (by rw [Hcz.out]; rfl) Hco.out ?_; rw [← Hwx.out, ← Hbx.out]) | (refine wpList_load_mid rfl 34 (.tmp 130) rfl bx 2 rfl ts _ (HXt.out wx HX.out) Tryd.underlying34 rfl (by rw [Htn.out]; kernel_rfl) ?_))
            refine (C.setOk HBx.out.tr i d ts (by rw [HLn.out]; exact hin) Hts.out).mono ?_
            rintro e w3 ⟨rfl, F3, hT3, hF3, hC3⟩
            have HX3 : Hid (Row w3 bx 36 cq) := HX.out.chg hC3 fun _ hf => (HBx.out.Fn bx hf).2 (.inr rfl)
            have HK3 : Hid (KeyOn w3 KS pk key) := HKx.out.chg hC3 fun q _ hq hf => (HBx.out.Fn q hf).2 (.inl hq)
            have HB3 : Hid (Bth T w w3 (fun q => KS q ∨ q = bx) key D M F3 G (L.set i d) (S.set i true) V L S V) := HBx.out.after hT3 hF3 hC3
            obtain ⟨a, b2, ca, cb, hR⟩ := HB3.out.rf
            have HR := Lib.hid hR
            clear hT3 hF3 hC3 hR HX HKx HBx
            go_wp2_with fail
            have HKeep : Hid (∀ X, RefT X G M a b2 ca cb L S V ∨ RefT X G M a b2 ca cb (L.set i d) S V → Row X bx 36 cq → X.cell? ⟨M, 0, none⟩ = some (.slice (some ⟨a, 0, none⟩) n ca) ∧ X.cell? ⟨bx, 1, none⟩ = some (.int .i64 (i : Int)) ∧ (convert 22 9 (.slice (some ⟨bx, 2, none⟩) 32 32)).run Tryd.prog X = .ok (.string s) X) := fun X h1 h2 =>
              ⟨by rcases h1 with h1 | h1; exact (by have := h1.c0; rwa [HLn.out] at this); exact (by have := h1.c0; rwa [List.length_set, HLn.out] at this), (h2.cell 1).trans Hq1.out, HXc.out X h2⟩
            have HRd : Hid (RefT w3.drew G M a b2 ca cb L S V) := HR.out.below (below_drewN (Below.refl _ _) 1)
            have HXd : Hid (Row w3.drew bx 36 cq) := HX3.out.drew
            have HBd : Hid (Bth T w w3.drew (fun q => KS q ∨ q = bx) key D M F3 G (L.set i d) (S.set i true) V L S V) := HB3.out.still C (below_drewN (Below.refl _ _) 1)
            have HKd : Hid (KeyOn w3.drew KS pk key) := HK3.out.below (below_drewN (Below.refl _ _) 1)
            refine wp_region_held_drew (S := (fun X => X.cell? ⟨M, 0, none⟩ = some (.slice (some ⟨a, 0, none⟩) n ca) ∧ X.cell? ⟨bx, 1, none⟩ = some (.int .i64 (i : Int)) ∧ (convert 22 9 (.slice (some ⟨bx, 2, none⟩) 32 32)).run Tryd.prog X = .ok (.string s) X)) (by kernel_rfl) (HKeep.out _ (.inl HRd.out) HXd.out) (fun hHeld => ?_)
            generalize w3.drew = w4 at *
            clear HR HX3 HB3 HK3
            refine wpAnyH_take (i := 0) (oi := ⟨some 134, _, _, _, _, _⟩) (v := ?_) rfl (by kernel_rfl) (by kernel_rfl) (by kernel_rfl) (fun _ _ _ h => h) (Or.inl ⟨by rfl, ?_⟩) hHeld ?_
            rotate_left
            · intro w hSw
              go_simp
              with_reducible rfl
            try go_frame
            refine wpAnyH_take (i := 1) (oi := ⟨some 135, _, _, _, _, _⟩) (v := ?_) rfl (by kernel_rfl) (by kernel_rfl) (by kernel_rfl) (fun _ _ _ h => h) (Or.inl ⟨by rfl, ?_⟩) hHeld ?_
            rotate_left
            · intro w hSw
              go_simp
              with_reducible rfl
            try go_frame
            refine wpAnyH_take (i := 2) (oi := ⟨some 136, _, _, _, _, _⟩) (v := ?_) rfl (by kernel_rfl) (by kernel_rfl) (by kernel_rfl) (fun _ _ _ h => h) (Or.inl ⟨by rfl, ?_⟩) hHeld ?_
            rotate_left
            · intro w hSw
              go_simp
              with_reducible rfl
            try go_frame
            refine wpAnyH_take (i := 3) (oi := ⟨some 137, _, _, _, _, _⟩) (v := ?_) rfl (by kernel_rfl) (by kernel_rfl) (by kernel_rfl) (fun _ _ _ h => h) (Or.inl ⟨by rfl, ?_⟩) hHeld ?_
            rotate_left
            · intro w hSw
              have hc := hSw.1
              go_simp
              with_reducible rfl
            try go_frame
            refine wpAnyH_take (i := 4) (oi := ⟨some 138, _, _, _, _, _⟩) (v := ?_) rfl (by kernel_rfl) (by kernel_rfl) (by kernel_rfl) (fun _ _ _ h => h) (Or.inl ⟨by rfl, ?_⟩) hHeld ?_
            rotate_left
            · intro w hSw
              go_simp
              with_reducible rfl
            try go_frame
            refine wpAnyH_take (i := 5) (oi := ⟨some 139, _, _, _, _, _⟩) (v := ?_) rfl (by kernel_rfl) (by kernel_rfl) (by kernel_rfl) (fun _ _ _ h => h) (Or.inl ⟨by rfl, ?_⟩) hHeld ?_
            rotate_left
            · intro w hSw
              have hc := hSw.2.1
              go_simp
              with_reducible rfl
            try go_frame
            refine wpAnyH_take (i := 6) (oi := ⟨some 140, _, _, _, _, _⟩) (v := ?_) rfl (by kernel_rfl) (by kernel_rfl) (by kernel_rfl) (fun _ _ _ h => h) (Or.inl ⟨by rfl, ?_⟩) hHeld ?_
            rotate_left
            · intro w hSw
              go_simp
              with_reducible rfl
            try go_frame
            refine wpAnyH_take (i := 7) (oi := ⟨some 141, _, _, _, _, _⟩) (v := ?_) rfl (by kernel_rfl) (by kernel_rfl) (by kernel_rfl) (fun _ _ _ h => h) (Or.inl ⟨by rfl, ?_⟩) hHeld ?_
            rotate_left
            · intro w hSw
              go_simp
              with_reducible rfl
            try go_frame
            refine wpAnyH_take (i := 8) (oi := ⟨some 142, _, _, _, _, _⟩) (v := ?_) rfl (by kernel_rfl) (by kernel_rfl) (by kernel_rfl) (fun _ _ _ h => h) (Or.inl ⟨by rfl, ?_⟩) hHeld ?_
            rotate_left
            · intro w hSw
              have hc := hSw.2.2
              go_simp
              with_reducible rfl
            try go_frame
            refine wpAnyH_take (i := 9) (oi := ⟨some 143, _, _, _, _, _⟩) (v := ?_) rfl (by kernel_rfl) (by kernel_rfl) (by kernel_rfl) (fun _ _ _ h => h) (Or.inl ⟨by rfl, ?_⟩) hHeld ?_
            rotate_left
            · intro w hSw
              have hin2 : 0 ≤ (i : Int) ∧ (i : Int) < (n : Int) := by omega
              go_simp
              with_reducible rfl
            try go_frame
            refine wpAnyH_ready (rs := [10]) (by kernel_rfl) (by simp) ?_
            refine AllReadyH.cons (o := ⟨none, _, _, _, _, _⟩) rfl (fun K hK => ?_) AllReadyH.nil
            obtain ⟨hR5, hC5⟩ := HRd.out.putL (i := i) (d := d) (by rw [HLn.out]; exact hin) Hd.out
            have cs := HRd.out.cellL (i := i) (by rw [HLn.out]; exact hin)
            have fs := HRd.out.freeL (i := i) (by rw [HLn.out]; exact hin)
            rw [VS, HSs.out] at hR5 hC5
            go_simp
            have HX5 : Hid (Row (w4.setCell ⟨a, i, none⟩ (.string s)) bx 36 cq) := HXd.out.chg hC5 fun _ hg => (HBd.out.Gn bx hg).2 (.inr rfl)
            have HK5 : Hid (KeyOn (w4.setCell ⟨a, i, none⟩ (.string s)) KS pk key) := HKd.out.chg hC5 fun q _ hq hg => (HBd.out.Gn q hg).2 (.inl hq)
            have HB5 : Hid (Bth T w (w4.setCell ⟨a, i, none⟩ (.string s)) (fun q => KS q ∨ q = bx) key D M F3 G (L.set i d) (S.set i true) V (L.set i d) S V) := HBd.out.rafter C ⟨a, b2, ca, cb, hR5⟩ (fun _ hk => .inl hk) hC5
            have HR5 := Lib.hid hR5
            clear hR5 hC5 cs fs
            refine hK.out _ _ (HKeep.out _ (.inr HR5.out) HX5.out) (fun hHeld => ?_)
            clear hK K
            try go_frame
            refine wpAnyH_done (by kernel_rfl) ?_ _
            clear hHeld HKeep HRd HXd HBd HKd
            generalize w4.setCell ⟨a, i, none⟩ (.string s) = w5 at *
            go_wp2_with fail
            have HKeep : Hid (∀ X, RefT X G M a b2 ca cb (L.set i d) S V ∨ RefT X G M a b2 ca cb (L.set i d) (S.set i true) V → Row X bx 36 cq → X.cell? ⟨M, 1, none⟩ = some (.slice (some ⟨b2, 0, none⟩) n cb) ∧ X.cell? ⟨bx, 1, none⟩ = some (.int .i64 (i : Int))) := fun X h1 h2 =>
              ⟨by rcases h1 with h1 | h1 <;> (have := h1.c1; rwa [List.length_set, HLn.out] at this), (h2.cell 1).trans Hq1.out⟩
            have HRd : Hid (RefT w5.drew G M a b2 ca cb (L.set i d) S V) := HR5.out.below (below_drewN (Below.refl _ _) 1)
            have HXd : Hid (Row w5.drew bx 36 cq) := HX5.out.drew
            have HBd : Hid (Bth T w w5.drew (fun q => KS q ∨ q = bx) key D M F3 G (L.set i d) (S.set i true) V (L.set i d) S V) := HB5.out.still C (below_drewN (Below.refl _ _) 1)
            have HKd : Hid (KeyOn w5.drew KS pk key) := HK5.out.below (below_drewN (Below.refl _ _) 1)
            refine wp_region_held_drew (S := (fun X => X.cell? ⟨M, 1, none⟩ = some (.slice (some ⟨b2, 0, none⟩) n cb) ∧ X.cell? ⟨bx, 1, none⟩ = some (.int .i64 (i : Int)))) (by kernel_rfl) (HKeep.out _ (.inl HRd.out) HXd.out) (fun hHeld => ?_)
            generalize w5.drew = w6 at *
            clear HR5 HX5 HB5 HK5
            refine wpAnyH_take (i := 0) (oi := ⟨some 144, _, _, _, _, _⟩) (v := ?_) rfl (by kernel_rfl) (by kernel_rfl) (by kernel_rfl) (fun _ _ _ h => h) (Or.inl ⟨by rfl, ?_⟩) hHeld ?_
            rotate_left
            · intro w hSw
              go_simp
              with_reducible rfl
            try go_frame
            refine wpAnyH_take (i := 1) (oi := ⟨some 145, _, _, _, _, _⟩) (v := ?_) rfl (by kernel_rfl) (by kernel_rfl) (by kernel_rfl) (fun _ _ _ h => h) (Or.inl ⟨by rfl, ?_⟩) hHeld ?_
            rotate_left
            · intro w hSw
              go_simp
              with_reducible rfl
            try go_frame
            refine wpAnyH_take (i := 2) (oi := ⟨some 146, _, _, _, _, _⟩) (v := ?_) rfl (by kernel_rfl) (by kernel_rfl) (by kernel_rfl) (fun _ _ _ h => h) (Or.inl ⟨by rfl, ?_⟩) hHeld ?_
            rotate_left
            · intro w hSw
              go_simp
              with_reducible rfl
            try go_frame
            refine wpAnyH_take (i := 3) (oi := ⟨some 147, _, _, _, _, _⟩) (v := ?_) rfl (by kernel_rfl) (by kernel_rfl) (by kernel_rfl) (fun _ _ _ h => h) (Or.inl ⟨by rfl, ?_⟩) hHeld ?_
            rotate_left
            · intro w hSw
              have hc := hSw.1
              go_simp
              with_reducible rfl
            try go_frame
            refine wpAnyH_take (i := 4) (oi := ⟨some 148, _, _, _, _, _⟩) (v := ?_) rfl (by kernel_rfl) (by kernel_rfl) (by kernel_rfl) (fun _ _ _ h => h) (Or.inl ⟨by rfl, ?_⟩) hHeld ?_
            rotate_left
            · intro w hSw
              go_simp
              with_reducible rfl
            try go_frame
            refine wpAnyH_take (i := 5) (oi := ⟨some 149, _, _, _, _, _⟩) (v := ?_) rfl (by kernel_rfl) (by kernel_rfl) (by kernel_rfl) (fun _ _ _ h => h) (Or.inl ⟨by rfl, ?_⟩) hHeld ?_
            rotate_left
            · intro w hSw
              have hc := hSw.2
              go_simp
              with_reducible rfl
            try go_frame
            refine wpAnyH_take (i := 6) (oi := ⟨some 150, _, _, _, _, _⟩) (v := ?_) rfl (by kernel_rfl) (by kernel_rfl) (by kernel_rfl) (fun _ _ _ h => h) (Or.inl ⟨by rfl, ?_⟩) hHeld ?_
            rotate_left
            · intro w hSw
              have hin2 : 0 ≤ (i : Int) ∧ (i : Int) < (n : Int) := by omega
              go_simp
              with_reducible rfl
            try go_frame
            refine wpAnyH_ready (rs := [7]) (by kernel_rfl) (by simp) ?_
            refine AllReadyH.cons (o := ⟨none, _, _, _, _, _⟩) rfl (fun K hK => ?_) AllReadyH.nil
            have hiS : i < S.length := by have h1 := HRd.out.len; rw [List.length_set, HLn.out] at h1; omega
            obtain ⟨hR7, hC7⟩ := HRd.out.putS (i := i) hiS
            have cs := HRd.out.cellS (i := i) hiS
            have fs := HRd.out.freeS (i := i) hiS
            go_simp
            have HX7 : Hid (Row (w6.setCell ⟨b2, i, none⟩ (.bool true)) bx 36 cq) := HXd.out.chg hC7 fun _ hg => (HBd.out.Gn bx hg).2 (.inr rfl)
            have HK7 : Hid (KeyOn (w6.setCell ⟨b2, i, none⟩ (.bool true)) KS pk key) := HKd.out.chg hC7 fun q _ hq hg => (HBd.out.Gn q hg).2 (.inl hq)
            have HB7 : Hid (Bth T w (w6.setCell ⟨b2, i, none⟩ (.bool true)) (fun q => KS q ∨ q = bx) key D M F3 G (L.set i d) (S.set i true) V (L.set i d) (S.set i true) V) := HBd.out.rafter C ⟨a, b2, ca, cb, hR7⟩ (fun _ hk => .inl hk) hC7
            have HR7 := Lib.hid hR7
            clear hR7 hC7 cs fs hiS
            refine hK.out _ _ (HKeep.out _ (.inr HR7.out) HX7.out) (fun hHeld => ?_)
            clear hK K
            try go_frame
            refine wpAnyH_done (by kernel_rfl) ?_ _
            clear hHeld HKeep HRd HXd HBd HKd HR7 HX7
            generalize w6.setCell ⟨b2, i, none⟩ (.bool true) = w7 at *
            obtain ⟨E, hE⟩ : ∃ E, E = st h (S.set i true) := ⟨_, rfl⟩
            have HE := Lib.hid hE
            clear hE
            have HKeep : Hid (∀ X, Below w7.heap.size w7 X → X.cell? ⟨M, 2, none⟩ = some (.int .i64 ((V : Nat) : Int))) := fun X hX => (HB7.out.rf.below hX).cell2
            go_wp2_with fail
            have hC : Below w7.heap.size w7 w7.drew := below_drewN (Below.refl _ _) 1
            refine wp_region_held_drew (S := (fun X => X.cell? ⟨M, 2, none⟩ = some (.int .i64 ((V : Nat) : Int)))) (by kernel_rfl) (HKeep.out _ hC) (fun hHeld => ?_)
            generalize w7.drew = w7d at *
            refine wpAnyH_take (i := 0) (oi := ⟨some 178, _, _, _, _, _⟩) (v := ?_) rfl (by kernel_rfl) (by kernel_rfl) (by kernel_rfl) (fun _ _ _ h => h) (Or.inl ⟨by rfl, ?_⟩) hHeld ?_
            rotate_left
            · intro w hSw
              go_simp
              with_reducible rfl
            try go_frame
            refine wpAnyH_take (i := 2) (oi := ⟨some 180, _, _, _, _, _⟩) (v := ?_) rfl (by kernel_rfl) (by kernel_rfl) (by kernel_rfl) (fun _ _ _ h => h) (Or.inl ⟨by rfl, ?_⟩) hHeld ?_
            rotate_left
            · intro w hSw
              go_simp
              with_reducible rfl
            try go_frame
            refine wpAnyH_ready (rs := [1]) (by kernel_rfl) (by simp) ?_
            refine AllReadyH.cons (o := ⟨some 179, _, _, _, _, _⟩) rfl (fun K hK => ?_) AllReadyH.nil
            go_simp
            go_at_call 14
            refine (C.stale (C.stay HB7.out.tr (Chg.below hC fun _ _ => False) fun _ _ _ x => x) h (by rw [List.length_set, HLn.out]; exact Hh.out)).mono ?_
            rintro e w7d_s1 ⟨rfl, hb⟩
            replace hC := hC.trans (hb.mono hC.size)
            refine hK.out _ _ (HKeep.out _ hC) (fun hHeld => ?_)
            clear hK K hb 
            rw [← HE.out]
            try go_frame
            refine wpAnyH_ready (rs := [3]) (by kernel_rfl) (by simp) ?_
            refine AllReadyH.cons (o := ⟨some 181, _, _, _, _, _⟩) rfl (fun K hK => ?_) AllReadyH.nil
            go_simp
            go_at_call 15
            refine (RQStale_any (HB7.out.rf.below hC) h (by rw [List.length_set, HLn.out]; exact Hh.out)).mono ?_
            rintro e w7d_s1_s2 ⟨rfl, hb⟩
            replace hC := hC.trans (hb.mono hC.size)
            refine hK.out _ _ (HKeep.out _ hC) (fun hHeld => ?_)
            clear hK K hb 
            rw [← HE.out]
            try go_frame
            refine wpAnyH_take (i := 4) (oi := ⟨some 182, _, _, _, _, _⟩) (v := ?_) rfl (by kernel_rfl) (by kernel_rfl) (by kernel_rfl) (fun _ _ _ h => h) (Or.inl ⟨by rfl, ?_⟩) hHeld ?_
            rotate_left
            · intro w hSw
              go_simp
              with_reducible rfl
            try go_frame
            refine wpAnyH_take (i := 5) (oi := ⟨some 183, _, _, _, _, _⟩) (v := ?_) rfl (by kernel_rfl) (by kernel_rfl) (by kernel_rfl) (fun _ _ _ h => h) (Or.inl ⟨by rfl, ?_⟩) hHeld ?_
            rotate_left
            · intro w hSw
              go_simp
              with_reducible rfl
            try go_frame
            refine wpAnyH_take (i := 6) (oi := ⟨some 184, _, _, _, _, _⟩) (v := ?_) rfl (by kernel_rfl) (by kernel_rfl) (by kernel_rfl) (fun _ _ _ h => h) (Or.inl ⟨by rfl, ?_⟩) hHeld ?_
            rotate_left
            · intro w hSw
              go_simp
              with_reducible rfl
            try go_frame
            refine wpAnyH_take (i := 8) (oi := ⟨some 186, _, _, _, _, _⟩) (v := ?_) rfl (by kernel_rfl) (by kernel_rfl) (by kernel_rfl) (fun _ _ _ h => h) (Or.inl ⟨by rfl, ?_⟩) hHeld ?_
            rotate_left
            · intro w hSw
              go_simp
              with_reducible rfl
            try go_frame
            refine wpAnyH_take (i := 9) (oi := ⟨some 187, _, _, _, _, _⟩) (v := ?_) rfl (by kernel_rfl) (by kernel_rfl) (by kernel_rfl) (fun _ _ _ h => h) (Or.inl ⟨by rfl, ?_⟩) hHeld ?_
            rotate_left
            · intro w hSw
              go_simp
              with_reducible rfl
            try go_frame
            refine wpAnyH_take (i := 10) (oi := ⟨some 188, _, _, _, _, _⟩) (v := ?_) rfl (by kernel_rfl) (by kernel_rfl) (by kernel_rfl) (fun _ _ _ h => h) (Or.inl ⟨by rfl, ?_⟩) hHeld ?_
            rotate_left
            · intro w hSw
              go_simp
              with_reducible rfl
            try go_frame
            refine wpAnyH_take (i := 11) (oi := ⟨some 189, _, _, _, _, _⟩) (v := ?_) rfl (by kernel_rfl) (by kernel_rfl) (by kernel_rfl) (fun _ _ _ h => h) (Or.inl ⟨by rfl, ?_⟩) hHeld ?_
            rotate_left
            · intro w hSw
              have hc := hSw
              go_simp
              with_reducible rfl
            try go_frame
            refine wpAnyH_ready (rs := [7]) (by kernel_rfl) (by simp) ?_
            refine AllReadyH.cons (o := ⟨some 185, _, _, _, _, _⟩) rfl (fun K hK => ?_) AllReadyH.nil
            go_simp
            go_at_call 16
            refine (C.work (C.stay HB7.out.tr (Chg.below hC fun _ _ => False) fun _ _ _ x => x)).mono ?_
            rintro e w7d_s1_s2_s3 ⟨rfl, hb⟩
            replace hC := hC.trans (hb.mono hC.size)
            refine hK.out _ _ (HKeep.out _ hC) (fun hHeld => ?_)
            clear hK K hb 
            try go_frame
            refine wpAnyH_take (i := 12) (oi := ⟨some 190, _, _, _, _, _⟩) (v := ?_) rfl (by kernel_rfl) (by kernel_rfl) (by kernel_rfl) (fun _ _ _ h => h) (Or.inl ⟨by rfl, ?_⟩) hHeld ?_
            rotate_left
            · intro w hSw
              go_simp
              with_reducible rfl
            try go_frame
            refine wpAnyH_take (i := 13) (oi := ⟨some 191, _, _, _, _, _⟩) (v := ?_) rfl (by kernel_rfl) (by kernel_rfl) (by kernel_rfl) (fun _ _ _ h => h) (Or.inl ⟨by rfl, ?_⟩) hHeld ?_
            rotate_left
            · intro w hSw
              go_simp
              with_reducible rfl
            try go_frame
            refine wpAnyH_done (by kernel_rfl) ?_ _
            have HBj : Hid (Bth T w w7d_s1_s2_s3 KS key D M F3 G (L.set i d) (S.set i true) V (L.set i d) (S.set i true) V) := (HB7.out.still C hC).less
            have HKj : Hid (KeyOn w7d_s1_s2_s3 KS pk key) := HK7.out.below hC
            clear hHeld hC HKeep
            go_wp2
            go_roundw
            case rel => exact ⟨k + 1, F3, G, (L.set i d), (S.set i true), V, by omega, by go_num, by omega, HBj, HKj, by show _ = _; rw [List.length_set, HLn.out]⟩
            case measure => rw [iO9, show intOf (.int .i64 (k : Int)) = (k : Int) from rfl]; omega
        have hbad : x < 0 ∨ (n : Int) ≤ x := .inr hge
        have hnl : ¬ (x < (n : Int)) := by omega
        as_aux_lemma =>
          go_wp2_with (first | (refine wpList_load_mid rfl 36 (.tmp 74) rfl b (o + k * 34) rfl cq _ HLd.out Tryd.underlying36 rfl (by rw [Hcn.out]; kernel_rfl) ?_) | (refine wpList_store_row rfl 36 (.tmp 12) (.tmp 75) rfl wr.heap.size cq.toArray rfl rfl 36 _ (Row.new wr _ ZQ) (by rw [Hcz.out]; kernel_rfl) (by rw [Hcz.out]; rfl) Hco.out ?_; rw [← Hwx.out, ← Hbx.out]) | (refine wpList_load_mid rfl 34 (.tmp 130) rfl bx 2 rfl ts _ (HXt.out wx HX.out) Tryd.underlying34 rfl (by rw [Htn.out]; kernel_rfl) ?_))
          refine (C.setBad HBx.out.tr x d ts (by rw [HLn.out]; exact hbad) Hts.out).mono ?_
          rintro e w3 ⟨rfl, hb3⟩
          have HK3 : Hid (KeyOn w3 KS pk key) := HKx.out.below hb3
          have HB3 : Hid (Bth T w w3 (fun q => KS q ∨ q = bx) key D M F G L S V L S V) := HBx.out.still C hb3
          clear hb3 HX HKx HBx
          obtain ⟨E, hE⟩ : ∃ E, E = st h S := ⟨_, rfl⟩
          have HE := Lib.hid hE
          clear hE
          have HKeep : Hid (∀ X, Below w3.heap.size w3 X → X.cell? ⟨M, 2, none⟩ = some (.int .i64 ((V : Nat) : Int))) := fun X hX => (HB3.out.rf.below hX).cell2
          go_wp2_with fail
          have hC : Below w3.heap.size w3 w3.drew := below_drewN (Below.refl _ _) 1
          refine wp_region_held_drew (S := (fun X => X.cell? ⟨M, 2, none⟩ = some (.int .i64 ((V : Nat) : Int)))) (by kernel_rfl) (HKeep.out _ hC) (fun hHeld => ?_)
          generalize w3.drew = w3d at *
          refine wpAnyH_take (i := 0) (oi := ⟨some 178, _, _, _, _, _⟩) (v := ?_) rfl (by kernel_rfl) (by kernel_rfl) (by kernel_rfl) (fun _ _ _ h => h) (Or.inl ⟨by rfl, ?_⟩) hHeld ?_
          rotate_left
          · intro w hSw
            go_simp
            with_reducible rfl
          try go_frame
          refine wpAnyH_take (i := 2) (oi := ⟨some 180, _, _, _, _, _⟩) (v := ?_) rfl (by kernel_rfl) (by kernel_rfl) (by kernel_rfl) (fun _ _ _ h => h) (Or.inl ⟨by rfl, ?_⟩) hHeld ?_
          rotate_left
          · intro w hSw
            go_simp
            with_reducible rfl
          try go_frame
          refine wpAnyH_ready (rs := [1]) (by kernel_rfl) (by simp) ?_
          refine AllReadyH.cons (o := ⟨some 179, _, _, _, _, _⟩) rfl (fun K hK => ?_) AllReadyH.nil
          go_simp
          go_at_call 14
          refine (C.stale (C.stay HB3.out.tr (Chg.below hC fun _ _ => False) fun _ _ _ x => x) h (by rw [HLn.out]; exact Hh.out)).mono ?_
          rintro e w3d_s1 ⟨rfl, hb⟩
          replace hC := hC.trans (hb.mono hC.size)
          refine hK.out _ _ (HKeep.out _ hC) (fun hHeld => ?_)
          clear hK K hb 
          rw [← HE.out]
          try go_frame
          refine wpAnyH_ready (rs := [3]) (by kernel_rfl) (by simp) ?_
          refine AllReadyH.cons (o := ⟨some 181, _, _, _, _, _⟩) rfl (fun K hK => ?_) AllReadyH.nil
          go_simp
          go_at_call 15
          refine (RQStale_any (HB3.out.rf.below hC) h (by rw [HLn.out]; exact Hh.out)).mono ?_
          rintro e w3d_s1_s2 ⟨rfl, hb⟩
          replace hC := hC.trans (hb.mono hC.size)
          refine hK.out _ _ (HKeep.out _ hC) (fun hHeld => ?_)
          clear hK K hb 
          rw [← HE.out]
          try go_frame
          refine wpAnyH_take (i := 4) (oi := ⟨some 182, _, _, _, _, _⟩) (v := ?_) rfl (by kernel_rfl) (by kernel_rfl) (by kernel_rfl) (fun _ _ _ h => h) (Or.inl ⟨by rfl, ?_⟩) hHeld ?_
          rotate_left
          · intro w hSw
            go_simp
            with_reducible rfl
          try go_frame
          refine wpAnyH_take (i := 5) (oi := ⟨some 183, _, _, _, _, _⟩) (v := ?_) rfl (by kernel_rfl) (by kernel_rfl) (by kernel_rfl) (fun _ _ _ h => h) (Or.inl ⟨by rfl, ?_⟩) hHeld ?_
          rotate_left
          · intro w hSw
            go_simp
            with_reducible rfl
          try go_frame
          refine wpAnyH_take (i := 6) (oi := ⟨some 184, _, _, _, _, _⟩) (v := ?_) rfl (by kernel_rfl) (by kernel_rfl) (by kernel_rfl) (fun _ _ _ h => h) (Or.inl ⟨by rfl, ?_⟩) hHeld ?_
          rotate_left
          · intro w hSw
            go_simp
            with_reducible rfl
          try go_frame
          refine wpAnyH_take (i := 8) (oi := ⟨some 186, _, _, _, _, _⟩) (v := ?_) rfl (by kernel_rfl) (by kernel_rfl) (by kernel_rfl) (fun _ _ _ h => h) (Or.inl ⟨by rfl, ?_⟩) hHeld ?_
          rotate_left
          · intro w hSw
            go_simp
            with_reducible rfl
          try go_frame
          refine wpAnyH_take (i := 9) (oi := ⟨some 187, _, _, _, _, _⟩) (v := ?_) rfl (by kernel_rfl) (by kernel_rfl) (by kernel_rfl) (fun _ _ _ h => h) (Or.inl ⟨by rfl, ?_⟩) hHeld ?_
          rotate_left
          · intro w hSw
            go_simp
            with_reducible rfl
          try go_frame
          refine wpAnyH_take (i := 10) (oi := ⟨some 188, _, _, _, _, _⟩) (v := ?_) rfl (by kernel_rfl) (by kernel_rfl) (by kernel_rfl) (fun _ _ _ h => h) (Or.inl ⟨by rfl, ?_⟩) hHeld ?_
          rotate_left
          · intro w hSw
            go_simp
            with_reducible rfl
          try go_frame
          refine wpAnyH_take (i := 11) (oi := ⟨some 189, _, _, _, _, _⟩) (v := ?_) rfl (by kernel_rfl) (by kernel_rfl) (by kernel_rfl) (fun _ _ _ h => h) (Or.inl ⟨by rfl, ?_⟩) hHeld ?_
          rotate_left
          · intro w hSw
            have hc := hSw
            go_simp
            with_reducible rfl
          try go_frame
          refine wpAnyH_ready (rs := [7]) (by kernel_rfl) (by simp) ?_
          refine AllReadyH.cons (o := ⟨some 185, _, _, _, _, _⟩) rfl (fun K hK => ?_) AllReadyH.nil
          go_simp
          go_at_call 16
          refine (C.work (C.stay HB3.out.tr (Chg.below hC fun _ _ => False) fun _ _ _ x => x)).mono ?_
          rintro e w3d_s1_s2_s3 ⟨rfl, hb⟩
          replace hC := hC.trans (hb.mono hC.size)
          refine hK.out _ _ (HKeep.out _ hC) (fun hHeld => ?_)
          clear hK K hb 
          try go_frame
          refine wpAnyH_take (i := 12) (oi := ⟨some 190, _, _, _, _, _⟩) (v := ?_) rfl (by kernel_rfl) (by kernel_rfl) (by kernel_rfl) (fun _ _ _ h => h) (Or.inl ⟨by rfl, ?_⟩) hHeld ?_
          rotate_left
          · intro w hSw
            go_simp
            with_reducible rfl
          try go_frame
          refine wpAnyH_take (i := 13) (oi := ⟨some 191, _, _, _, _, _⟩) (v := ?_) rfl (by kernel_rfl) (by kernel_rfl) (by kernel_rfl) (fun _ _ _ h => h) (Or.inl ⟨by rfl, ?_⟩) hHeld ?_
          rotate_left
          · intro w hSw
            go_simp
            with_reducible rfl
          try go_frame
          refine wpAnyH_done (by kernel_rfl) ?_ _
          have HBj : Hid (Bth T w w3d_s1_s2_s3 KS key D M F G L S V L S V) := (HB3.out.still C hC).less
          have HKj : Hid (KeyOn w3d_s1_s2_s3 KS pk key) := HK3.out.below hC
          clear hHeld hC HKeep
          go_wp2
          go_roundw
          case rel => exact ⟨k + 1, F, G, L, S, V, by omega, by go_num, by omega, HBj, HKj, by show _ = _; rw [HLn.out]⟩
          case measure => rw [iO9, show intOf (.int .i64 (k : Int)) = (k : Int) from rfl]; omega
      by_cases hw1 : what = 1
      · subst hw1
        rcases Int.lt_or_le x 0 with hneg | hnn
        · skip
          as_aux_lemma =>
            have hVb : V ≤ 100000 := by omega
            have HRt := Lib.hid (C.root HBx.out.tr (HT0.out.stay Htl.out HBx.out.bel) (fun q hq => by have := (HBx.out.Fn q hq).1; have := Htl.out; omega) hVb h (by rw [HLn.out]; exact Hh.out))
            have Hst9 : Hid (st h S ≤ 909) := by
              have h1 := st_le h S 100 (by rw [(C.len HBx.out.tr).1, HLn.out]; exact hn2)
              have h2 : h * 101 ≤ 9 * 101 := Nat.mul_le_mul H9.out (Nat.le_refl _)
              show _ ≤ _
              omega
            go_wp2_with (first | (refine wpList_load_mid rfl 36 (.tmp 74) rfl b (o + k * 34) rfl cq _ HLd.out Tryd.underlying36 rfl (by rw [Hcn.out]; kernel_rfl) ?_) | (refine wpList_store_row rfl 36 (.tmp 12) (.tmp 75) rfl wr.heap.size cq.toArray rfl rfl 36 _ (Row.new wr _ ZQ) (by rw [Hcz.out]; kernel_rfl) (by rw [Hcz.out]; rfl) Hco.out ?_; rw [← Hwx.out, ← Hbx.out]))
            refine HRt.out.mono ?_
            rintro e w3 ⟨rs, ⟨Hrs, rfl⟩, F3, hT3, hF3, hC3⟩
            have HK3 : Hid (KeyOn w3 KS pk key) := HKx.out.chg hC3 fun q _ hq hf => (HBx.out.Fn q hf).2 (.inl hq)
            have HB3 : Hid (Bth T w w3 KS key D M F3 G L (List.replicate L.length false) (V + st h S) L S V) := (HBx.out.after hT3 hF3 hC3).less
            clear hT3 hF3 hC3 HRt HX HKx HBx
            have hz := Hm.zeroTag
            have Hrz : Hid (rs.toArray.size = 32) := Hrs.out.size
            have Hro : Hid (rs.toArray.all (·.oneCell') = true) := Hrs.out.one
            obtain ⟨br, hbr⟩ : ∃ q, q = w3.heap.size := ⟨_, rfl⟩
            obtain ⟨w4, hw4⟩ : ∃ X, X = (w3.alloc (.cells Hm.Z32.toArray 34)).setRow w3.heap.size rs.toArray := ⟨_, rfl⟩
            have hb34 : Below w3.heap.size w3 w4 := by rw [hw4]; exact below_setRow' ((Below.refl _ _).alloc (Nat.le_refl _) _) (Nat.le_refl _) rs.toArray
            have HRr : Hid (Row w4 br 34 rs) := by rw [hw4, hbr]; exact (Row.new w3 34 Hm.Z32).whole rs
            have HK4 : Hid (KeyOn w4 KS pk key) := HK3.out.below hb34
            have HB4 : Hid (Bth T w w4 (fun q => KS q ∨ q = br) key D M F3 G L (List.replicate L.length false) (V + st h S) L S V) := HB3.out.also C hb34 _ fun q hq => hq.imp id fun e => by
              have := HRr.out.lt
              omega
            have Hw4 := Lib.hid hw4
            have Hbr := Lib.hid hbr
            clear hw4 hbr
            go_wp2_with (refine wpList_store_row rfl 34 (.tmp 15) (.tmp 166) rfl w3.heap.size rs.toArray rfl rfl 34 _ (Row.new w3 _ Hm.Z32) (by rw [Hrz.out]; kernel_rfl) (by rw [Hrz.out]; rfl) Hro.out ?_; rw [← Hw4.out, ← Hbr.out])
            refine (RQAsk_any HB4.out.rf h (by rw [HLn.out]; exact Hh.out) (by omega) (by have := Hst9.out; omega)).mono ?_
            rintro e w5 ⟨rfl, G5, hR5, hG5, hC5⟩
            have HK5 : Hid (KeyOn w5 KS pk key) := HK4.out.chg hC5 fun q _ hq hg => (HB4.out.Gn q hg).2 (.inl hq)
            have HRr5 : Hid (Row w5 br 34 rs) := HRr.out.chg hC5 fun _ hg => (HB4.out.Gn br hg).2 (.inr rfl)
            have HB5 : Hid (Bth T w w5 (fun q => KS q ∨ q = br) key D M F3 G5 L (List.replicate L.length false) (V + st h S) L (List.replicate L.length false) (V + st h S)) := HB4.out.rafter C hR5 hG5 hC5
            clear hR5 hG5 hC5 HK4 HRr HB4 hb34 Hw4 HB3 HK3 hz Hbr
            obtain ⟨s, hs⟩ : ∃ s, s = strB (root key L h) := ⟨_, rfl⟩
            have HSs := Lib.hid hs
            clear hs
            obtain ⟨a, b2, ca, cb, hR⟩ := HB5.out.rf
            have HR := Lib.hid hR
            clear hR
            have HKeep : Hid (∀ X, Below w5.heap.size w5 X → (convert 22 9 (.slice (some ⟨br, 0, none⟩) 32 32)).run Tryd.prog X = .ok (.string s) X ∧ X.cell? ⟨M, 0, none⟩ = some (.slice (some ⟨a, 0, none⟩) n ca)) := fun X hX => by
              refine ⟨?_, by have := (HR.out.below hX).c0; rwa [HLn.out] at this⟩
              rw [HSs.out]
              exact conv_arg ((Hrs.out.row (HRr5.out.below hX HRr5.out.lt)).arg 32 Hrs.out.2)
            have HL7 : Hid (L.length ≤ 100) := by show _ ≤ _; rw [HLn.out]; exact hn2
            go_wp2_with fail
            have hC : Below w5.heap.size w5 w5.drew := below_drewN (Below.refl _ _) 1
            refine wp_region_held_drew (S := (fun X => (convert 22 9 (.slice (some ⟨br, 0, none⟩) 32 32)).run Tryd.prog X = .ok (.string s) X ∧ X.cell? ⟨M, 0, none⟩ = some (.slice (some ⟨a, 0, none⟩) n ca))) (by kernel_rfl) (HKeep.out _ hC) (fun hHeld => ?_)
            generalize w5.drew = w5d at *
            refine wpAnyH_take (i := 0) (oi := ⟨some 169, _, _, _, _, _⟩) (v := ?_) rfl (by kernel_rfl) (by kernel_rfl) (by kernel_rfl) (fun _ _ _ h => h) (Or.inl ⟨by rfl, ?_⟩) hHeld ?_
            rotate_left
            · intro w hSw
              go_simp
              with_reducible rfl
            try go_frame
            refine wpAnyH_take (i := 1) (oi := ⟨some 170, _, _, _, _, _⟩) (v := ?_) rfl (by kernel_rfl) (by kernel_rfl) (by kernel_rfl) (fun _ _ _ h => h) (Or.inl ⟨by rfl, ?_⟩) hHeld ?_
            rotate_left
            · intro w hSw
              have hc := hSw.1
              go_simp
              with_reducible rfl
            try go_frame
            refine wpAnyH_take (i := 2) (oi := ⟨some 171, _, _, _, _, _⟩) (v := ?_) rfl (by kernel_rfl) (by kernel_rfl) (by kernel_rfl) (fun _ _ _ h => h) (Or.inl ⟨by rfl, ?_⟩) hHeld ?_
            rotate_left
            · intro w hSw
              go_simp
              with_reducible rfl
            try go_frame
            refine wpAnyH_take (i := 3) (oi := ⟨some 172, _, _, _, _, _⟩) (v := ?_) rfl (by kernel_rfl) (by kernel_rfl) (by kernel_rfl) (fun _ _ _ h => h) (Or.inl ⟨by rfl, ?_⟩) hHeld ?_
            rotate_left
            · intro w hSw
              go_simp
              with_reducible rfl
            try go_frame
            refine wpAnyH_take (i := 4) (oi := ⟨some 173, _, _, _, _, _⟩) (v := ?_) rfl (by kernel_rfl) (by kernel_rfl) (by kernel_rfl) (fun _ _ _ h => h) (Or.inl ⟨by rfl, ?_⟩) hHeld ?_
            rotate_left
            · intro w hSw
              go_simp
              with_reducible rfl
            try go_frame
            refine wpAnyH_take (i := 5) (oi := ⟨some 174, _, _, _, _, _⟩) (v := ?_) rfl (by kernel_rfl) (by kernel_rfl) (by kernel_rfl) (fun _ _ _ h => h) (Or.inl ⟨by rfl, ?_⟩) hHeld ?_
            rotate_left
            · intro w hSw
              go_simp
              with_reducible rfl
            try go_frame
            refine wpAnyH_take (i := 6) (oi := ⟨some 175, _, _, _, _, _⟩) (v := ?_) rfl (by kernel_rfl) (by kernel_rfl) (by kernel_rfl) (fun _ _ _ h => h) (Or.inl ⟨by rfl, ?_⟩) hHeld ?_
            rotate_left
            · intro w hSw
              have hc := hSw.2
              go_simp
              with_reducible rfl
            try go_frame
            refine wpAnyH_ready (rs := [7]) (by kernel_rfl) (by simp) ?_
            refine AllReadyH.cons (o := ⟨some 176, _, _, _, _, _⟩) rfl (fun K hK => ?_) AllReadyH.nil
            go_simp
            go_at_call 12
            refine (RMRoot_any _ key L H32.out HL7.out _ w5d (HK5.out.at.below hC) (by have h1 := (HR.out.below hC).fromL; rwa [HLn.out] at h1)).mono ?_
            rintro e w5d_rr ⟨⟨h2, Hh2, rfl⟩, hb⟩
            replace hC := hC.trans (hb.mono hC.size)
            refine hK.out _ _ (HKeep.out _ hC) (fun hHeld => ?_)
            clear hK K hb 
            obtain rfl : h = h2 := IsH.unique (by rw [HLn.out]; exact Hh.out) Hh2.out
            rw [VS, ← HSs.out]
            clear Hh2
            try go_frame
            refine wpAnyH_take (i := 8) (oi := ⟨some 177, _, _, _, _, _⟩) (v := ?_) rfl (by kernel_rfl) (by kernel_rfl) (by kernel_rfl) (fun _ _ _ h => h) (Or.inl ⟨by rfl, ?_⟩) hHeld ?_
            rotate_left
            · intro w hSw
              go_simp
              with_reducible rfl
            try go_frame
            refine wpAnyH_done (by kernel_rfl) ?_ _
            have HB6 : Hid (Bth T w w5d_rr (fun q => KS q ∨ q = br) key D M F3 G5 L (List.replicate L.length false) (V + st h S) L (List.replicate L.length false) (V + st h S)) := HB5.out.still C hC
            have HK6 : Hid (KeyOn w5d_rr KS pk key) := HK5.out.below hC
            clear hHeld HKeep hC HR HRr5 HB5 HK5
            generalize w5d_rr = w6 at *
            obtain ⟨V3, hV3⟩ : ∃ x, x = V + st h S := ⟨_, rfl⟩
            have hVn : V3 ≤ (k + 1) * 1000 := by have := Hst9.out; rw [hV3, Nat.succ_mul]; omega
            rw [← hV3] at HB6
            clear hV3
            obtain ⟨E, hE⟩ : ∃ E, E = st h (List.replicate L.length false) := ⟨_, rfl⟩
            have HE := Lib.hid hE
            clear hE
            have HKeep : Hid (∀ X, Below w6.heap.size w6 X → X.cell? ⟨M, 2, none⟩ = some (.int .i64 ((V3 : Nat) : Int))) := fun X hX => (HB6.out.rf.below hX).cell2
            go_wp2_with fail
            have hC : Below w6.heap.size w6 w6.drew := below_drewN (Below.refl _ _) 1
            refine wp_region_held_drew (S := (fun X => X.cell? ⟨M, 2, none⟩ = some (.int .i64 ((V3 : Nat) : Int)))) (by kernel_rfl) (HKeep.out _ hC) (fun hHeld => ?_)
            generalize w6.drew = w6d at *
            refine wpAnyH_take (i := 0) (oi := ⟨some 178, _, _, _, _, _⟩) (v := ?_) rfl (by kernel_rfl) (by kernel_rfl) (by kernel_rfl) (fun _ _ _ h => h) (Or.inl ⟨by rfl, ?_⟩) hHeld ?_
            rotate_left
            · intro w hSw
              go_simp
              with_reducible rfl
            try go_frame
            refine wpAnyH_take (i := 2) (oi := ⟨some 180, _, _, _, _, _⟩) (v := ?_) rfl (by kernel_rfl) (by kernel_rfl) (by kernel_rfl) (fun _ _ _ h => h) (Or.inl ⟨by rfl, ?_⟩) hHeld ?_
            rotate_left
            · intro w hSw
              go_simp
              with_reducible rfl
            try go_frame
            refine wpAnyH_ready (rs := [1]) (by kernel_rfl) (by simp) ?_
            refine AllReadyH.cons (o := ⟨some 179, _, _, _, _, _⟩) rfl (fun K hK => ?_) AllReadyH.nil
            go_simp
            go_at_call 14
            refine (C.stale (C.stay HB6.out.tr (Chg.below hC fun _ _ => False) fun _ _ _ x => x) h (by rw [HLn.out]; exact Hh.out)).mono ?_
            rintro e w6d_s1 ⟨rfl, hb⟩
            replace hC := hC.trans (hb.mono hC.size)
            refine hK.out _ _ (HKeep.out _ hC) (fun hHeld => ?_)
            clear hK K hb 
            rw [← HE.out]
            try go_frame
            refine wpAnyH_ready (rs := [3]) (by kernel_rfl) (by simp) ?_
            refine AllReadyH.cons (o := ⟨some 181, _, _, _, _, _⟩) rfl (fun K hK => ?_) AllReadyH.nil
            go_simp
            go_at_call 15
            refine (RQStale_any (HB6.out.rf.below hC) h (by rw [HLn.out]; exact Hh.out)).mono ?_
            rintro e w6d_s1_s2 ⟨rfl, hb⟩
            replace hC := hC.trans (hb.mono hC.size)
            refine hK.out _ _ (HKeep.out _ hC) (fun hHeld => ?_)
            clear hK K hb 
            rw [← HE.out]
            try go_frame
            refine wpAnyH_take (i := 4) (oi := ⟨some 182, _, _, _, _, _⟩) (v := ?_) rfl (by kernel_rfl) (by kernel_rfl) (by kernel_rfl) (fun _ _ _ h => h) (Or.inl ⟨by rfl, ?_⟩) hHeld ?_
            rotate_left
            · intro w hSw
              go_simp
              with_reducible rfl
            try go_frame
            refine wpAnyH_take (i := 5) (oi := ⟨some 183, _, _, _, _, _⟩) (v := ?_) rfl (by kernel_rfl) (by kernel_rfl) (by kernel_rfl) (fun _ _ _ h => h) (Or.inl ⟨by rfl, ?_⟩) hHeld ?_
            rotate_left
            · intro w hSw
              go_simp
              with_reducible rfl
            try go_frame
            refine wpAnyH_take (i := 6) (oi := ⟨some 184, _, _, _, _, _⟩) (v := ?_) rfl (by kernel_rfl) (by kernel_rfl) (by kernel_rfl) (fun _ _ _ h => h) (Or.inl ⟨by rfl, ?_⟩) hHeld ?_
            rotate_left
            · intro w hSw
              go_simp
              with_reducible rfl
            try go_frame
            refine wpAnyH_take (i := 8) (oi := ⟨some 186, _, _, _, _, _⟩) (v := ?_) rfl (by kernel_rfl) (by kernel_rfl) (by kernel_rfl) (fun _ _ _ h => h) (Or.inl ⟨by rfl, ?_⟩) hHeld ?_
            rotate_left
            · intro w hSw
              go_simp
              with_reducible rfl
            try go_frame
            refine wpAnyH_take (i := 9) (oi := ⟨some 187, _, _, _, _, _⟩) (v := ?_) rfl (by kernel_rfl) (by kernel_rfl) (by kernel_rfl) (fun _ _ _ h => h) (Or.inl ⟨by rfl, ?_⟩) hHeld ?_
            rotate_left
            · intro w hSw
              go_simp
              with_reducible rfl
            try go_frame
            refine wpAnyH_take (i := 10) (oi := ⟨some 188, _, _, _, _, _⟩) (v := ?_) rfl (by kernel_rfl) (by kernel_rfl) (by kernel_rfl) (fun _ _ _ h => h) (Or.inl ⟨by rfl, ?_⟩) hHeld ?_
            rotate_left
            · intro w hSw
              go_simp
              with_reducible rfl
            try go_frame
            refine wpAnyH_take (i := 11) (oi := ⟨some 189, _, _, _, _, _⟩) (v := ?_) rfl (by kernel_rfl) (by kernel_rfl) (by kernel_rfl) (fun _ _ _ h => h) (Or.inl ⟨by rfl, ?_⟩) hHeld ?_
            rotate_left
            · intro w hSw
              have hc := hSw
              go_simp
              with_reducible rfl
            try go_frame
            refine wpAnyH_ready (rs := [7]) (by kernel_rfl) (by simp) ?_
            refine AllReadyH.cons (o := ⟨some 185, _, _, _, _, _⟩) rfl (fun K hK => ?_) AllReadyH.nil
            go_simp
            go_at_call 16
            refine (C.work (C.stay HB6.out.tr (Chg.below hC fun _ _ => False) fun _ _ _ x => x)).mono ?_
            rintro e w6d_s1_s2_s3 ⟨rfl, hb⟩
            replace hC := hC.trans (hb.mono hC.size)
            refine hK.out _ _ (HKeep.out _ hC) (fun hHeld => ?_)
            clear hK K hb 
            try go_frame
            refine wpAnyH_take (i := 12) (oi := ⟨some 190, _, _, _, _, _⟩) (v := ?_) rfl (by kernel_rfl) (by kernel_rfl) (by kernel_rfl) (fun _ _ _ h => h) (Or.inl ⟨by rfl, ?_⟩) hHeld ?_
            rotate_left
            · intro w hSw
              go_simp
              with_reducible rfl
            try go_frame
            refine wpAnyH_take (i := 13) (oi := ⟨some 191, _, _, _, _, _⟩) (v := ?_) rfl (by kernel_rfl) (by kernel_rfl) (by kernel_rfl) (fun _ _ _ h => h) (Or.inl ⟨by rfl, ?_⟩) hHeld ?_
            rotate_left
            · intro w hSw
              go_simp
              with_reducible rfl
            try go_frame
            refine wpAnyH_done (by kernel_rfl) ?_ _
            have HBj : Hid (Bth T w w6d_s1_s2_s3 KS key D M F3 G5 L (List.replicate L.length false) V3 L (List.replicate L.length false) V3) := (HB6.out.still C hC).less
            have HKj : Hid (KeyOn w6d_s1_s2_s3 KS pk key) := HK6.out.below hC
            clear hHeld hC HKeep
            go_wp2
            go_roundw
            case rel => exact ⟨k + 1, F3, G5, L, (List.replicate L.length false), V3, by omega, by go_num, hVn, HBj, HKj, by show _ = _; rw [HLn.out]⟩
            case measure => rw [iO9, show intOf (.int .i64 (k : Int)) = (k : Int) from rfl]; omega
        as_aux_lemma =>
          have hVb : V ≤ 100000 := by omega
          have HRt := Lib.hid (C.root HBx.out.tr (HT0.out.stay Htl.out HBx.out.bel) (fun q hq => by have := (HBx.out.Fn q hq).1; have := Htl.out; omega) hVb h (by rw [HLn.out]; exact Hh.out))
          have Hst9 : Hid (st h S ≤ 909) := by
            have h1 := st_le h S 100 (by rw [(C.len HBx.out.tr).1, HLn.out]; exact hn2)
            have h2 : h * 101 ≤ 9 * 101 := Nat.mul_le_mul H9.out (Nat.le_refl _)
            show _ ≤ _
            omega
          go_wp2_with (first | (refine wpList_load_mid rfl 36 (.tmp 74) rfl b (o + k * 34) rfl cq _ HLd.out Tryd.underlying36 rfl (by rw [Hcn.out]; kernel_rfl) ?_) | (refine wpList_store_row rfl 36 (.tmp 12) (.tmp 75) rfl wr.heap.size cq.toArray rfl rfl 36 _ (Row.new wr _ ZQ) (by rw [Hcz.out]; kernel_rfl) (by rw [Hcz.out]; rfl) Hco.out ?_; rw [← Hwx.out, ← Hbx.out]))
          refine HRt.out.mono ?_
          rintro e w3 ⟨rs, ⟨Hrs, rfl⟩, F3, hT3, hF3, hC3⟩
          have HK3 : Hid (KeyOn w3 KS pk key) := HKx.out.chg hC3 fun q _ hq hf => (HBx.out.Fn q hf).2 (.inl hq)
          have HB3 : Hid (Bth T w w3 KS key D M F3 G L (List.replicate L.length false) (V + st h S) L S V) := (HBx.out.after hT3 hF3 hC3).less
          clear hT3 hF3 hC3 HRt HX HKx HBx
          have hz := Hm.zeroTag
          have Hrz : Hid (rs.toArray.size = 32) := Hrs.out.size
          have Hro : Hid (rs.toArray.all (·.oneCell') = true) := Hrs.out.one
          obtain ⟨br, hbr⟩ : ∃ q, q = w3.heap.size := ⟨_, rfl⟩
          obtain ⟨w4, hw4⟩ : ∃ X, X = (w3.alloc (.cells Hm.Z32.toArray 34)).setRow w3.heap.size rs.toArray := ⟨_, rfl⟩
          have hb34 : Below w3.heap.size w3 w4 := by rw [hw4]; exact below_setRow' ((Below.refl _ _).alloc (Nat.le_refl _) _) (Nat.le_refl _) rs.toArray
          have HRr : Hid (Row w4 br 34 rs) := by rw [hw4, hbr]; exact (Row.new w3 34 Hm.Z32).whole rs
          have HK4 : Hid (KeyOn w4 KS pk key) := HK3.out.below hb34
          have HB4 : Hid (Bth T w w4 (fun q => KS q ∨ q = br) key D M F3 G L (List.replicate L.length false) (V + st h S) L S V) := HB3.out.also C hb34 _ fun q hq => hq.imp id fun e => by
            have := HRr.out.lt
            omega
          have Hw4 := Lib.hid hw4
          have Hbr := Lib.hid hbr
          clear hw4 hbr
          go_wp2_with (refine wpList_store_row rfl 34 (.tmp 15) (.tmp 166) rfl w3.heap.size rs.toArray rfl rfl 34 _ (Row.new w3 _ Hm.Z32) (by rw [Hrz.out]; kernel_rfl) (by rw [Hrz.out]; rfl) Hro.out ?_; rw [← Hw4.out, ← Hbr.out])
          refine (RQAsk_any HB4.out.rf h (by rw [HLn.out]; exact Hh.out) (by omega) (by have := Hst9.out; omega)).mono ?_
          rintro e w5 ⟨rfl, G5, hR5, hG5, hC5⟩
          have HK5 : Hid (KeyOn w5 KS pk key) := HK4.out.chg hC5 fun q _ hq hg => (HB4.out.Gn q hg).2 (.inl hq)
          have HRr5 : Hid (Row w5 br 34 rs) := HRr.out.chg hC5 fun _ hg => (HB4.out.Gn br hg).2 (.inr rfl)
          have HB5 : Hid (Bth T w w5 (fun q => KS q ∨ q = br) key D M F3 G5 L (List.replicate L.length false) (V + st h S) L (List.replicate L.length false) (V + st h S)) := HB4.out.rafter C hR5 hG5 hC5
          clear hR5 hG5 hC5 HK4 HRr HB4 hb34 Hw4 HB3 HK3 hz Hbr
          obtain ⟨s, hs⟩ : ∃ s, s = strB (root key L h) := ⟨_, rfl⟩
          have HSs := Lib.hid hs
          clear hs
          obtain ⟨a, b2, ca, cb, hR⟩ := HB5.out.rf
          have HR := Lib.hid hR
          clear hR
          have HKeep : Hid (∀ X, Below w5.heap.size w5 X → (convert 22 9 (.slice (some ⟨br, 0, none⟩) 32 32)).run Tryd.prog X = .ok (.string s) X ∧ X.cell? ⟨M, 0, none⟩ = some (.slice (some ⟨a, 0, none⟩) n ca)) := fun X hX => by
            refine ⟨?_, by have := (HR.out.below hX).c0; rwa [HLn.out] at this⟩
            rw [HSs.out]
            exact conv_arg ((Hrs.out.row (HRr5.out.below hX HRr5.out.lt)).arg 32 Hrs.out.2)
          have HL7 : Hid (L.length ≤ 100) := by show _ ≤ _; rw [HLn.out]; exact hn2
          go_wp2_with fail
          have hC : Below w5.heap.size w5 w5.drew := below_drewN (Below.refl _ _) 1
          refine wp_region_held_drew (S := (fun X => (convert 22 9 (.slice (some ⟨br, 0, none⟩) 32 32)).run Tryd.prog X = .ok (.string s) X ∧ X.cell? ⟨M, 0, none⟩ = some (.slice (some ⟨a, 0, none⟩) n ca))) (by kernel_rfl) (HKeep.out _ hC) (fun hHeld => ?_)
          generalize w5.drew = w5d at *
          refine wpAnyH_take (i := 0) (oi := ⟨some 169, _, _, _, _, _⟩) (v := ?_) rfl (by kernel_rfl) (by kernel_rfl) (by kernel_rfl) (fun _ _ _ h => h) (Or.inl ⟨by rfl, ?_⟩) hHeld ?_
          rotate_left
          · intro w hSw
            go_simp
            with_reducible rfl
          try go_frame
          refine wpAnyH_take (i := 1) (oi := ⟨some 170, _, _, _, _, _⟩) (v := ?_) rfl (by kernel_rfl) (by kernel_rfl) (by kernel_rfl) (fun _ _ _ h => h) (Or.inl ⟨by rfl, ?_⟩) hHeld ?_
          rotate_left
          · intro w hSw
            have hc := hSw.1
            go_simp
            with_reducible rfl
          try go_frame
          refine wpAnyH_take (i := 2) (oi := ⟨some 171, _, _, _, _, _⟩) (v := ?_) rfl (by kernel_rfl) (by kernel_rfl) (by kernel_rfl) (fun _ _ _ h => h) (Or.inl ⟨by rfl, ?_⟩) hHeld ?_
          rotate_left
          · intro w hSw
            go_simp
            with_reducible rfl
          try go_frame
          refine wpAnyH_take (i := 3) (oi := ⟨some 172, _, _, _, _, _⟩) (v := ?_) rfl (by kernel_rfl) (by kernel_rfl) (by kernel_rfl) (fun _ _ _ h => h) (Or.inl ⟨by rfl, ?_⟩) hHeld ?_
          rotate_left
          · intro w hSw
            go_simp
            with_reducible rfl
          try go_frame
          refine wpAnyH_take (i := 4) (oi := ⟨some 173, _, _, _, _, _⟩) (v := ?_) rfl (by kernel_rfl) (by kernel_rfl) (by kernel_rfl) (fun _ _ _ h => h) (Or.inl ⟨by rfl, ?_⟩) hHeld ?_
          rotate_left
          · intro w hSw
            go_simp
            with_reducible rfl
          try go_frame
          refine wpAnyH_take (i := 5) (oi := ⟨some 174, _, _, _, _, _⟩) (v := ?_) rfl (by kernel_rfl) (by kernel_rfl) (by kernel_rfl) (fun _ _ _ h => h) (Or.inl ⟨by rfl, ?_⟩) hHeld ?_
          rotate_left
          · intro w hSw
            go_simp
            with_reducible rfl
          try go_frame
          refine wpAnyH_take (i := 6) (oi := ⟨some 175, _, _, _, _, _⟩) (v := ?_) rfl (by kernel_rfl) (by kernel_rfl) (by kernel_rfl) (fun _ _ _ h => h) (Or.inl ⟨by rfl, ?_⟩) hHeld ?_
          rotate_left
          · intro w hSw
            have hc := hSw.2
            go_simp
            with_reducible rfl
          try go_frame
          refine wpAnyH_ready (rs := [7]) (by kernel_rfl) (by simp) ?_
          refine AllReadyH.cons (o := ⟨some 176, _, _, _, _, _⟩) rfl (fun K hK => ?_) AllReadyH.nil
          go_simp
          go_at_call 12
          refine (RMRoot_any _ key L H32.out HL7.out _ w5d (HK5.out.at.below hC) (by have h1 := (HR.out.below hC).fromL; rwa [HLn.out] at h1)).mono ?_
          rintro e w5d_rr ⟨⟨h2, Hh2, rfl⟩, hb⟩
          replace hC := hC.trans (hb.mono hC.size)
          refine hK.out _ _ (HKeep.out _ hC) (fun hHeld => ?_)
          clear hK K hb 
          obtain rfl : h = h2 := IsH.unique (by rw [HLn.out]; exact Hh.out) Hh2.out
          rw [VS, ← HSs.out]
          clear Hh2
          try go_frame
          refine wpAnyH_take (i := 8) (oi := ⟨some 177, _, _, _, _, _⟩) (v := ?_) rfl (by kernel_rfl) (by kernel_rfl) (by kernel_rfl) (fun _ _ _ h => h) (Or.inl ⟨by rfl, ?_⟩) hHeld ?_
          rotate_left
          · intro w hSw
            go_simp
            with_reducible rfl
          try go_frame
          refine wpAnyH_done (by kernel_rfl) ?_ _
          have HB6 : Hid (Bth T w w5d_rr (fun q => KS q ∨ q = br) key D M F3 G5 L (List.replicate L.length false) (V + st h S) L (List.replicate L.length false) (V + st h S)) := HB5.out.still C hC
          have HK6 : Hid (KeyOn w5d_rr KS pk key) := HK5.out.below hC
          clear hHeld HKeep hC HR HRr5 HB5 HK5
          generalize w5d_rr = w6 at *
          obtain ⟨V3, hV3⟩ : ∃ x, x = V + st h S := ⟨_, rfl⟩
          have hVn : V3 ≤ (k + 1) * 1000 := by have := Hst9.out; rw [hV3, Nat.succ_mul]; omega
          rw [← hV3] at HB6
          clear hV3
          obtain ⟨E, hE⟩ : ∃ E, E = st h (List.replicate L.length false) := ⟨_, rfl⟩
          have HE := Lib.hid hE
          clear hE
          have HKeep : Hid (∀ X, Below w6.heap.size w6 X → X.cell? ⟨M, 2, none⟩ = some (.int .i64 ((V3 : Nat) : Int))) := fun X hX => (HB6.out.rf.below hX).cell2
          go_wp2_with fail
          have hC : Below w6.heap.size w6 w6.drew := below_drewN (Below.refl _ _) 1
          refine wp_region_held_drew (S := (fun X => X.cell? ⟨M, 2, none⟩ = some (.int .i64 ((V3 : Nat) : Int)))) (by kernel_rfl) (HKeep.out _ hC) (fun hHeld => ?_)
          generalize w6.drew = w6d at *
          refine wpAnyH_take (i := 0) (oi := ⟨some 178, _, _, _, _, _⟩) (v := ?_) rfl (by kernel_rfl) (by kernel_rfl) (by kernel_rfl) (fun _ _ _ h => h) (Or.inl ⟨by rfl, ?_⟩) hHeld ?_
          rotate_left
          · intro w hSw
            go_simp
            with_reducible rfl
          try go_frame
          refine wpAnyH_take (i := 2) (oi := ⟨some 180, _, _, _, _, _⟩) (v := ?_) rfl (by kernel_rfl) (by kernel_rfl) (by kernel_rfl) (fun _ _ _ h => h) (Or.inl ⟨by rfl, ?_⟩) hHeld ?_
          rotate_left
          · intro w hSw
            go_simp
            with_reducible rfl
          try go_frame
          refine wpAnyH_ready (rs := [1]) (by kernel_rfl) (by simp) ?_
          refine AllReadyH.cons (o := ⟨some 179, _, _, _, _, _⟩) rfl (fun K hK => ?_) AllReadyH.nil
          go_simp
          go_at_call 14
          refine (C.stale (C.stay HB6.out.tr (Chg.below hC fun _ _ => False) fun _ _ _ x => x) h (by rw [HLn.out]; exact Hh.out)).mono ?_
          rintro e w6d_s1 ⟨rfl, hb⟩
          replace hC := hC.trans (hb.mono hC.size)
          refine hK.out _ _ (HKeep.out _ hC) (fun hHeld => ?_)
          clear hK K hb 
          rw [← HE.out]
          try go_frame
          refine wpAnyH_ready (rs := [3]) (by kernel_rfl) (by simp) ?_
          refine AllReadyH.cons (o := ⟨some 181, _, _, _, _, _⟩) rfl (fun K hK => ?_) AllReadyH.nil
          go_simp
          go_at_call 15
          refine (RQStale_any (HB6.out.rf.below hC) h (by rw [HLn.out]; exact Hh.out)).mono ?_
          rintro e w6d_s1_s2 ⟨rfl, hb⟩
          replace hC := hC.trans (hb.mono hC.size)
          refine hK.out _ _ (HKeep.out _ hC) (fun hHeld => ?_)
          clear hK K hb 
          rw [← HE.out]
          try go_frame
          refine wpAnyH_take (i := 4) (oi := ⟨some 182, _, _, _, _, _⟩) (v := ?_) rfl (by kernel_rfl) (by kernel_rfl) (by kernel_rfl) (fun _ _ _ h => h) (Or.inl ⟨by rfl, ?_⟩) hHeld ?_
          rotate_left
          · intro w hSw
            go_simp
            with_reducible rfl
          try go_frame
          refine wpAnyH_take (i := 5) (oi := ⟨some 183, _, _, _, _, _⟩) (v := ?_) rfl (by kernel_rfl) (by kernel_rfl) (by kernel_rfl) (fun _ _ _ h => h) (Or.inl ⟨by rfl, ?_⟩) hHeld ?_
          rotate_left
          · intro w hSw
            go_simp
            with_reducible rfl
          try go_frame
          refine wpAnyH_take (i := 6) (oi := ⟨some 184, _, _, _, _, _⟩) (v := ?_) rfl (by kernel_rfl) (by kernel_rfl) (by kernel_rfl) (fun _ _ _ h => h) (Or.inl ⟨by rfl, ?_⟩) hHeld ?_
          rotate_left
          · intro w hSw
            go_simp
            with_reducible rfl
          try go_frame
          refine wpAnyH_take (i := 8) (oi := ⟨some 186, _, _, _, _, _⟩) (v := ?_) rfl (by kernel_rfl) (by kernel_rfl) (by kernel_rfl) (fun _ _ _ h => h) (Or.inl ⟨by rfl, ?_⟩) hHeld ?_
          rotate_left
          · intro w hSw
            go_simp
            with_reducible rfl
          try go_frame
          refine wpAnyH_take (i := 9) (oi := ⟨some 187, _, _, _, _, _⟩) (v := ?_) rfl (by kernel_rfl) (by kernel_rfl) (by kernel_rfl) (fun _ _ _ h => h) (Or.inl ⟨by rfl, ?_⟩) hHeld ?_
          rotate_left
          · intro w hSw
            go_simp
            with_reducible rfl
          try go_frame
          refine wpAnyH_take (i := 10) (oi := ⟨some 188, _, _, _, _, _⟩) (v := ?_) rfl (by kernel_rfl) (by kernel_rfl) (by kernel_rfl) (fun _ _ _ h => h) (Or.inl ⟨by rfl, ?_⟩) hHeld ?_
          rotate_left
          · intro w hSw
            go_simp
            with_reducible rfl
          try go_frame
          refine wpAnyH_take (i := 11) (oi := ⟨some 189, _, _, _, _, _⟩) (v := ?_) rfl (by kernel_rfl) (by kernel_rfl) (by kernel_rfl) (fun _ _ _ h => h) (Or.inl ⟨by rfl, ?_⟩) hHeld ?_
          rotate_left
          · intro w hSw
            have hc := hSw
            go_simp
            with_reducible rfl
          try go_frame
          refine wpAnyH_ready (rs := [7]) (by kernel_rfl) (by simp) ?_
          refine AllReadyH.cons (o := ⟨some 185, _, _, _, _, _⟩) rfl (fun K hK => ?_) AllReadyH.nil
          go_simp
          go_at_call 16
          refine (C.work (C.stay HB6.out.tr (Chg.below hC fun _ _ => False) fun _ _ _ x => x)).mono ?_
          rintro e w6d_s1_s2_s3 ⟨rfl, hb⟩
          replace hC := hC.trans (hb.mono hC.size)
          refine hK.out _ _ (HKeep.out _ hC) (fun hHeld => ?_)
          clear hK K hb 
          try go_frame
          refine wpAnyH_take (i := 12) (oi := ⟨some 190, _, _, _, _, _⟩) (v := ?_) rfl (by kernel_rfl) (by kernel_rfl) (by kernel_rfl) (fun _ _ _ h => h) (Or.inl ⟨by rfl, ?_⟩) hHeld ?_
          rotate_left
          · intro w hSw
            go_simp
            with_reducible rfl
          try go_frame
          refine wpAnyH_take (i := 13) (oi := ⟨some 191, _, _, _, _, _⟩) (v := ?_) rfl (by kernel_rfl) (by kernel_rfl) (by kernel_rfl) (fun _ _ _ h => h) (Or.inl ⟨by rfl, ?_⟩) hHeld ?_
          rotate_left
          · intro w hSw
            go_simp
            with_reducible rfl
          try go_frame
          refine wpAnyH_done (by kernel_rfl) ?_ _
          have HBj : Hid (Bth T w w6d_s1_s2_s3 KS key D M F3 G5 L (List.replicate L.length false) V3 L (List.replicate L.length false) V3) := (HB6.out.still C hC).less
          have HKj : Hid (KeyOn w6d_s1_s2_s3 KS pk key) := HK6.out.below hC
          clear hHeld hC HKeep
          go_wp2
          go_roundw
          case rel => exact ⟨k + 1, F3, G5, L, (List.replicate L.length false), V3, by omega, by go_num, hVn, HBj, HKj, by show _ = _; rw [HLn.out]⟩
          case measure => rw [iO9, show intOf (.int .i64 (k : Int)) = (k : Int) from rfl]; omega
      rcases Int.lt_or_le x 0 with hneg | hnn
      · have hbad : x < 0 ∨ (n : Int) ≤ x := .inl hneg
        as_aux_lemma =>
          go_wp2_with (first | (refine wpList_load_mid rfl 36 (.tmp 74) rfl b (o + k * 34) rfl cq _ HLd.out Tryd.underlying36 rfl (by rw [Hcn.out]; kernel_rfl) ?_) | (refine wpList_store_row rfl 36 (.tmp 12) (.tmp 75) rfl wr.heap.size cq.toArray rfl rfl 36 _ (Row.new wr _ ZQ) (by rw [Hcz.out]; kernel_rfl) (by rw [Hcz.out]; rfl) Hco.out ?_; rw [← Hwx.out, ← Hbx.out]))
          refine (C.getBad HBx.out.tr x (by rw [HLn.out]; exact hbad)).mono ?_
          rintro e w3 ⟨rfl, hb3⟩
          have Hrz : Hid (Hm.Z32.toArray.size = 32) := rfl
          have Hro : Hid (Hm.Z32.toArray.all (·.oneCell') = true) := by show _ = _; kernel_rfl
          have Hrn : Hid (Hm.Z32.length = 32) := rfl
          have hz := Hm.zeroTag
          obtain ⟨bg, hbg⟩ : ∃ q, q = w3.heap.size := ⟨_, rfl⟩
          obtain ⟨w4, hw4⟩ : ∃ X, X = (w3.alloc (.cells Hm.Z32.toArray 34)).setRow w3.heap.size Hm.Z32.toArray := ⟨_, rfl⟩
          have hb34 : Below w3.heap.size w3 w4 := by rw [hw4]; exact below_setRow' ((Below.refl _ _).alloc (Nat.le_refl _) _) (Nat.le_refl _) Hm.Z32.toArray
          have hb04 : Below wx.heap.size wx w4 := hb3.trans (hb34.mono hb3.size)
          have HRg : Hid (Row w4 bg 34 Hm.Z32) := by rw [hw4, hbg]; exact (Row.new w3 34 Hm.Z32).whole Hm.Z32
          have HX4 : Hid (Row w4 bx 36 cq) := HX.out.below hb04 HX.out.lt
          have HK4 : Hid (KeyOn w4 KS pk key) := HKx.out.below hb04
          have HB4 : Hid (Bth T w w4 (fun q => KS q ∨ q = bx) key D M F G L S V L S V) := HBx.out.still C hb04
          have Hw4 := Lib.hid hw4
          have Hbg := Lib.hid hbg
          clear hw4 hbg
          go_wp2_with (refine wpList_store_row rfl 34 (.tmp 16) (.tmp 92) rfl w3.heap.size Hm.Z32.toArray rfl rfl 34 _ (Row.new w3 _ Hm.Z32) (by rw [Hrz.out]; kernel_rfl) (by first | rfl | (rw [Hrz.out]; rfl)) Hro.out ?_; rw [← Hw4.out, ← Hbg.out])
          clear hb3 hb34 hb04 Hw4 Hbg hz HX HKx HBx
          obtain ⟨a, b2, ca, cb, hR⟩ := HB4.out.rf
          have HR := Lib.hid hR
          clear hR
          have HKeep : Hid (∀ X, Below w4.heap.size w4 X → Row X bg 34 Hm.Z32) := fun X hX => HRg.out.below hX HRg.out.lt
          have HZe : Hid (∀ W, (Op.equalIn 10000 34 (.agg Hm.Z32.toArray) (.agg Hm.Z32.toArray)).run Tryd.prog W = .ok true W) := fun W => (arr_eq 34 32 Tryd.underlying34 (List.replicate 32 0) (List.replicate 32 0) Hm.Z32 Hm.Z32 ⟨by rfl, by rfl⟩ ⟨by rfl, by rfl⟩ W).trans (by rw [decide_eq_true rfl])
          have hC : Below w4.heap.size w4 w4.drew := below_drewN (Below.refl _ _) 1
          refine wp_region_held_drew (S := (fun X => Row X bg 34 Hm.Z32)) (by kernel_rfl) (HKeep.out _ hC) (fun hHeld => ?_)
          generalize w4.drew = w4d at *
          refine wpAnyH_take (i := 0) (oi := ⟨some 94, _, _, _, _, _⟩) (v := ?_) rfl (by kernel_rfl) (by kernel_rfl) (by kernel_rfl) (fun _ _ _ h => h) (Or.inl ⟨by rfl, ?_⟩) hHeld ?_
          rotate_left
          · intro w hSw
            go_simp
            with_reducible rfl
          try go_frame
          refine wpAnyH_take (i := 1) (oi := ⟨some 95, _, _, _, _, _⟩) (v := ?_) rfl (by kernel_rfl) (by kernel_rfl) (by kernel_rfl) (fun _ _ _ h => h) (Or.inl ⟨by rfl, ?_⟩) hHeld ?_
          rotate_left
          · intro w hSw
            go_simp
            with_reducible rfl
          try go_frame
          refine wpAnyH_take (i := 2) (oi := ⟨some 96, _, _, _, _, _⟩) (v := undef) rfl (by kernel_rfl) (by kernel_rfl) (by kernel_rfl) (fun _ _ _ h => h) (Or.inr ⟨by rfl, rfl⟩) hHeld ?_
          try go_frame
          refine wpAnyH_take (i := 3) (oi := ⟨some 97, _, _, _, _, _⟩) (v := undef) rfl (by kernel_rfl) (by kernel_rfl) (by kernel_rfl) (fun _ _ _ h => h) (Or.inr ⟨by rfl, rfl⟩) hHeld ?_
          try go_frame
          refine wpAnyH_take (i := 4) (oi := ⟨some 98, _, _, _, _, _⟩) (v := undef) rfl (by kernel_rfl) (by kernel_rfl) (by kernel_rfl) (fun _ _ _ h => h) (Or.inr ⟨by rfl, rfl⟩) hHeld ?_
          try go_frame
          refine wpAnyH_take (i := 5) (oi := ⟨some 99, _, _, _, _, _⟩) (v := undef) rfl (by kernel_rfl) (by kernel_rfl) (by kernel_rfl) (fun _ _ _ h => h) (Or.inr ⟨by rfl, rfl⟩) hHeld ?_
          try go_frame
          refine wpAnyH_take (i := 6) (oi := ⟨some 100, _, _, _, _, _⟩) (v := undef) rfl (by kernel_rfl) (by kernel_rfl) (by kernel_rfl) (fun _ _ _ h => h) (Or.inr ⟨by rfl, rfl⟩) hHeld ?_
          try go_frame
          refine wpAnyH_take (i := 7) (oi := ⟨some 101, _, _, _, _, _⟩) (v := undef) rfl (by kernel_rfl) (by kernel_rfl) (by kernel_rfl) (fun _ _ _ h => h) (Or.inr ⟨by rfl, rfl⟩) hHeld ?_
          try go_frame
          refine wpAnyH_take (i := 8) (oi := ⟨some 102, _, _, _, _, _⟩) (v := undef) rfl (by kernel_rfl) (by kernel_rfl) (by kernel_rfl) (fun _ _ _ h => h) (Or.inr ⟨by rfl, rfl⟩) hHeld ?_
          try go_frame
          refine wpAnyH_take (i := 9) (oi := ⟨some 103, _, _, _, _, _⟩) (v := undef) rfl (by kernel_rfl) (by kernel_rfl) (by kernel_rfl) (fun _ _ _ h => h) (Or.inr ⟨by rfl, rfl⟩) hHeld ?_
          try go_frame
          refine wpAnyH_take (i := 10) (oi := ⟨some 104, _, _, _, _, _⟩) (v := undef) rfl (by kernel_rfl) (by kernel_rfl) (by kernel_rfl) (fun _ _ _ h => h) (Or.inr ⟨by rfl, rfl⟩) hHeld ?_
          try go_frame
          refine wpAnyH_take (i := 11) (oi := ⟨some 105, _, _, _, _, _⟩) (v := undef) rfl (by kernel_rfl) (by kernel_rfl) (by kernel_rfl) (fun _ _ _ h => h) (Or.inr ⟨by rfl, rfl⟩) hHeld ?_
          try go_frame
          refine wpAnyH_take (i := 12) (oi := ⟨some 106, _, _, _, _, _⟩) (v := undef) rfl (by kernel_rfl) (by kernel_rfl) (by kernel_rfl) (fun _ _ _ h => h) (Or.inr ⟨by rfl, rfl⟩) hHeld ?_
          try go_frame
          refine wpAnyH_take (i := 13) (oi := ⟨some 107, _, _, _, _, _⟩) (v := undef) rfl (by kernel_rfl) (by kernel_rfl) (by kernel_rfl) (fun _ _ _ h => h) (Or.inr ⟨by rfl, rfl⟩) hHeld ?_
          try go_frame
          refine wpAnyH_take (i := 14) (oi := ⟨some 108, _, _, _, _, _⟩) (v := undef) rfl (by kernel_rfl) (by kernel_rfl) (by kernel_rfl) (fun _ _ _ h => h) (Or.inr ⟨by rfl, rfl⟩) hHeld ?_
          try go_frame
          refine wpAnyH_take (i := 15) (oi := ⟨some 109, _, _, _, _, _⟩) (v := undef) rfl (by kernel_rfl) (by kernel_rfl) (by kernel_rfl) (fun _ _ _ h => h) (Or.inr ⟨by rfl, rfl⟩) hHeld ?_
          try go_frame
          refine wpAnyH_take (i := 16) (oi := ⟨some 110, _, _, _, _, _⟩) (v := undef) rfl (by kernel_rfl) (by kernel_rfl) (by kernel_rfl) (fun _ _ _ h => h) (Or.inr ⟨by rfl, rfl⟩) hHeld ?_
          try go_frame
          refine wpAnyH_take (i := 17) (oi := ⟨some 111, _, _, _, _, _⟩) (v := ?_) rfl (by kernel_rfl) (by kernel_rfl) (by kernel_rfl) (fun _ _ _ h => h) (Or.inl ⟨by rfl, ?_⟩) hHeld ?_
          rotate_left
          · intro w hSw
            go_simp
            with_reducible rfl
          try go_frame
          refine wpAnyH_take (i := 18) (oi := ⟨some 112, _, _, _, _, _⟩) (v := ?_) rfl (by kernel_rfl) (by kernel_rfl) (by kernel_rfl) (fun _ _ _ h => h) (Or.inl ⟨by rfl, ?_⟩) hHeld ?_
          rotate_left
          · intro w hSw
            go_simp
            with_reducible rfl
          try go_frame
          refine wpAnyH_take (i := 19) (oi := ⟨some 113, _, _, _, _, _⟩) (v := ?_) rfl (by kernel_rfl) (by kernel_rfl) (by kernel_rfl) (fun _ _ _ h => h) (Or.inl ⟨by rfl, ?_⟩) hHeld ?_
          rotate_left
          · intro w hSw
            go_simp
            with_reducible rfl
          try go_frame
          refine wpAnyH_take (i := 20) (oi := ⟨some 114, _, _, _, _, _⟩) (v := ?_) rfl (by kernel_rfl) (by kernel_rfl) (by kernel_rfl) (fun _ _ _ h => h) (Or.inl ⟨by rfl, ?_⟩) hHeld ?_
          rotate_left
          · intro w hSw
            go_simp
            with_reducible rfl
          try go_frame
          refine wpAnyH_take (i := 21) (oi := ⟨some 115, _, _, _, _, _⟩) (v := ?_) rfl (by kernel_rfl) (by kernel_rfl) (by kernel_rfl) (fun _ _ _ h => h) (Or.inl ⟨by rfl, ?_⟩) hHeld ?_
          rotate_left
          · intro w hSw
            go_simp
            with_reducible rfl
          try go_frame
          refine wpAnyH_take (i := 22) (oi := ⟨some 116, _, _, _, _, _⟩) (v := ?_) rfl (by kernel_rfl) (by kernel_rfl) (by kernel_rfl) (fun _ _ _ h => h) (Or.inl ⟨by rfl, ?_⟩) hHeld ?_
          rotate_left
          · intro w hSw
            go_simp
            with_reducible rfl
          try go_frame
          refine wpAnyH_take (i := 23) (oi := ⟨some 117, _, _, _, _, _⟩) (v := ?_) rfl (by kernel_rfl) (by kernel_rfl) (by kernel_rfl) (fun _ _ _ h => h) (Or.inl ⟨by rfl, ?_⟩) hHeld ?_
          rotate_left
          · intro w hSw
            go_simp
            with_reducible rfl
          try go_frame
          refine wpAnyH_take (i := 24) (oi := ⟨some 118, _, _, _, _, _⟩) (v := ?_) rfl (by kernel_rfl) (by kernel_rfl) (by kernel_rfl) (fun _ _ _ h => h) (Or.inl ⟨by rfl, ?_⟩) hHeld ?_
          rotate_left
          · intro w hSw
            go_simp
            with_reducible rfl
          try go_frame
          refine wpAnyH_take (i := 25) (oi := ⟨some 119, _, _, _, _, _⟩) (v := .agg (Hm.Z32).toArray) rfl (by kernel_rfl) (by kernel_rfl) (by kernel_rfl) (fun _ _ _ h => h) (yieldsIf_load_mid (by rfl) 34 (.tmp 16) rfl bg 0 rfl Hm.Z32 _ (fun W h => h.sees) Tryd.underlying34 rfl (by kernel_rfl)) hHeld ?_
          try go_frame
          refine wpAnyH_take (i := 26) (oi := ⟨some 120, _, _, _, _, _⟩) (v := ?_) rfl (by kernel_rfl) (by kernel_rfl) (by kernel_rfl) (fun _ _ _ h => h) (Or.inl ⟨by rfl, ?_⟩) hHeld ?_
          rotate_left
          · intro w hSw
            go_simp
            with_reducible rfl
          try go_frame
          refine wpAnyH_take (i := 27) (oi := ⟨some 121, _, _, _, _, _⟩) (v := ?_) rfl (by kernel_rfl) (by kernel_rfl) (by kernel_rfl) (fun _ _ _ h => h) (Or.inl ⟨by rfl, ?_⟩) hHeld ?_
          rotate_left
          · intro w hSw
            have hze : ∀ W, (Op.equalIn 10000 34 (.agg Hm.Z32.toArray) (.agg #[.int .u8 0, .int .u8 0, .int .u8 0, .int .u8 0, .int .u8 0, .int .u8 0, .int .u8 0, .int .u8 0, .int .u8 0, .int .u8 0, .int .u8 0, .int .u8 0, .int .u8 0, .int .u8 0, .int .u8 0, .int .u8 0, .int .u8 0, .int .u8 0, .int .u8 0, .int .u8 0, .int .u8 0, .int .u8 0, .int .u8 0, .int .u8 0, .int .u8 0, .int .u8 0, .int .u8 0, .int .u8 0, .int .u8 0, .int .u8 0, .int .u8 0, .int .u8 0])).run Tryd.prog W = .ok true W := HZe.out
            go_simp
            with_reducible rfl
          try go_frame
          refine wpAnyH_take (i := 28) (oi := ⟨some 122, _, _, _, _, _⟩) (v := ?_) rfl (by kernel_rfl) (by kernel_rfl) (by kernel_rfl) (fun _ _ _ h => h) (Or.inl ⟨by rfl, ?_⟩) hHeld ?_
          rotate_left
          · intro w hSw
            go_simp
            with_reducible rfl
          try go_frame
          refine wpAnyH_take (i := 29) (oi := ⟨some 123, _, _, _, _, _⟩) (v := ?_) rfl (by kernel_rfl) (by kernel_rfl) (by kernel_rfl) (fun _ _ _ h => h) (Or.inl ⟨by rfl, ?_⟩) hHeld ?_
          rotate_left
          · intro w hSw
            go_simp
            with_reducible rfl
          try go_frame
          refine wpAnyH_take (i := 30) (oi := ⟨some 124, _, _, _, _, _⟩) (v := ?_) rfl (by kernel_rfl) (by kernel_rfl) (by kernel_rfl) (fun _ _ _ h => h) (Or.inl ⟨by rfl, ?_⟩) hHeld ?_
          rotate_left
          · intro w hSw
            go_simp
            with_reducible rfl
          try go_frame
          refine wpAnyH_done (by kernel_rfl) ?_ _
          have HB6 : Hid (Bth T w w4d (fun q => KS q ∨ q = bx) key D M F G L S V L S V) := HB4.out.still C hC
          have HK6 : Hid (KeyOn w4d KS pk key) := HK4.out.below hC
          clear hHeld HKeep hC HR HRg HX4 HB4 HK4
          generalize w4d = w6 at *
          obtain ⟨E, hE⟩ : ∃ E, E = st h S := ⟨_, rfl⟩
          have HE := Lib.hid hE
          clear hE
          have HKeep : Hid (∀ X, Below w6.heap.size w6 X → X.cell? ⟨M, 2, none⟩ = some (.int .i64 ((V : Nat) : Int))) := fun X hX => (HB6.out.rf.below hX).cell2
          go_wp2_with fail
          have hC : Below w6.heap.size w6 w6.drew := below_drewN (Below.refl _ _) 1
          refine wp_region_held_drew (S := (fun X => X.cell? ⟨M, 2, none⟩ = some (.int .i64 ((V : Nat) : Int)))) (by kernel_rfl) (HKeep.out _ hC) (fun hHeld => ?_)
          generalize w6.drew = w6d at *
          refine wpAnyH_take (i := 0) (oi := ⟨some 178, _, _, _, _, _⟩) (v := ?_) rfl (by kernel_rfl) (by kernel_rfl) (by kernel_rfl) (fun _ _ _ h => h) (Or.inl ⟨by rfl, ?_⟩) hHeld ?_
          rotate_left
          · intro w hSw
            go_simp
            with_reducible rfl
          try go_frame
          refine wpAnyH_take (i := 2) (oi := ⟨some 180, _, _, _, _, _⟩) (v := ?_) rfl (by kernel_rfl) (by kernel_rfl) (by kernel_rfl) (fun _ _ _ h => h) (Or.inl ⟨by rfl, ?_⟩) hHeld ?_
          rotate_left
          · intro w hSw
            go_simp
            with_reducible rfl
          try go_frame
          refine wpAnyH_ready (rs := [1]) (by kernel_rfl) (by simp) ?_
          refine AllReadyH.cons (o := ⟨some 179, _, _, _, _, _⟩) rfl (fun K hK => ?_) AllReadyH.nil
          go_simp
          go_at_call 14
          refine (C.stale (C.stay HB6.out.tr (Chg.below hC fun _ _ => False) fun _ _ _ x => x) h (by rw [HLn.out]; exact Hh.out)).mono ?_
          rintro e w6d_s1 ⟨rfl, hb⟩
          replace hC := hC.trans (hb.mono hC.size)
          refine hK.out _ _ (HKeep.out _ hC) (fun hHeld => ?_)
          clear hK K hb 
          rw [← HE.out]
          try go_frame
          refine wpAnyH_ready (rs := [3]) (by kernel_rfl) (by simp) ?_
          refine AllReadyH.cons (o := ⟨some 181, _, _, _, _, _⟩) rfl (fun K hK => ?_) AllReadyH.nil
          go_simp
          go_at_call 15
          refine (RQStale_any (HB6.out.rf.below hC) h (by rw [HLn.out]; exact Hh.out)).mono ?_
          rintro e w6d_s1_s2 ⟨rfl, hb⟩
          replace hC := hC.trans (hb.mono hC.size)
          refine hK.out _ _ (HKeep.out _ hC) (fun hHeld => ?_)
          clear hK K hb 
          rw [← HE.out]
          try go_frame
          refine wpAnyH_take (i := 4) (oi := ⟨some 182, _, _, _, _, _⟩) (v := ?_) rfl (by kernel_rfl) (by kernel_rfl) (by kernel_rfl) (fun _ _ _ h => h) (Or.inl ⟨by rfl, ?_⟩) hHeld ?_
          rotate_left
          · intro w hSw
            go_simp
            with_reducible rfl
          try go_frame
          refine wpAnyH_take (i := 5) (oi := ⟨some 183, _, _, _, _, _⟩) (v := ?_) rfl (by kernel_rfl) (by kernel_rfl) (by kernel_rfl) (fun _ _ _ h => h) (Or.inl ⟨by rfl, ?_⟩) hHeld ?_
          rotate_left
          · intro w hSw
            go_simp
            with_reducible rfl
          try go_frame
          refine wpAnyH_take (i := 6) (oi := ⟨some 184, _, _, _, _, _⟩) (v := ?_) rfl (by kernel_rfl) (by kernel_rfl) (by kernel_rfl) (fun _ _ _ h => h) (Or.inl ⟨by rfl, ?_⟩) hHeld ?_
          rotate_left
          · intro w hSw
            go_simp
            with_reducible rfl
          try go_frame
          refine wpAnyH_take (i := 8) (oi := ⟨some 186, _, _, _, _, _⟩) (v := ?_) rfl (by kernel_rfl) (by kernel_rfl) (by kernel_rfl) (fun _ _ _ h => h) (Or.inl ⟨by rfl, ?_⟩) hHeld ?_
          rotate_left
          · intro w hSw
            go_simp
            with_reducible rfl
          try go_frame
          refine wpAnyH_take (i := 9) (oi := ⟨some 187, _, _, _, _, _⟩) (v := ?_) rfl (by kernel_rfl) (by kernel_rfl) (by kernel_rfl) (fun _ _ _ h => h) (Or.inl ⟨by rfl, ?_⟩) hHeld ?_
          rotate_left
          · intro w hSw
            go_simp
            with_reducible rfl
          try go_frame
          refine wpAnyH_take (i := 10) (oi := ⟨some 188, _, _, _, _, _⟩) (v := ?_) rfl (by kernel_rfl) (by kernel_rfl) (by kernel_rfl) (fun _ _ _ h => h) (Or.inl ⟨by rfl, ?_⟩) hHeld ?_
          rotate_left
          · intro w hSw
            go_simp
            with_reducible rfl
          try go_frame
          refine wpAnyH_take (i := 11) (oi := ⟨some 189, _, _, _, _, _⟩) (v := ?_) rfl (by kernel_rfl) (by kernel_rfl) (by kernel_rfl) (fun _ _ _ h => h) (Or.inl ⟨by rfl, ?_⟩) hHeld ?_
          rotate_left
          · intro w hSw
            have hc := hSw
            go_simp
            with_reducible rfl
          try go_frame
          refine wpAnyH_ready (rs := [7]) (by kernel_rfl) (by simp) ?_
          refine AllReadyH.cons (o := ⟨some 185, _, _, _, _, _⟩) rfl (fun K hK => ?_) AllReadyH.nil
          go_simp
          go_at_call 16
          refine (C.work (C.stay HB6.out.tr (Chg.below hC fun _ _ => False) fun _ _ _ x => x)).mono ?_
          rintro e w6d_s1_s2_s3 ⟨rfl, hb⟩
          replace hC := hC.trans (hb.mono hC.size)
          refine hK.out _ _ (HKeep.out _ hC) (fun hHeld => ?_)
          clear hK K hb 
          try go_frame
          refine wpAnyH_take (i := 12) (oi := ⟨some 190, _, _, _, _, _⟩) (v := ?_) rfl (by kernel_rfl) (by kernel_rfl) (by kernel_rfl) (fun _ _ _ h => h) (Or.inl ⟨by rfl, ?_⟩) hHeld ?_
          rotate_left
          · intro w hSw
            go_simp
            with_reducible rfl
          try go_frame
          refine wpAnyH_take (i := 13) (oi := ⟨some 191, _, _, _, _, _⟩) (v := ?_) rfl (by kernel_rfl) (by kernel_rfl) (by kernel_rfl) (fun _ _ _ h => h) (Or.inl ⟨by rfl, ?_⟩) hHeld ?_
          rotate_left
          · intro w hSw
            go_simp
            with_reducible rfl
          try go_frame
          refine wpAnyH_done (by kernel_rfl) ?_ _
          have HBj : Hid (Bth T w w6d_s1_s2_s3 KS key D M F G L S V L S V) := (HB6.out.still C hC).less
          have HKj : Hid (KeyOn w6d_s1_s2_s3 KS pk key) := HK6.out.below hC
          clear hHeld hC HKeep
          go_wp2
          go_roundw
          case rel => exact ⟨k + 1, F, G, L, S, V, by omega, by go_num, by omega, HBj, HKj, by show _ = _; rw [HLn.out]⟩
          case measure => rw [iO9, show intOf (.int .i64 (k : Int)) = (k : Int) from rfl]; omega
      rcases Int.lt_or_le x (n : Int) with hfit | hge
      · obtain ⟨i, rfl⟩ : ∃ i : Nat, x = (i : Int) := ⟨x.toNat, by omega⟩
        have hin : i < n := by omega
        clear hnn hfit hxlo hxhi
        as_aux_lemma =>
          go_wp2_with (first | (refine wpList_load_mid rfl 36 (.tmp 74) rfl b (o + k * 34) rfl cq _ HLd.out Tryd.underlying36 rfl (by rw [Hcn.out]; kernel_rfl) ?_) | (refine wpList_store_row rfl 36 (.tmp 12) (.tmp 75) rfl wr.heap.size cq.toArray rfl rfl 36 _ (Row.new wr _ ZQ) (by rw [Hcz.out]; kernel_rfl) (by rw [Hcz.out]; rfl) Hco.out ?_; rw [← Hwx.out, ← Hbx.out]))
          refine (C.getOk HBx.out.tr i (by rw [HLn.out]; exact hin)).mono ?_
          rintro e w3 ⟨⟨rs, Hrs, rfl⟩, hb3⟩
          have Hrz : Hid (rs.toArray.size = 32) := Hrs.out.size
          have Hro : Hid (rs.toArray.all (·.oneCell') = true) := Hrs.out.one
          have Hrn : Hid (rs.length = 32) := Hrs.out.len
          have hz := Hm.zeroTag
          obtain ⟨bg, hbg⟩ : ∃ q, q = w3.heap.size := ⟨_, rfl⟩
          obtain ⟨w4, hw4⟩ : ∃ X, X = (w3.alloc (.cells Hm.Z32.toArray 34)).setRow w3.heap.size rs.toArray := ⟨_, rfl⟩
          have hb34 : Below w3.heap.size w3 w4 := by rw [hw4]; exact below_setRow' ((Below.refl _ _).alloc (Nat.le_refl _) _) (Nat.le_refl _) rs.toArray
          have hb04 : Below wx.heap.size wx w4 := hb3.trans (hb34.mono hb3.size)
          have HRg : Hid (Row w4 bg 34 rs) := by rw [hw4, hbg]; exact (Row.new w3 34 Hm.Z32).whole rs
          have HX4 : Hid (Row w4 bx 36 cq) := HX.out.below hb04 HX.out.lt
          have HK4 : Hid (KeyOn w4 KS pk key) := HKx.out.below hb04
          have HB4 : Hid (Bth T w w4 (fun q => KS q ∨ q = bx) key D M F G L S V L S V) := HBx.out.still C hb04
          have Hw4 := Lib.hid hw4
          have Hbg := Lib.hid hbg
          clear hw4 hbg
          go_wp2_with (refine wpList_store_row rfl 34 (.tmp 16) (.tmp 92) rfl w3.heap.size rs.toArray rfl rfl 34 _ (Row.new w3 _ Hm.Z32) (by rw [Hrz.out]; kernel_rfl) (by first | rfl | (rw [Hrz.out]; rfl)) Hro.out ?_; rw [← Hw4.out, ← Hbg.out])
          clear hb3 hb34 hb04 Hw4 Hbg hz HX HKx HBx
          obtain ⟨a, b2, ca, cb, hR⟩ := HB4.out.rf
          have HR := Lib.hid hR
          clear hR
          obtain ⟨s9, hs9⟩ : ∃ s, s = strB (L.getD i []) := ⟨_, rfl⟩
          have HS9 := Lib.hid hs9
          clear hs9
          have HKeep : Hid (∀ X, Below w4.heap.size w4 X → (convert 22 9 (.slice (some ⟨bg, 0, none⟩) 32 32)).run Tryd.prog X = .ok (.string s9) X ∧ X.cell? ⟨M, 0, none⟩ = some (.slice (some ⟨a, 0, none⟩) n ca) ∧ X.cell? ⟨bx, 1, none⟩ = some (.int .i64 (i : Int)) ∧ X.cell? ⟨a, i, none⟩ = some (.string s9)) := fun X hX => by
            refine ⟨?_, by have := (HR.out.below hX).c0; rwa [HLn.out] at this, ((HX4.out.below hX HX4.out.lt).cell 1).trans Hq1.out, ?_⟩
            · rw [HS9.out]; exact conv_arg ((Hrs.out.row (HRg.out.below hX HRg.out.lt)).arg 32 Hrs.out.2)
            · rw [HS9.out]; exact (HR.out.below hX).cellL (i := i) (by rw [HLn.out]; exact hin)
          have hC : Below w4.heap.size w4 w4.drew := below_drewN (Below.refl _ _) 1
          refine wp_region_held_drew (S := (fun X => (convert 22 9 (.slice (some ⟨bg, 0, none⟩) 32 32)).run Tryd.prog X = .ok (.string s9) X ∧ X.cell? ⟨M, 0, none⟩ = some (.slice (some ⟨a, 0, none⟩) n ca) ∧ X.cell? ⟨bx, 1, none⟩ = some (.int .i64 (i : Int)) ∧ X.cell? ⟨a, i, none⟩ = some (.string s9))) (by kernel_rfl) (HKeep.out _ hC) (fun hHeld => ?_)
          generalize w4.drew = w4d at *
          refine wpAnyH_take (i := 0) (oi := ⟨some 94, _, _, _, _, _⟩) (v := ?_) rfl (by kernel_rfl) (by kernel_rfl) (by kernel_rfl) (fun _ _ _ h => h) (Or.inl ⟨by rfl, ?_⟩) hHeld ?_
          rotate_left
          · intro w hSw
            go_simp
            with_reducible rfl
          try go_frame
          refine wpAnyH_take (i := 1) (oi := ⟨some 95, _, _, _, _, _⟩) (v := ?_) rfl (by kernel_rfl) (by kernel_rfl) (by kernel_rfl) (fun _ _ _ h => h) (Or.inl ⟨by rfl, ?_⟩) hHeld ?_
          rotate_left
          · intro w hSw
            go_simp
            with_reducible rfl
          try go_frame
          refine wpAnyH_take (i := 2) (oi := ⟨some 96, _, _, _, _, _⟩) (v := ?_) rfl (by kernel_rfl) (by kernel_rfl) (by kernel_rfl) (fun _ _ _ h => h) (Or.inl ⟨by rfl, ?_⟩) hHeld ?_
          rotate_left
          · intro w hSw
            go_simp
            with_reducible rfl
          try go_frame
          refine wpAnyH_take (i := 3) (oi := ⟨some 97, _, _, _, _, _⟩) (v := ?_) rfl (by kernel_rfl) (by kernel_rfl) (by kernel_rfl) (fun _ _ _ h => h) (Or.inl ⟨by rfl, ?_⟩) hHeld ?_
          rotate_left
          · intro w hSw
            go_simp
            with_reducible rfl
          try go_frame
          refine wpAnyH_take (i := 4) (oi := ⟨some 98, _, _, _, _, _⟩) (v := ?_) rfl (by kernel_rfl) (by kernel_rfl) (by kernel_rfl) (fun _ _ _ h => h) (Or.inl ⟨by rfl, ?_⟩) hHeld ?_
          rotate_left
          · intro w hSw
            go_simp
            with_reducible rfl
          try go_frame
          refine wpAnyH_take (i := 5) (oi := ⟨some 99, _, _, _, _, _⟩) (v := ?_) rfl (by kernel_rfl) (by kernel_rfl) (by kernel_rfl) (fun _ _ _ h => h) (Or.inl ⟨by rfl, ?_⟩) hHeld ?_
          rotate_left
          · intro w hSw
            go_simp
            with_reducible rfl
          try go_frame
          refine wpAnyH_take (i := 6) (oi := ⟨some 100, _, _, _, _, _⟩) (v := ?_) rfl (by kernel_rfl) (by kernel_rfl) (by kernel_rfl) (fun _ _ _ h => h) (Or.inl ⟨by rfl, ?_⟩) hHeld ?_
          rotate_left
          · intro w hSw
            have hc := hSw.1
            go_simp
            with_reducible rfl
          try go_frame
          refine wpAnyH_take (i := 7) (oi := ⟨some 101, _, _, _, _, _⟩) (v := ?_) rfl (by kernel_rfl) (by kernel_rfl) (by kernel_rfl) (fun _ _ _ h => h) (Or.inl ⟨by rfl, ?_⟩) hHeld ?_
          rotate_left
          · intro w hSw
            go_simp
            with_reducible rfl
          try go_frame
          refine wpAnyH_take (i := 8) (oi := ⟨some 102, _, _, _, _, _⟩) (v := ?_) rfl (by kernel_rfl) (by kernel_rfl) (by kernel_rfl) (fun _ _ _ h => h) (Or.inl ⟨by rfl, ?_⟩) hHeld ?_
          rotate_left
          · intro w hSw
            go_simp
            with_reducible rfl
          try go_frame
          refine wpAnyH_take (i := 9) (oi := ⟨some 103, _, _, _, _, _⟩) (v := ?_) rfl (by kernel_rfl) (by kernel_rfl) (by kernel_rfl) (fun _ _ _ h => h) (Or.inl ⟨by rfl, ?_⟩) hHeld ?_
          rotate_left
          · intro w hSw
            go_simp
            with_reducible rfl
          try go_frame
          refine wpAnyH_take (i := 10) (oi := ⟨some 104, _, _, _, _, _⟩) (v := ?_) rfl (by kernel_rfl) (by kernel_rfl) (by kernel_rfl) (fun _ _ _ h => h) (Or.inl ⟨by rfl, ?_⟩) hHeld ?_
          rotate_left
          · intro w hSw
            have hc := hSw.2.1
            go_simp
            with_reducible rfl
          try go_frame
          refine wpAnyH_take (i := 11) (oi := ⟨some 105, _, _, _, _, _⟩) (v := ?_) rfl (by kernel_rfl) (by kernel_rfl) (by kernel_rfl) (fun _ _ _ h => h) (Or.inl ⟨by rfl, ?_⟩) hHeld ?_
          rotate_left
          · intro w hSw
            go_simp
            with_reducible rfl
          try go_frame
          refine wpAnyH_take (i := 12) (oi := ⟨some 106, _, _, _, _, _⟩) (v := ?_) rfl (by kernel_rfl) (by kernel_rfl) (by kernel_rfl) (fun _ _ _ h => h) (Or.inl ⟨by rfl, ?_⟩) hHeld ?_
          rotate_left
          · intro w hSw
            have hc := hSw.2.2.1
            go_simp
            with_reducible rfl
          try go_frame
          refine wpAnyH_take (i := 13) (oi := ⟨some 107, _, _, _, _, _⟩) (v := ?_) rfl (by kernel_rfl) (by kernel_rfl) (by kernel_rfl) (fun _ _ _ h => h) (Or.inl ⟨by rfl, ?_⟩) hHeld ?_
          rotate_left
          · intro w hSw
            have hin2 : 0 ≤ (i : Int) ∧ (i : Int) < (n : Int) := by omega
            go_simp
            with_reducible rfl
          try go_frame
          refine wpAnyH_take (i := 14) (oi := ⟨some 108, _, _, _, _, _⟩) (v := ?_) rfl (by kernel_rfl) (by kernel_rfl) (by kernel_rfl) (fun _ _ _ h => h) (Or.inl ⟨by rfl, ?_⟩) hHeld ?_
          rotate_left
          · intro w hSw
            have hc := hSw.2.2.2
            go_simp
            with_reducible rfl
          try go_frame
          refine wpAnyH_take (i := 15) (oi := ⟨some 109, _, _, _, _, _⟩) (v := ?_) rfl (by kernel_rfl) (by kernel_rfl) (by kernel_rfl) (fun _ _ _ h => h) (Or.inl ⟨by rfl, ?_⟩) hHeld ?_
          rotate_left
          · intro w hSw
            go_simp
            with_reducible rfl
          try go_frame
          refine wpAnyH_take (i := 16) (oi := ⟨some 110, _, _, _, _, _⟩) (v := ?_) rfl (by kernel_rfl) (by kernel_rfl) (by kernel_rfl) (fun _ _ _ h => h) (Or.inl ⟨by rfl, ?_⟩) hHeld ?_
          rotate_left
          · intro w hSw
            go_simp
            with_reducible rfl
          try go_frame
          refine wpAnyH_take (i := 17) (oi := ⟨some 111, _, _, _, _, _⟩) (v := ?_) rfl (by kernel_rfl) (by kernel_rfl) (by kernel_rfl) (fun _ _ _ h => h) (Or.inl ⟨by rfl, ?_⟩) hHeld ?_
          rotate_left
          · intro w hSw
            go_simp
            with_reducible rfl
          try go_frame
          refine wpAnyH_take (i := 18) (oi := ⟨some 112, _, _, _, _, _⟩) (v := ?_) rfl (by kernel_rfl) (by kernel_rfl) (by kernel_rfl) (fun _ _ _ h => h) (Or.inl ⟨by rfl, ?_⟩) hHeld ?_
          rotate_left
          · intro w hSw
            go_simp
            with_reducible rfl
          try go_frame
          refine wpAnyH_take (i := 19) (oi := ⟨some 113, _, _, _, _, _⟩) (v := ?_) rfl (by kernel_rfl) (by kernel_rfl) (by kernel_rfl) (fun _ _ _ h => h) (Or.inl ⟨by rfl, ?_⟩) hHeld ?_
          rotate_left
          · intro w hSw
            go_simp
            with_reducible rfl
          try go_frame
          refine wpAnyH_take (i := 20) (oi := ⟨some 114, _, _, _, _, _⟩) (v := ?_) rfl (by kernel_rfl) (by kernel_rfl) (by kernel_rfl) (fun _ _ _ h => h) (Or.inl ⟨by rfl, ?_⟩) hHeld ?_
          rotate_left
          · intro w hSw
            go_simp
            with_reducible rfl
          try go_frame
          refine wpAnyH_take (i := 21) (oi := ⟨some 115, _, _, _, _, _⟩) (v := ?_) rfl (by kernel_rfl) (by kernel_rfl) (by kernel_rfl) (fun _ _ _ h => h) (Or.inl ⟨by rfl, ?_⟩) hHeld ?_
          rotate_left
          · intro w hSw
            go_simp
            with_reducible rfl
          try go_frame
          refine wpAnyH_take (i := 22) (oi := ⟨some 116, _, _, _, _, _⟩) (v := undef) rfl (by kernel_rfl) (by kernel_rfl) (by kernel_rfl) (fun _ _ _ h => h) (Or.inr ⟨by rfl, rfl⟩) hHeld ?_
          try go_frame
          refine wpAnyH_take (i := 23) (oi := ⟨some 117, _, _, _, _, _⟩) (v := undef) rfl (by kernel_rfl) (by kernel_rfl) (by kernel_rfl) (fun _ _ _ h => h) (Or.inr ⟨by rfl, rfl⟩) hHeld ?_
          try go_frame
          refine wpAnyH_take (i := 24) (oi := ⟨some 118, _, _, _, _, _⟩) (v := undef) rfl (by kernel_rfl) (by kernel_rfl) (by kernel_rfl) (fun _ _ _ h => h) (Or.inr ⟨by rfl, rfl⟩) hHeld ?_
          try go_frame
          refine wpAnyH_take (i := 25) (oi := ⟨some 119, _, _, _, _, _⟩) (v := undef) rfl (by kernel_rfl) (by kernel_rfl) (by kernel_rfl) (fun _ _ _ h => h) (Or.inr ⟨by rfl, rfl⟩) hHeld ?_
          try go_frame
          refine wpAnyH_take (i := 26) (oi := ⟨some 120, _, _, _, _, _⟩) (v := undef) rfl (by kernel_rfl) (by kernel_rfl) (by kernel_rfl) (fun _ _ _ h => h) (Or.inr ⟨by rfl, rfl⟩) hHeld ?_
          try go_frame
          refine wpAnyH_take (i := 27) (oi := ⟨some 121, _, _, _, _, _⟩) (v := undef) rfl (by kernel_rfl) (by kernel_rfl) (by kernel_rfl) (fun _ _ _ h => h) (Or.inr ⟨by rfl, rfl⟩) hHeld ?_
          try go_frame
          refine wpAnyH_take (i := 28) (oi := ⟨some 122, _, _, _, _, _⟩) (v := undef) rfl (by kernel_rfl) (by kernel_rfl) (by kernel_rfl) (fun _ _ _ h => h) (Or.inr ⟨by rfl, rfl⟩) hHeld ?_
          try go_frame
          refine wpAnyH_take (i := 29) (oi := ⟨some 123, _, _, _, _, _⟩) (v := ?_) rfl (by kernel_rfl) (by kernel_rfl) (by kernel_rfl) (fun _ _ _ h => h) (Or.inl ⟨by rfl, ?_⟩) hHeld ?_
          rotate_left
          · intro w hSw
            go_simp
            with_reducible rfl
          try go_frame
          refine wpAnyH_take (i := 30) (oi := ⟨some 124, _, _, _, _, _⟩) (v := ?_) rfl (by kernel_rfl) (by kernel_rfl) (by kernel_rfl) (fun _ _ _ h => h) (Or.inl ⟨by rfl, ?_⟩) hHeld ?_
          rotate_left
          · intro w hSw
            go_simp
            with_reducible rfl
          try go_frame
          refine wpAnyH_done (by kernel_rfl) ?_ _
          have HB6 : Hid (Bth T w w4d (fun q => KS q ∨ q = bx) key D M F G L S V L S V) := HB4.out.still C hC
          have HK6 : Hid (KeyOn w4d KS pk key) := HK4.out.below hC
          clear hHeld HKeep hC HR HRg HX4 HB4 HK4
          generalize w4d = w6 at *
          obtain ⟨E, hE⟩ : ∃ E, E = st h S := ⟨_, rfl⟩
          have HE := Lib.hid hE
          clear hE
          have HKeep : Hid (∀ X, Below w6.heap.size w6 X → X.cell? ⟨M, 2, none⟩ = some (.int .i64 ((V : Nat) : Int))) := fun X hX => (HB6.out.rf.below hX).cell2
          go_wp2_with fail
          have hC : Below w6.heap.size w6 w6.drew := below_drewN (Below.refl _ _) 1
          refine wp_region_held_drew (S := (fun X => X.cell? ⟨M, 2, none⟩ = some (.int .i64 ((V : Nat) : Int)))) (by kernel_rfl) (HKeep.out _ hC) (fun hHeld => ?_)
          generalize w6.drew = w6d at *
          refine wpAnyH_take (i := 0) (oi := ⟨some 178, _, _, _, _, _⟩) (v := ?_) rfl (by kernel_rfl) (by kernel_rfl) (by kernel_rfl) (fun _ _ _ h => h) (Or.inl ⟨by rfl, ?_⟩) hHeld ?_
          rotate_left
          · intro w hSw
            go_simp
            with_reducible rfl
          try go_frame
          refine wpAnyH_take (i := 2) (oi := ⟨some 180, _, _, _, _, _⟩) (v := ?_) rfl (by kernel_rfl) (by kernel_rfl) (by kernel_rfl) (fun _ _ _ h => h) (Or.inl ⟨by rfl, ?_⟩) hHeld ?_
          rotate_left
          · intro w hSw
            go_simp
            with_reducible rfl
          try go_frame
          refine wpAnyH_ready (rs := [1]) (by kernel_rfl) (by simp) ?_
          refine AllReadyH.cons (o := ⟨some 179, _, _, _, _, _⟩) rfl (fun K hK => ?_) AllReadyH.nil
          go_simp
          go_at_call 14
          refine (C.stale (C.stay HB6.out.tr (Chg.below hC fun _ _ => False) fun _ _ _ x => x) h (by rw [HLn.out]; exact Hh.out)).mono ?_
          rintro e w6d_s1 ⟨rfl, hb⟩
          replace hC := hC.trans (hb.mono hC.size)
          refine hK.out _ _ (HKeep.out _ hC) (fun hHeld => ?_)
          clear hK K hb 
          rw [← HE.out]
          try go_frame
          refine wpAnyH_ready (rs := [3]) (by kernel_rfl) (by simp) ?_
          refine AllReadyH.cons (o := ⟨some 181, _, _, _, _, _⟩) rfl (fun K hK => ?_) AllReadyH.nil
          go_simp
          go_at_call 15
          refine (RQStale_any (HB6.out.rf.below hC) h (by rw [HLn.out]; exact Hh.out)).mono ?_
          rintro e w6d_s1_s2 ⟨rfl, hb⟩
          replace hC := hC.trans (hb.mono hC.size)
          refine hK.out _ _ (HKeep.out _ hC) (fun hHeld => ?_)
          clear hK K hb 
          rw [← HE.out]
          try go_frame
          refine wpAnyH_take (i := 4) (oi := ⟨some 182, _, _, _, _, _⟩) (v := ?_) rfl (by kernel_rfl) (by kernel_rfl) (by kernel_rfl) (fun _ _ _ h => h) (Or.inl ⟨by rfl, ?_⟩) hHeld ?_
          rotate_left
          · intro w hSw
            go_simp
            with_reducible rfl
          try go_frame
          refine wpAnyH_take (i := 5) (oi := ⟨some 183, _, _, _, _, _⟩) (v := ?_) rfl (by kernel_rfl) (by kernel_rfl) (by kernel_rfl) (fun _ _ _ h => h) (Or.inl ⟨by rfl, ?_⟩) hHeld ?_
          rotate_left
          · intro w hSw
            go_simp
            with_reducible rfl
          try go_frame
          refine wpAnyH_take (i := 6) (oi := ⟨some 184, _, _, _, _, _⟩) (v := ?_) rfl (by kernel_rfl) (by kernel_rfl) (by kernel_rfl) (fun _ _ _ h => h) (Or.inl ⟨by rfl, ?_⟩) hHeld ?_
          rotate_left
          · intro w hSw
            go_simp
            with_reducible rfl
          try go_frame
          refine wpAnyH_take (i := 8) (oi := ⟨some 186, _, _, _, _, _⟩) (v := ?_) rfl (by kernel_rfl) (by kernel_rfl) (by kernel_rfl) (fun _ _ _ h => h) (Or.inl ⟨by rfl, ?_⟩) hHeld ?_
          rotate_left
          · intro w hSw
            go_simp
            with_reducible rfl
          try go_frame
          refine wpAnyH_take (i := 9) (oi := ⟨some 187, _, _, _, _, _⟩) (v := ?_) rfl (by kernel_rfl) (by kernel_rfl) (by kernel_rfl) (fun _ _ _ h => h) (Or.inl ⟨by rfl, ?_⟩) hHeld ?_
          rotate_left
          · intro w hSw
            go_simp
            with_reducible rfl
          try go_frame
          refine wpAnyH_take (i := 10) (oi := ⟨some 188, _, _, _, _, _⟩) (v := ?_) rfl (by kernel_rfl) (by kernel_rfl) (by kernel_rfl) (fun _ _ _ h => h) (Or.inl ⟨by rfl, ?_⟩) hHeld ?_
          rotate_left
          · intro w hSw
            go_simp
            with_reducible rfl
          try go_frame
          refine wpAnyH_take (i := 11) (oi := ⟨some 189, _, _, _, _, _⟩) (v := ?_) rfl (by kernel_rfl) (by kernel_rfl) (by kernel_rfl) (fun _ _ _ h => h) (Or.inl ⟨by rfl, ?_⟩) hHeld ?_
          rotate_left
          · intro w hSw
            have hc := hSw
            go_simp
            with_reducible rfl
          try go_frame
          refine wpAnyH_ready (rs := [7]) (by kernel_rfl) (by simp) ?_
          refine AllReadyH.cons (o := ⟨some 185, _, _, _, _, _⟩) rfl (fun K hK => ?_) AllReadyH.nil
          go_simp
          go_at_call 16
          refine (C.work (C.stay HB6.out.tr (Chg.below hC fun _ _ => False) fun _ _ _ x => x)).mono ?_
          rintro e w6d_s1_s2_s3 ⟨rfl, hb⟩
          replace hC := hC.trans (hb.mono hC.size)
          refine hK.out _ _ (HKeep.out _ hC) (fun hHeld => ?_)
          clear hK K hb 
          try go_frame
          refine wpAnyH_take (i := 12) (oi := ⟨some 190, _, _, _, _, _⟩) (v := ?_) rfl (by kernel_rfl) (by kernel_rfl) (by kernel_rfl) (fun _ _ _ h => h) (Or.inl ⟨by rfl, ?_⟩) hHeld ?_
          rotate_left
          · intro w hSw
            go_simp
            with_reducible rfl
          try go_frame
          refine wpAnyH_take (i := 13) (oi := ⟨some 191, _, _, _, _, _⟩) (v := ?_) rfl (by kernel_rfl) (by kernel_rfl) (by kernel_rfl) (fun _ _ _ h => h) (Or.inl ⟨by rfl, ?_⟩) hHeld ?_
          rotate_left
          · intro w hSw
            go_simp
            with_reducible rfl
          try go_frame
          refine wpAnyH_done (by kernel_rfl) ?_ _
          have HBj : Hid (Bth T w w6d_s1_s2_s3 KS key D M F G L S V L S V) := (HB6.out.still C hC).less
          have HKj : Hid (KeyOn w6d_s1_s2_s3 KS pk key) := HK6.out.below hC
          clear hHeld hC HKeep
          go_wp2
          go_roundw
          case rel => exact ⟨k + 1, F, G, L, S, V, by omega, by go_num, by omega, HBj, HKj, by show _ = _; rw [HLn.out]⟩
          case measure => rw [iO9, show intOf (.int .i64 (k : Int)) = (k : Int) from rfl]; omega
      have hbad : x < 0 ∨ (n : Int) ≤ x := .inr hge
      have hnl : ¬ (x < (n : Int)) := by omega
      as_aux_lemma =>
        go_wp2_with (first | (refine wpList_load_mid rfl 36 (.tmp 74) rfl b (o + k * 34) rfl cq _ HLd.out Tryd.underlying36 rfl (by rw [Hcn.out]; kernel_rfl) ?_) | (refine wpList_store_row rfl 36 (.tmp 12) (.tmp 75) rfl wr.heap.size cq.toArray rfl rfl 36 _ (Row.new wr _ ZQ) (by rw [Hcz.out]; kernel_rfl) (by rw [Hcz.out]; rfl) Hco.out ?_; rw [← Hwx.out, ← Hbx.out]))
        refine (C.getBad HBx.out.tr x (by rw [HLn.out]; exact hbad)).mono ?_
        rintro e w3 ⟨rfl, hb3⟩
        have Hrz : Hid (Hm.Z32.toArray.size = 32) := rfl
        have Hro : Hid (Hm.Z32.toArray.all (·.oneCell') = true) := by show _ = _; kernel_rfl
        have Hrn : Hid (Hm.Z32.length = 32) := rfl
        have hz := Hm.zeroTag
        obtain ⟨bg, hbg⟩ : ∃ q, q = w3.heap.size := ⟨_, rfl⟩
        obtain ⟨w4, hw4⟩ : ∃ X, X = (w3.alloc (.cells Hm.Z32.toArray 34)).setRow w3.heap.size Hm.Z32.toArray := ⟨_, rfl⟩
        have hb34 : Below w3.heap.size w3 w4 := by rw [hw4]; exact below_setRow' ((Below.refl _ _).alloc (Nat.le_refl _) _) (Nat.le_refl _) Hm.Z32.toArray
        have hb04 : Below wx.heap.size wx w4 := hb3.trans (hb34.mono hb3.size)
        have HRg : Hid (Row w4 bg 34 Hm.Z32) := by rw [hw4, hbg]; exact (Row.new w3 34 Hm.Z32).whole Hm.Z32
        have HX4 : Hid (Row w4 bx 36 cq) := HX.out.below hb04 HX.out.lt
        have HK4 : Hid (KeyOn w4 KS pk key) := HKx.out.below hb04
        have HB4 : Hid (Bth T w w4 (fun q => KS q ∨ q = bx) key D M F G L S V L S V) := HBx.out.still C hb04
        have Hw4 := Lib.hid hw4
        have Hbg := Lib.hid hbg
        clear hw4 hbg
        go_wp2_with (refine wpList_store_row rfl 34 (.tmp 16) (.tmp 92) rfl w3.heap.size Hm.Z32.toArray rfl rfl 34 _ (Row.new w3 _ Hm.Z32) (by rw [Hrz.out]; kernel_rfl) (by first | rfl | (rw [Hrz.out]; rfl)) Hro.out ?_; rw [← Hw4.out, ← Hbg.out])
        clear hb3 hb34 hb04 Hw4 Hbg hz HX HKx HBx
        obtain ⟨a, b2, ca, cb, hR⟩ := HB4.out.rf
        have HR := Lib.hid hR
        clear hR
        have HKeep : Hid (∀ X, Below w4.heap.size w4 X → Row X bg 34 Hm.Z32) := fun X hX => HRg.out.below hX HRg.out.lt
        have HZe : Hid (∀ W, (Op.equalIn 10000 34 (.agg Hm.Z32.toArray) (.agg Hm.Z32.toArray)).run Tryd.prog W = .ok true W) := fun W => (arr_eq 34 32 Tryd.underlying34 (List.replicate 32 0) (List.replicate 32 0) Hm.Z32 Hm.Z32 ⟨by rfl, by rfl⟩ ⟨by rfl, by rfl⟩ W).trans (by rw [decide_eq_true rfl])
        have hC : Below w4.heap.size w4 w4.drew := below_drewN (Below.refl _ _) 1
        refine wp_region_held_drew (S := (fun X => Row X bg 34 Hm.Z32)) (by kernel_rfl) (HKeep.out _ hC) (fun hHeld => ?_)
        generalize w4.drew = w4d at *
        refine wpAnyH_take (i := 0) (oi := ⟨some 94, _, _, _, _, _⟩) (v := ?_) rfl (by kernel_rfl) (by kernel_rfl) (by kernel_rfl) (fun _ _ _ h => h) (Or.inl ⟨by rfl, ?_⟩) hHeld ?_
        rotate_left
        · intro w hSw
          go_simp
          with_reducible rfl
        try go_frame
        refine wpAnyH_take (i := 1) (oi := ⟨some 95, _, _, _, _, _⟩) (v := ?_) rfl (by kernel_rfl) (by kernel_rfl) (by kernel_rfl) (fun _ _ _ h => h) (Or.inl ⟨by rfl, ?_⟩) hHeld ?_
        rotate_left
        · intro w hSw
          go_simp
          with_reducible rfl
        try go_frame
        refine wpAnyH_take (i := 2) (oi := ⟨some 96, _, _, _, _, _⟩) (v := undef) rfl (by kernel_rfl) (by kernel_rfl) (by kernel_rfl) (fun _ _ _ h => h) (Or.inr ⟨by rfl, rfl⟩) hHeld ?_
        try go_frame
        refine wpAnyH_take (i := 3) (oi := ⟨some 97, _, _, _, _, _⟩) (v := undef) rfl (by kernel_rfl) (by kernel_rfl) (by kernel_rfl) (fun _ _ _ h => h) (Or.inr ⟨by rfl, rfl⟩) hHeld ?_
        try go_frame
        refine wpAnyH_take (i := 4) (oi := ⟨some 98, _, _, _, _, _⟩) (v := undef) rfl (by kernel_rfl) (by kernel_rfl) (by kernel_rfl) (fun _ _ _ h => h) (Or.inr ⟨by rfl, rfl⟩) hHeld ?_
        try go_frame
        refine wpAnyH_take (i := 5) (oi := ⟨some 99, _, _, _, _, _⟩) (v := undef) rfl (by kernel_rfl) (by kernel_rfl) (by kernel_rfl) (fun _ _ _ h => h) (Or.inr ⟨by rfl, rfl⟩) hHeld ?_
        try go_frame
        refine wpAnyH_take (i := 6) (oi := ⟨some 100, _, _, _, _, _⟩) (v := undef) rfl (by kernel_rfl) (by kernel_rfl) (by kernel_rfl) (fun _ _ _ h => h) (Or.inr ⟨by rfl, rfl⟩) hHeld ?_
        try go_frame
        refine wpAnyH_take (i := 7) (oi := ⟨some 101, _, _, _, _, _⟩) (v := undef) rfl (by kernel_rfl) (by kernel_rfl) (by kernel_rfl) (fun _ _ _ h => h) (Or.inr ⟨by rfl, rfl⟩) hHeld ?_
        try go_frame
        refine wpAnyH_take (i := 8) (oi := ⟨some 102, _, _, _, _, _⟩) (v := undef) rfl (by kernel_rfl) (by kernel_rfl) (by kernel_rfl) (fun _ _ _ h => h) (Or.inr ⟨by rfl, rfl⟩) hHeld ?_
        try go_frame
        refine wpAnyH_take (i := 9) (oi := ⟨some 103, _, _, _, _, _⟩) (v := undef) rfl (by kernel_rfl) (by kernel_rfl) (by kernel_rfl) (fun _ _ _ h => h) (Or.inr ⟨by rfl, rfl⟩) hHeld ?_
        try go_frame
        refine wpAnyH_take (i := 10) (oi := ⟨some 104, _, _, _, _, _⟩) (v := undef) rfl (by kernel_rfl) (by kernel_rfl) (by kernel_rfl) (fun _ _ _ h => h) (Or.inr ⟨by rfl, rfl⟩) hHeld ?_
        try go_frame
        refine wpAnyH_take (i := 11) (oi := ⟨some 105, _, _, _, _, _⟩) (v := undef) rfl (by kernel_rfl) (by kernel_rfl) (by kernel_rfl) (fun _ _ _ h => h) (Or.inr ⟨by rfl, rfl⟩) hHeld ?_
        try go_frame
        refine wpAnyH_take (i := 12) (oi := ⟨some 106, _, _, _, _, _⟩) (v := undef) rfl (by kernel_rfl) (by kernel_rfl) (by kernel_rfl) (fun _ _ _ h => h) (Or.inr ⟨by rfl, rfl⟩) hHeld ?_
        try go_frame
        refine wpAnyH_take (i := 13) (oi := ⟨some 107, _, _, _, _, _⟩) (v := undef) rfl (by kernel_rfl) (by kernel_rfl) (by kernel_rfl) (fun _ _ _ h => h) (Or.inr ⟨by rfl, rfl⟩) hHeld ?_
        try go_frame
        refine wpAnyH_take (i := 14) (oi := ⟨some 108, _, _, _, _, _⟩) (v := undef) rfl (by kernel_rfl) (by kernel_rfl) (by kernel_rfl) (fun _ _ _ h => h) (Or.inr ⟨by rfl, rfl⟩) hHeld ?_
        try go_frame
        refine wpAnyH_take (i := 15) (oi := ⟨some 109, _, _, _, _, _⟩) (v := undef) rfl (by kernel_rfl) (by kernel_rfl) (by kernel_rfl) (fun _ _ _ h => h) (Or.inr ⟨by rfl, rfl⟩) hHeld ?_
        try go_frame
        refine wpAnyH_take (i := 16) (oi := ⟨some 110, _, _, _, _, _⟩) (v := undef) rfl (by kernel_rfl) (by kernel_rfl) (by kernel_rfl) (fun _ _ _ h => h) (Or.inr ⟨by rfl, rfl⟩) hHeld ?_
        try go_frame
        refine wpAnyH_take (i := 17) (oi := ⟨some 111, _, _, _, _, _⟩) (v := ?_) rfl (by kernel_rfl) (by kernel_rfl) (by kernel_rfl) (fun _ _ _ h => h) (Or.inl ⟨by rfl, ?_⟩) hHeld ?_
        rotate_left
        · intro w hSw
          go_simp
          with_reducible rfl
        try go_frame
        refine wpAnyH_take (i := 18) (oi := ⟨some 112, _, _, _, _, _⟩) (v := ?_) rfl (by kernel_rfl) (by kernel_rfl) (by kernel_rfl) (fun _ _ _ h => h) (Or.inl ⟨by rfl, ?_⟩) hHeld ?_
        rotate_left
        · intro w hSw
          go_simp
          with_reducible rfl
        try go_frame
        refine wpAnyH_take (i := 19) (oi := ⟨some 113, _, _, _, _, _⟩) (v := ?_) rfl (by kernel_rfl) (by kernel_rfl) (by kernel_rfl) (fun _ _ _ h => h) (Or.inl ⟨by rfl, ?_⟩) hHeld ?_
        rotate_left
        · intro w hSw
          go_simp
          with_reducible rfl
        try go_frame
        refine wpAnyH_take (i := 20) (oi := ⟨some 114, _, _, _, _, _⟩) (v := ?_) rfl (by kernel_rfl) (by kernel_rfl) (by kernel_rfl) (fun _ _ _ h => h) (Or.inl ⟨by rfl, ?_⟩) hHeld ?_
        rotate_left
        · intro w hSw
          go_simp
          with_reducible rfl
        try go_frame
        refine wpAnyH_take (i := 21) (oi := ⟨some 115, _, _, _, _, _⟩) (v := ?_) rfl (by kernel_rfl) (by kernel_rfl) (by kernel_rfl) (fun _ _ _ h => h) (Or.inl ⟨by rfl, ?_⟩) hHeld ?_
        rotate_left
        · intro w hSw
          go_simp
          with_reducible rfl
        try go_frame
        refine wpAnyH_take (i := 22) (oi := ⟨some 116, _, _, _, _, _⟩) (v := ?_) rfl (by kernel_rfl) (by kernel_rfl) (by kernel_rfl) (fun _ _ _ h => h) (Or.inl ⟨by rfl, ?_⟩) hHeld ?_
        rotate_left
        · intro w hSw
          go_simp
          with_reducible rfl
        try go_frame
        refine wpAnyH_take (i := 23) (oi := ⟨some 117, _, _, _, _, _⟩) (v := ?_) rfl (by kernel_rfl) (by kernel_rfl) (by kernel_rfl) (fun _ _ _ h => h) (Or.inl ⟨by rfl, ?_⟩) hHeld ?_
        rotate_left
        · intro w hSw
          go_simp
          with_reducible rfl
        try go_frame
        refine wpAnyH_take (i := 24) (oi := ⟨some 118, _, _, _, _, _⟩) (v := ?_) rfl (by kernel_rfl) (by kernel_rfl) (by kernel_rfl) (fun _ _ _ h => h) (Or.inl ⟨by rfl, ?_⟩) hHeld ?_
        rotate_left
        · intro w hSw
          go_simp
          with_reducible rfl
        try go_frame
        refine wpAnyH_take (i := 25) (oi := ⟨some 119, _, _, _, _, _⟩) (v := .agg (Hm.Z32).toArray) rfl (by kernel_rfl) (by kernel_rfl) (by kernel_rfl) (fun _ _ _ h => h) (yieldsIf_load_mid (by rfl) 34 (.tmp 16) rfl bg 0 rfl Hm.Z32 _ (fun W h => h.sees) Tryd.underlying34 rfl (by kernel_rfl)) hHeld ?_
        try go_frame
        refine wpAnyH_take (i := 26) (oi := ⟨some 120, _, _, _, _, _⟩) (v := ?_) rfl (by kernel_rfl) (by kernel_rfl) (by kernel_rfl) (fun _ _ _ h => h) (Or.inl ⟨by rfl, ?_⟩) hHeld ?_
        rotate_left
        · intro w hSw
          go_simp
          with_reducible rfl
        try go_frame
        refine wpAnyH_take (i := 27) (oi := ⟨some 121, _, _, _, _, _⟩) (v := ?_) rfl (by kernel_rfl) (by kernel_rfl) (by kernel_rfl) (fun _ _ _ h => h) (Or.inl ⟨by rfl, ?_⟩) hHeld ?_
        rotate_left
        · intro w hSw
          have hze : ∀ W, (Op.equalIn 10000 34 (.agg Hm.Z32.toArray) (.agg #[.int .u8 0, .int .u8 0, .int .u8 0, .int .u8 0, .int .u8 0, .int .u8 0, .int .u8 0, .int .u8 0, .int .u8 0, .int .u8 0, .int .u8 0, .int .u8 0, .int .u8 0, .int .u8 0, .int .u8 0, .int .u8 0, .int .u8 0, .int .u8 0, .int .u8 0, .int .u8 0, .int .u8 0, .int .u8 0, .int .u8 0, .int .u8 0, .int .u8 0, .int .u8 0, .int .u8 0, .int .u8 0, .int .u8 0, .int .u8 0, .int .u8 0, .int .u8 0])).run Tryd.prog W = .ok true W := HZe.out
          go_simp
          with_reducible rfl
        try go_frame
        refine wpAnyH_take (i := 28) (oi := ⟨some 122, _, _, _, _, _⟩) (v := ?_) rfl (by kernel_rfl) (by kernel_rfl) (by kernel_rfl) (fun _ _ _ h => h) (Or.inl ⟨by rfl, ?_⟩) hHeld ?_
        rotate_left
        · intro w hSw
          go_simp
          with_reducible rfl
        try go_frame
        refine wpAnyH_take (i := 29) (oi := ⟨some 123, _, _, _, _, _⟩) (v := ?_) rfl (by kernel_rfl) (by kernel_rfl) (by kernel_rfl) (fun _ _ _ h => h) (Or.inl ⟨by rfl, ?_⟩) hHeld ?_
        rotate_left
        · intro w hSw
          go_simp
          with_reducible rfl
        try go_frame
        refine wpAnyH_take (i := 30) (oi := ⟨some 124, _, _, _, _, _⟩) (v := ?_) rfl (by kernel_rfl) (by kernel_rfl) (by kernel_rfl) (fun _ _ _ h => h) (Or.inl ⟨by rfl, ?_⟩) hHeld ?_
        rotate_left
        · intro w hSw
          go_simp
          with_reducible rfl
        try go_frame
        refine wpAnyH_done (by kernel_rfl) ?_ _
        have HB6 : Hid (Bth T w w4d (fun q => KS q ∨ q = bx) key D M F G L S V L S V) := HB4.out.still C hC
        have HK6 : Hid (KeyOn w4d KS pk key) := HK4.out.below hC
        clear hHeld HKeep hC HR HRg HX4 HB4 HK4
        generalize w4d = w6 at *
        obtain ⟨E, hE⟩ : ∃ E, E = st h S := ⟨_, rfl⟩
        have HE := Lib.hid hE
        clear hE
        have HKeep : Hid (∀ X, Below w6.heap.size w6 X → X.cell? ⟨M, 2, none⟩ = some (.int .i64 ((V : Nat) : Int))) := fun X hX => (HB6.out.rf.below hX).cell2
        go_wp2_with fail
        have hC : Below w6.heap.size w6 w6.drew := below_drewN (Below.refl _ _) 1
        refine wp_region_held_drew (S := (fun X => X.cell? ⟨M, 2, none⟩ = some (.int .i64 ((V : Nat) : Int)))) (by kernel_rfl) (HKeep.out _ hC) (fun hHeld => ?_)
        generalize w6.drew = w6d at *
        refine wpAnyH_take (i := 0) (oi := ⟨some 178, _, _, _, _, _⟩) (v := ?_) rfl (by kernel_rfl) (by kernel_rfl) (by kernel_rfl) (fun _ _ _ h => h) (Or.inl ⟨by rfl, ?_⟩) hHeld ?_
        rotate_left
        · intro w hSw
          go_simp
          with_reducible rfl
        try go_frame
        refine wpAnyH_take (i := 2) (oi := ⟨some 180, _, _, _, _, _⟩) (v := ?_) rfl (by kernel_rfl) (by kernel_rfl) (by kernel_rfl) (fun _ _ _ h => h) (Or.inl ⟨by rfl, ?_⟩) hHeld ?_
        rotate_left
        · intro w hSw
          go_simp
          with_reducible rfl
        try go_frame
        refine wpAnyH_ready (rs := [1]) (by kernel_rfl) (by simp) ?_
        refine AllReadyH.cons (o := ⟨some 179, _, _, _, _, _⟩) rfl (fun K hK => ?_) AllReadyH.nil
        go_simp
        go_at_call 14
        refine (C.stale (C.stay HB6.out.tr (Chg.below hC fun _ _ => False) fun _ _ _ x => x) h (by rw [HLn.out]; exact Hh.out)).mono ?_
        rintro e w6d_s1 ⟨rfl, hb⟩
        replace hC := hC.trans (hb.mono hC.size)
        refine hK.out _ _ (HKeep.out _ hC) (fun hHeld => ?_)
        clear hK K hb 
        rw [← HE.out]
        try go_frame
        refine wpAnyH_ready (rs := [3]) (by kernel_rfl) (by simp) ?_
        refine AllReadyH.cons (o := ⟨some 181, _, _, _, _, _⟩) rfl (fun K hK => ?_) AllReadyH.nil
        go_simp
        go_at_call 15
        refine (RQStale_any (HB6.out.rf.below hC) h (by rw [HLn.out]; exact Hh.out)).mono ?_
        rintro e w6d_s1_s2 ⟨rfl, hb⟩
        replace hC := hC.trans (hb.mono hC.size)
        refine hK.out _ _ (HKeep.out _ hC) (fun hHeld => ?_)
        clear hK K hb 
        rw [← HE.out]
        try go_frame
        refine wpAnyH_take (i := 4) (oi := ⟨some 182, _, _, _, _, _⟩) (v := ?_) rfl (by kernel_rfl) (by kernel_rfl) (by kernel_rfl) (fun _ _ _ h => h) (Or.inl ⟨by rfl, ?_⟩) hHeld ?_
        rotate_left
        · intro w hSw
          go_simp
          with_reducible rfl
        try go_frame
        refine wpAnyH_take (i := 5) (oi := ⟨some 183, _, _, _, _, _⟩) (v := ?_) rfl (by kernel_rfl) (by kernel_rfl) (by kernel_rfl) (fun _ _ _ h => h) (Or.inl ⟨by rfl, ?_⟩) hHeld ?_
        rotate_left
        · intro w hSw
          go_simp
          with_reducible rfl
        try go_frame
        refine wpAnyH_take (i := 6) (oi := ⟨some 184, _, _, _, _, _⟩) (v := ?_) rfl (by kernel_rfl) (by kernel_rfl) (by kernel_rfl) (fun _ _ _ h => h) (Or.inl ⟨by rfl, ?_⟩) hHeld ?_
        rotate_left
        · intro w hSw
          go_simp
          with_reducible rfl
        try go_frame
        refine wpAnyH_take (i := 8) (oi := ⟨some 186, _, _, _, _, _⟩) (v := ?_) rfl (by kernel_rfl) (by kernel_rfl) (by kernel_rfl) (fun _ _ _ h => h) (Or.inl ⟨by rfl, ?_⟩) hHeld ?_
        rotate_left
        · intro w hSw
          go_simp
          with_reducible rfl
        try go_frame
        refine wpAnyH_take (i := 9) (oi := ⟨some 187, _, _, _, _, _⟩) (v := ?_) rfl (by kernel_rfl) (by kernel_rfl) (by kernel_rfl) (fun _ _ _ h => h) (Or.inl ⟨by rfl, ?_⟩) hHeld ?_
        rotate_left
        · intro w hSw
          go_simp
          with_reducible rfl
        try go_frame
        refine wpAnyH_take (i := 10) (oi := ⟨some 188, _, _, _, _, _⟩) (v := ?_) rfl (by kernel_rfl) (by kernel_rfl) (by kernel_rfl) (fun _ _ _ h => h) (Or.inl ⟨by rfl, ?_⟩) hHeld ?_
        rotate_left
        · intro w hSw
          go_simp
          with_reducible rfl
        try go_frame
        refine wpAnyH_take (i := 11) (oi := ⟨some 189, _, _, _, _, _⟩) (v := ?_) rfl (by kernel_rfl) (by kernel_rfl) (by kernel_rfl) (fun _ _ _ h => h) (Or.inl ⟨by rfl, ?_⟩) hHeld ?_
        rotate_left
        · intro w hSw
          have hc := hSw
          go_simp
          with_reducible rfl
        try go_frame
        refine wpAnyH_ready (rs := [7]) (by kernel_rfl) (by simp) ?_
        refine AllReadyH.cons (o := ⟨some 185, _, _, _, _, _⟩) rfl (fun K hK => ?_) AllReadyH.nil
        go_simp
        go_at_call 16
        refine (C.work (C.stay HB6.out.tr (Chg.below hC fun _ _ => False) fun _ _ _ x => x)).mono ?_
        rintro e w6d_s1_s2_s3 ⟨rfl, hb⟩
        replace hC := hC.trans (hb.mono hC.size)
        refine hK.out _ _ (HKeep.out _ hC) (fun hHeld => ?_)
        clear hK K hb 
        try go_frame
        refine wpAnyH_take (i := 12) (oi := ⟨some 190, _, _, _, _, _⟩) (v := ?_) rfl (by kernel_rfl) (by kernel_rfl) (by kernel_rfl) (fun _ _ _ h => h) (Or.inl ⟨by rfl, ?_⟩) hHeld ?_
        rotate_left
        · intro w hSw
          go_simp
          with_reducible rfl
        try go_frame
        refine wpAnyH_take (i := 13) (oi := ⟨some 191, _, _, _, _, _⟩) (v := ?_) rfl (by kernel_rfl) (by kernel_rfl) (by kernel_rfl) (fun _ _ _ h => h) (Or.inl ⟨by rfl, ?_⟩) hHeld ?_
        rotate_left
        · intro w hSw
          go_simp
          with_reducible rfl
        try go_frame
        refine wpAnyH_done (by kernel_rfl) ?_ _
        have HBj : Hid (Bth T w w6d_s1_s2_s3 KS key D M F G L S V L S V) := (HB6.out.still C hC).less
        have HKj : Hid (KeyOn w6d_s1_s2_s3 KS pk key) := HK6.out.below hC
        clear hHeld hC HKeep
        go_wp2
        go_roundw
        case rel => exact ⟨k + 1, F, G, L, S, V, by omega, by go_num, by omega, HBj, HKj, by show _ = _; rw [HLn.out]⟩
        case measure => rw [iO9, show intOf (.int .i64 (k : Int)) = (k : Int) from rfl]; omega
    · obtain rfl : k = m := by omega
      go_wp2_with fail
      refine (C.places HQ.out.tr).mono ?_
      rintro e w4 ⟨rfl, hb4⟩
      rw [HLn.out]
      have HBe : Hid (Below w.heap.size w w4) := HQ.out.bel.trans (hb4.mono HQ.out.bel.size)
      clear hb4
      go_wp2_with fail
      refine (Qknows_any C w4 (HT0.out.stay Htl.out HBe.out)).mono ?_
      rintro e w5 ⟨rfl, hb5⟩
      have HBf : Hid (Below w.heap.size w w5) := HBe.out.trans (hb5.mono HBe.out.size)
      clear hb5
      go_wp2
      go_ret
      exact ⟨rfl, HBf.out⟩
end Go.Proofs.YtepbnimheedodaaDoor
