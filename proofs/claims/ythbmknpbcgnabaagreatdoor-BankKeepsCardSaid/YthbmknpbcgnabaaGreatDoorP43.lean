/-
  OF THE WALK: WD, WH, VE.
-/
import Derived.ChangeOld
import Derived.Deep.DeepHandedRow
import Derived.Deep.Matrix
import Derived.Lib.LaidTab
import Derived.OpenShut
import Derived.ProofKit
import Derived.Test.YthbmknpbcgnabaaGreatDoorP22
import Derived.Test.YthbmknpbcgnabaaGreatDoorP42
import Derived.WalkKit
namespace Go.Proofs.YthbmknpbcgnabaaGreatDoor
open Go.RowKit Aes Ctr Sl Dsk
def fit8 (m : Nat) (l : List (List UInt8)) (k : Nat) : Bool := (m == 8) && (l.take k).all fun x => x.length == 64
theorem fit8_succ (m : Nat) (l : List (List UInt8)) (k : Nat) (hk : k < l.length) : fit8 m l (k + 1) = (fit8 m l k && ((l.getD k []).length == 64)) := by
  have e : l.take (k + 1) = l.take k ++ [l.getD k []] := by rw [List.take_succ_eq_append_getElem hk, List.getD_eq_getElem?_getD, List.getElem?_eq_getElem hk]; rfl
  rw [fit8, e, List.all_append, fit8]
  simp [Bool.and_assoc]
theorem fit8_all (m : Nat) (l : List (List UInt8)) : fit8 m l l.length = decide (m = 8 ∧ ∀ x ∈ l, x.length = 64) := by
  rw [fit8, List.take_length, Bool.eq_iff_iff]
  simp
theorem int_beq (a b : Nat) : ((a : Int) == (b : Int)) = (a == b) := by
  by_cases h : a = b
  · rw [h]; simp
  · rw [beq_false_of_ne h, beq_false_of_ne (by omega)]
set_option maxRecDepth 100000 in
set_option maxHeartbeats 4000000 in
theorem JBegins_any {w : World} {v : Value} {l : List (List UInt8)} (h : PartsOn w (fun k => k < w.heap.size) v l) (hT : Hm.Tab w) :
    Calls Tryz.prog 4 #[v] w fun e w' => e = .returned (.bool true) ∧ Below w.heap.size w w' := by
  obtain ⟨A, cap, rfl⟩ := h.form
  obtain ⟨m, hm⟩ : ∃ m, m = l.length := ⟨_, rfl⟩
  have HPt := Lib.hid h
  rw [← hm] at HPt ⊢
  have HPa : Hid (0 < m → _) := fun hp => HPt.out.at_ hm.symm hp
  have HM := Lib.hid hm
  have HT := Lib.hid hT
  have HKn : Hid (∀ W, Below w.heap.size w W → Calls Tryz.prog 6 #[] W fun e w' => e = .returned (.bool true) ∧ Below w.heap.size w w') := fun W hW => (Jknows_any W (hT.stay hT.1 hW)).mono fun e w' ⟨he, hb⟩ => ⟨he, hW.trans (hb.mono hW.size)⟩
  by_cases hbig : 20 < m
  · have HK0 := Lib.hid (HKn.out w (Below.refl _ _))
    clear h hm hT HPa HKn HPt HM HT
    go_enter Tryz.func4, Tryz.ntmps4
    go_wp2_with fail
    refine HK0.out.mono ?_
    rintro e w' ⟨rfl, hb⟩
    go_wp2
    go_ret
    exact ⟨rfl, hb⟩
  have HN := Lib.hid (DNew_any 16 (by omega) (by omega) w)
  have hm20 : m ≤ 20 := by omega
  clear h hm hT hbig
  go_enter Tryz.func4, Tryz.ntmps4
  go_wp2_with fail
  refine HN.out.mono ?_
  rintro e w1 ⟨d, G, rfl, hD, hG, hb1⟩
  have HD1 := Lib.hid hD
  have HG := Lib.hid hG
  have HB1 := Lib.hid hb1
  have HDr := Lib.hid (SDerive_any [] (by decide) (.slice none 0 0) w1 (HT.out.below hb1) (.inl ⟨none, rfl, rfl⟩))
  clear hD hG hb1 HN
  go_wp2_with fail
  refine HDr.out.mono ?_
  rintro e w2 ⟨ks, Hks, rfl, hb2⟩
  have hkk : KeysV (encK []) (macK []) ks := Hks.out
  generalize encK [] = ek at *
  generalize macK [] = mk at *
  have HB2 := Lib.hid (HB1.out.trans (hb2.mono HB1.out.size))
  have HD2 := Lib.hid (HD1.out.below hb2)
  obtain ⟨tags, D1, hfe, hl1, -, hr32⟩ := Bk.format_ex (ek := ek) (mk := mk) (n := 8) (D := List.replicate 16 Blk.zero) List.length_replicate (by omega)
  have HF := Lib.hid (Duo.format (w0 := w) (X := fun _ => False) ek mk ks 8 HD2.out (fun k hk => ⟨HG.out k hk, fun h => h⟩) (fun k h => h.elim) HB2.out hkk (by omega) List.length_replicate HT.out)
  rw [hfe] at HF
  obtain ⟨s, hs⟩ : ∃ s : Bk.Bn, s = ⟨8, 1, 0, Bk.rootB mk tags, tags, [], 0, []⟩ := ⟨_, rfl⟩
  rw [← hs] at HF
  have HS : Hid (s.n = 8 ∧ s.L = [] ∧ s.ep = 1) := by rw [hs]; exact ⟨rfl, rfl, rfl⟩
  clear hs hfe hl1 hr32 hkk Hks hb2 HB1 HD1 HD2 HDr HG HB2
  go_wp2_with fail
  refine HF.out.mono ?_
  rintro e w3 ⟨P, rfl, hd3, -⟩
  have HD3 := Lib.hid hd3
  have HB3 : Hid (Below w.heap.size w w3) := hd3.below
  clear hd3 HF
  obtain ⟨ok0, hok0⟩ : ∃ b, b = ((m : Int) == 8) := ⟨_, rfl⟩
  have Hok0 : Hid (ok0 = fit8 m l 0) := by
    show _ = _
    rw [hok0, fit8, List.take_zero, List.all_nil, Bool.and_true]
    exact int_beq m 8
  go_wp2
  rw [← hok0]
  clear hok0
  go_loopw [7, 8] (fun f i wr => ∃ (k : Nat) (b : Bool), k ≤ m ∧ i = .int .i64 k ∧ f = .bool b ∧ Hid (b = fit8 m l k) ∧ Hid (wr = w3)) (fun _ i _ => m - (RowKit.intOf i).toNat)
  case atStart => exact ⟨0, ok0, by omega, rfl, rfl, Hok0, rfl⟩
  case round =>
    obtain ⟨k, b, hk, rfl, rfl, Hb, Hwr⟩ := hrel
    have hwr := Hwr.out
    subst hwr
    clear Hok0 Hwr
    by_cases hlt : k < m
    · obtain ⟨bb, o, rfl, hbl, hKb, hcell⟩ := HPa.out (by omega)
      obtain ⟨A1, c1, hc1, _⟩ := hcell k hlt
      have hc3 : wr.cell? ⟨bb, o + k, none⟩ = _ := (World.cell?_of_block (w := w) (HB3.out.block bb hbl)).trans hc1
      have HTk := Lib.hid (fit8_succ m l k (by rw [← HM.out]; exact hlt))
      generalize hq : (l.getD k []).length = q at *
      clear hq hc1 hcell
      by_cases hq1 : 100 < q
      · have HK0 := Lib.hid (HKn.out wr HB3.out)
        clear HKn HTk Hb HPa HPt
        go_wp2_with fail
        refine HK0.out.mono ?_
        rintro e w' ⟨rfl, hb⟩
        go_wp2
        go_ret
        exact ⟨rfl, hb⟩
      · obtain ⟨b', hb'⟩ : ∃ x, x = (b && ((q : Int) == 64)) := ⟨_, rfl⟩
        have Hb2 : Hid (b' = fit8 m l (k + 1)) := by show _ = _; rw [hb', Hb.out, HTk.out, ← int_beq]; rfl
        have Hb3 := Lib.hid hb'
        clear HTk Hb hb'
        cases b with
        | true =>
          rw [Bool.true_and] at Hb3
          go_wp2
          go_roundw
          case rel => exact ⟨k + 1, b', by omega, by go_num, by rw [Hb3.out], Hb2, by first | exact (rfl) | exact (True.intro)⟩
          case measure => simp [RowKit.intOf]; omega
        | false =>
          rw [Bool.false_and] at Hb3
          go_wp2
          go_roundw
          case rel => exact ⟨k + 1, b', by omega, by go_num, by rw [Hb3.out], Hb2, by first | exact (rfl) | exact (True.intro)⟩
          case measure => simp [RowKit.intOf]; omega
    · obtain rfl : k = m := by omega
      have HPw : Hid (PartsOn wr (fun k => k < w.heap.size) (.slice A k cap) l) := HPt.out.chg (Chg.below HB3.out fun _ _ => False) fun _ _ _ x => x
      have HBg := Lib.hid (HD3.out.begin_ HT.out HPw.out (by rw [HS.out.2.2]; omega) (by rw [← HM.out]; omega))
      have hbe : b = decide (k = 8 ∧ ∀ x ∈ l, x.length = 64) := by have := Hb.out; rw [HM.out, fit8_all, ← HM.out] at this; exact this
      by_cases hx : k = 8 ∧ ∀ x ∈ l, x.length = 64
      · rw [decide_eq_true hx] at hbe
        subst hbe
        have hbg : Bk.begin_ s l = ({ s with L := l, at_ := 0, next := [] }, 0) := by
          unfold Bk.begin_
          rw [if_neg (fun h => h HS.out.2.1), if_pos ⟨hx.2, by rw [← HM.out, HS.out.1]; exact hx.1⟩]
        rw [hbg] at HBg
        have hne : l ≠ [] := fun e => by have := HM.out; rw [e] at this; have := hx.1; simp at *; omega
        obtain ⟨s', hs'⟩ : ∃ s' : Bk.Bn, s' = { s with L := l, at_ := 0, next := [] } := ⟨_, rfl⟩
        have HS' : Hid (s'.L ≠ [] ∧ s'.ep = 1) := by rw [hs']; exact ⟨hne, HS.out.2.2⟩
        rw [← hs'] at HBg
        clear hs' hne hbg hx Hb HD3 HPa
        go_wp2_with fail
        refine HBg.out.mono ?_
        rintro e w4 ⟨rfl, hd4, hc4⟩
        have HD4 := Lib.hid hd4
        have HBu := Lib.hid hd4.busy
        rw [decide_eq_true HS'.out.1] at HBu
        have HP4 : Hid (PartsOn w4 (fun k => k < w.heap.size) (.slice A k cap) l) := HPw.out.chg hc4 fun k _ h1 h2 => by have := h2.1; omega
        clear hd4 hc4 HBg HPw
        go_wp2_with fail
        refine HBu.out.mono ?_
        rintro e w5 ⟨rfl, hb5⟩
        have HD5 := Lib.hid (HD4.out.stay hb5)
        have HP5 := Lib.hid (HP4.out.below hb5)
        have hbg2 : Bk.begin_ s' l = (s', 12) := by unfold Bk.begin_; rw [if_pos HS'.out.1]
        have HBg2 := Lib.hid (HD5.out.begin_ HT.out HP5.out (by rw [HS'.out.2]; omega) (by rw [← HM.out]; omega))
        rw [hbg2] at HBg2
        clear hbg2 hb5 HBu HD4 HP4 HD5 HP5
        go_wp2_with fail
        refine HBg2.out.mono ?_
        rintro e w6 ⟨rfl, hd6, -⟩
        have HK6 := Lib.hid (HKn.out w6 hd6.below)
        clear hd6 HBg2 HKn
        go_wp2_with fail
        refine HK6.out.mono ?_
        rintro e w7 ⟨rfl, hb⟩
        go_wp2
        go_ret
        exact ⟨rfl, hb⟩
      · rw [decide_eq_false hx] at hbe
        subst hbe
        have hbg : Bk.begin_ s l = (s, 1) := by
          unfold Bk.begin_
          rw [if_neg (fun h => h HS.out.2.1), if_neg (fun h => hx ⟨by rw [HM.out, h.2]; exact HS.out.1, h.1⟩)]
        rw [hbg] at HBg
        clear hbg hx Hb HD3 HPa HPw
        go_wp2_with fail
        refine HBg.out.mono ?_
        rintro e w4 ⟨rfl, hd4, -⟩
        have HD4 := Lib.hid hd4
        have HBu := Lib.hid hd4.busy
        rw [decide_eq_false (fun h => h HS.out.2.1)] at HBu
        clear hd4 HBg
        go_wp2_with fail
        refine HBu.out.mono ?_
        rintro e w5 ⟨rfl, hb5⟩
        have HK6 := Lib.hid (HKn.out w5 (HD4.out.stay hb5).below)
        clear HKn HBu HD4 hb5
        go_wp2_with fail
        refine HK6.out.mono ?_
        rintro e w7 ⟨rfl, hb⟩
        go_wp2
        go_ret
        exact ⟨rfl, hb⟩
end Go.Proofs.YthbmknpbcgnabaaGreatDoor
namespace Go.Proofs.YthbmknpbcgnabaaGreatDoor
open Go.ChangeShapes Go.WideShapes Go.ChangeAt Go.RowKit Go.Deep Aes Ctr Sl Hm.Sha
set_option maxRecDepth 100000
theorem ownK : ownKnob Tryz.prog.godebug = none := by kernel_rfl
theorem laidOut : laidOutB Tryz.prog = true := by kernel_rfl
theorem gTab : Tryz.prog.globalNamed "padlock/sha256.cubeRoots" = some 0 := by kernel_rfl
theorem gTabType : (Tryz.prog.globals[0]?).map (·.type) = some 255 := by kernel_rfl
theorem cellsT : Tryz.prog.cellsOf 255 = 64 := by kernel_rfl
theorem cellsE : Tryz.prog.cellsOf 187 = 1 := by kernel_rfl
theorem cellsU8 : Tryz.prog.cellsOf 5 = 1 := by kernel_rfl
theorem cellsS : Tryz.prog.cellsOf 22 = 1 := by kernel_rfl
theorem cellsPs : Tryz.prog.cellsOf 48 = 1 := by kernel_rfl
theorem tab_of {W : World} (h : Lib.TabIs Tryz.prog W "padlock/sha256.cubeRoots" .u32 (K0.map fun x => (x.toNat : Int))) : Hm.Tab W := by
  have hs : Hm.Sees W 0 0 (K0.map Hm.V32) := by
    intro j u hu
    have hj : j < (K0.map fun x => (x.toNat : Int)).length := by
      have := (List.getElem?_eq_some_iff.1 hu).1
      simpa using this
    have hc := h.cell gTab j hj
    rw [Nat.zero_add]
    rw [List.getElem?_map] at hu
    obtain ⟨x, hx, rfl⟩ := Option.map_eq_some_iff.1 hu
    refine hc.trans ?_
    simp [Hm.V32, hx]
  exact ⟨block_lt_of_cell (hs 0 _ rfl), hs⟩
theorem arg_of {W : World} {a : Option Addr} {len cap : Nat} {zs : List Int}
    (h : (a = none ∧ len = 0 ∧ cap = 0 ∧ zs = []) ∨ ∃ x, a = some x ∧ len ≤ cap ∧ cap ≤ maxLen ∧ zs.length = cap ∧ (∀ i, i < zs.length → W.cell? (x.add i) = some (.int .u8 (zs.getD i 0))) ∧ ∀ n ∈ zs, (Lit.int .u8 n).wf = true) :
    ∃ bs : List UInt8, bs.length = len ∧ Arg W (.slice a len cap) bs := by
  rcases h with ⟨rfl, rfl, rfl, rfl⟩ | ⟨x, rfl, hl, hm, hz, hc, hw⟩
  · exact ⟨[], rfl, .inl ⟨none, rfl, rfl⟩⟩
  · rcases Nat.eq_zero_or_pos cap with h0 | h0
    · obtain rfl : len = 0 := by omega
      subst h0
      exact ⟨[], rfl, .inl ⟨_, rfl, rfl⟩⟩
    · obtain ⟨b, off, rfl, hc'⟩ := ints_at hc (by omega)
      have hb : b < W.heap.size := block_lt_of_cell (hc' 0 (by omega))
      refine ⟨(zs.take len).map fun n => UInt8.ofNat n.toNat, by simp; omega, .inr ⟨b, off, cap, by simp; omega, hb, by simp; omega, ?_⟩⟩
      intro j u hu
      rw [List.getElem?_map, List.getElem?_map] at hu
      obtain ⟨x, hx, rfl⟩ := Option.map_eq_some_iff.1 hu
      obtain ⟨z, hz1, rfl⟩ := Option.map_eq_some_iff.1 hx
      rw [List.getElem?_take] at hz1
      split at hz1
      · have hj : j < zs.length := (List.getElem?_eq_some_iff.1 hz1).1
        rw [hc' j hj]
        have hzz : zs.getD j 0 = z := by rw [List.getD_eq_getElem?_getD, hz1]; rfl
        have hbd := bounds_u8 (hw z (List.mem_of_getElem? hz1))
        rw [hzz, V8, toNat_ofNat8 (by omega)]
        congr 2
        omega
      · cases hz1
theorem Arg.on {w : World} {v : Value} {bs : List UInt8} (h : Arg w v bs) : ArgOn w (fun k => k < w.heap.size) v bs := by
  rcases h with h | ⟨b, o, cap, e, hb, hl, hs⟩
  · exact .inl h
  · exact .inr ⟨b, o, cap, e, ⟨hb, hb⟩, hl, hs⟩
section
variable {H : Type} {enc : TypeId × Value → H} {W : World}
theorem open_arg {a0 : Option Addr} {len0 cap0 : Nat} {d0 : DataW H} {p0 : List MemPlace}
    (h0 : DataW.Trod enc Tryz.prog W 0 (fun _ => true) true 22 (.slice a0 len0 cap0) d0 p0) : ∃ bs : List UInt8, bs.length = len0 ∧ Arg W (.slice a0 len0 cap0) bs := by
  obtain ⟨fuel, hf⟩ := h0
  rcases open_ints Tryz.underlying22 Tryz.underlying5 cellsU8 hf with ⟨hcs, _⟩ | ⟨x, l, c, zs, hcs, _, hl, hm, hz, _, hcell, hwz⟩
  · simp [Value.cells] at hcs
    obtain ⟨rfl, rfl, rfl⟩ := hcs
    exact arg_of (.inl ⟨rfl, rfl, rfl, rfl⟩)
  · simp [Value.cells] at hcs
    obtain ⟨rfl, rfl, rfl⟩ := hcs
    exact arg_of (.inr ⟨_, rfl, hl, hm, by simpa using hz, hcell, hwz⟩)
theorem raw_parts {fuel : Nat} {c : Value} {x : DataW H × List MemPlace} (h : DataW.trod enc Tryz.prog W 0 (fun _ => true) true fuel 48 [c] = some x) :
    ∃ (ps : List (List UInt8)) (A : Option Addr) (cap : Nat), c = .slice A ps.length cap ∧ PartsOn W (fun k => k < W.heap.size) c ps := by
  rcases open_int_rows Tryz.underlying48 Tryz.underlying22 Tryz.underlying5 cellsS cellsU8 h with ⟨hcs, _⟩ | ⟨x, len0, cap0, A, L, C, Z, hcs, _, hl, hm, _, hrow⟩
  · obtain rfl : c = .slice none 0 0 := by simpa using hcs
    exact ⟨[], none, 0, rfl, .inl ⟨none, 0, rfl, rfl⟩⟩
  · obtain rfl : c = .slice (some x) len0 cap0 := by simpa using hcs
    have each : ∀ r, r < len0 → ∃ bs : List UInt8, bs.length = L r ∧ Arg W (.slice (A r) (L r) (C r)) bs := fun r hr => by
      obtain ⟨_, h2, h3, h4, h5, h6, h7⟩ := hrow r (by omega)
      refine arg_of (zs := Z r) ?_
      cases hA : A r with
      | none =>
        have hc0 := h6 hA
        exact .inl ⟨rfl, by omega, hc0, List.eq_nil_of_length_eq_zero (by omega)⟩
      | some a' => exact .inr ⟨a', rfl, h2, h3, h4, fun i hi => (h7 a' hA).2 i (by omega), h5⟩
    obtain ⟨f, hf⟩ := choose_lt each
    rcases Nat.eq_zero_or_pos len0 with h0 | hpos
    · subst h0
      exact ⟨[], some x, cap0, rfl, .inl ⟨some x, cap0, rfl, rfl⟩⟩
    obtain ⟨b, off, spot⟩ := x
    have hc0 := (hrow 0 (by omega)).1
    have hspot : spot = none := by simpa [Addr.add] using World.cell?_spot hc0
    subst hspot
    have hcj : ∀ j, j < len0 → W.cell? ⟨b, off + j, none⟩ = some (.slice (A j) (L j) (C j)) := fun j hj => by
      rw [← Go.WideShapes.add_plain]; exact (hrow j (by omega)).1
    have hb : b < W.heap.size := block_lt_of_cell (hcj 0 hpos)
    refine ⟨(List.range len0).map f, some ⟨b, off, none⟩, cap0, by simp, .inr ⟨b, off, cap0, (List.range len0).map fun r => .slice (A r) (L r) (C r), by simp, hb, hb, fun j u hu => ?_, by simp, fun j v p hv hp => ?_⟩⟩
    · rw [List.getElem?_map] at hu
      obtain ⟨i, hi, rfl⟩ := Option.map_eq_some_iff.1 hu
      have hlt : j < len0 := by simpa using (List.getElem?_eq_some_iff.1 hi).1
      have hij : i = j := by
        have := (List.getElem?_eq_some_iff.1 hi).2
        simpa using this.symm
      subst hij
      exact hcj i hlt
    · rw [List.getElem?_map] at hv hp
      obtain ⟨i, hi, rfl⟩ := Option.map_eq_some_iff.1 hv
      obtain ⟨i', hi', rfl⟩ := Option.map_eq_some_iff.1 hp
      rw [hi] at hi'
      cases hi'
      have hlt : i < len0 := by
        have := List.mem_of_getElem? hi
        simpa using this
      exact (hf i hlt).2.on
theorem open_partsOn {a0 : Option Addr} {len0 cap0 : Nat} {d0 : DataW H} {p0 : List MemPlace} (h0 : DataW.Trod enc Tryz.prog W 0 (fun _ => true) true 48 (.slice a0 len0 cap0) d0 p0) :
    ∃ ps : List (List UInt8), ps.length = len0 ∧ PartsOn W (fun k => k < W.heap.size) (.slice a0 len0 cap0) ps := by
  obtain ⟨fuel, hf⟩ := h0
  obtain ⟨ps, a, cap, e, h⟩ := raw_parts (c := .slice a0 len0 cap0) hf
  injection e with _ e2 _
  exact ⟨ps, e2.symm, h⟩
end
noncomputable def laidWorld (os : Os) : World :=
  { World.holding Tryz.prog os ⟨#[], #[], []⟩ with heap := (World.holding Tryz.prog os ⟨#[], #[], []⟩).heap.modify 0 fun
      | .cells _ t frozen => .cells (K0.map Hm.V32).toArray t frozen
      | o => o }
end Go.Proofs.YthbmknpbcgnabaaGreatDoor
namespace Go.Proofs.YthbmknpbcgnabaaGreatDoor
open Go.RowKit Aes Ctr Sl Dsk
namespace Bk
def lay (x : List UInt8) (k : Nat) : List UInt8 := (List.range 64).map fun t => if t < k then x.getD t 0 else 0
def rowB (l : List (List UInt8)) (i : Nat) : List UInt8 :=
  if l.length = 0 then z64
  else if l.length ≤ i then (lay (l.getD (i % l.length) []) 64).set 63 ((lay (l.getD (i % l.length) []) 64).getD 63 0 + UInt8.ofNat (i / l.length))
  else lay (l.getD (i % l.length) []) 64
def rowL (n : Nat) (l : List (List UInt8)) : List (List UInt8) := (List.range n).map (rowB l)
theorem lay_length (x : List UInt8) (k : Nat) : (lay x k).length = 64 := by simp [lay]
theorem lay_zero (x : List UInt8) : lay x 0 = z64 := by
  unfold lay z64
  apply List.ext_getElem?
  intro j
  rw [List.getElem?_map, List.getElem?_replicate]
  by_cases h : j < 64
  · rw [List.getElem?_range h, if_pos h]; simp
  · rw [List.getElem?_eq_none (by simpa using h), if_neg h]; rfl
theorem lay_get (x : List UInt8) (k t : Nat) (ht : t < 64) : (lay x k)[t]? = some (if t < k then x.getD t 0 else 0) := by
  unfold lay
  rw [List.getElem?_map, List.getElem?_range ht]; rfl
theorem lay_succ (x : List UInt8) (k : Nat) (hk : k < 64) : lay x (k + 1) = (lay x k).set k (x.getD k 0) := by
  apply List.ext_getElem?
  intro t
  rw [List.getElem?_set]
  by_cases ht : t < 64
  · rw [lay_get x _ t ht, lay_length]
    by_cases e : k = t
    · subst e
      rw [if_pos rfl, if_pos hk, if_pos (by omega)]
    · rw [if_neg e, lay_get x _ t ht]
      by_cases h2 : t < k
      · rw [if_pos h2, if_pos (by omega)]
      · rw [if_neg h2, if_neg (by omega)]
  · rw [List.getElem?_eq_none (by rw [lay_length]; omega), if_neg (by omega), List.getElem?_eq_none (by rw [lay_length]; omega)]
theorem lay_end (x : List UInt8) (k : Nat) (hk : x.length ≤ k) : lay x k = lay x 64 := by
  apply List.ext_getElem?
  intro t
  by_cases ht : t < 64
  · rw [lay_get x _ t ht, lay_get x _ t ht, if_pos ht]
    by_cases h2 : t < k
    · rw [if_pos h2]
    · rw [if_neg h2, List.getD_eq_getElem?_getD, List.getElem?_eq_none (by omega)]; rfl
  · rw [List.getElem?_eq_none (by rw [lay_length]; omega), List.getElem?_eq_none (by rw [lay_length]; omega)]
theorem lay_cap (x : List UInt8) (k : Nat) (hk : 64 ≤ k) : lay x k = lay x 64 := by
  apply List.ext_getElem?
  intro t
  by_cases ht : t < 64
  · rw [lay_get x _ t ht, lay_get x _ t ht, if_pos ht, if_pos (by omega)]
  · rw [List.getElem?_eq_none (by rw [lay_length]; omega), List.getElem?_eq_none (by rw [lay_length]; omega)]
theorem rowB_length (l : List (List UInt8)) (i : Nat) : (rowB l i).length = 64 := by
  unfold rowB
  split
  · rfl
  · split
    · rw [List.length_set, lay_length]
    · exact lay_length _ _
theorem rowL_length (n : Nat) (l : List (List UInt8)) : (rowL n l).length = n := by simp [rowL]
theorem rowL_get (n : Nat) (l : List (List UInt8)) (i : Nat) (hi : i < n) : (rowL n l).getD i [] = rowB l i := by
  unfold rowL
  rw [List.getD_eq_getElem?_getD, List.getElem?_map, List.getElem?_range hi]; rfl
theorem rowL_succ (n : Nat) (l : List (List UInt8)) : rowL (n + 1) l = rowL n l ++ [rowB l n] := by
  unfold rowL
  rw [List.range_succ, List.map_append]; rfl
theorem rowL_64 (n : Nat) (l : List (List UInt8)) : ∀ x ∈ rowL n l, x.length = 64 := fun x hx => by
  unfold rowL at hx
  obtain ⟨i, _, rfl⟩ := List.mem_map.1 hx
  exact rowB_length l i
end Bk
end Go.Proofs.YthbmknpbcgnabaaGreatDoor
