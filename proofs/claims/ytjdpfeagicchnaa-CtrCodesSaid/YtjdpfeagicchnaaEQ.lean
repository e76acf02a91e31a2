/-
  PARTS (a slice of slices of bytes), and THE WALK of the reference's add.
-/
import Derived.Test.YtjdpfeagicchnaaEP
import Derived.Deep.RegionHeld3
namespace Go.Proofs.Ytjdpfeagicchnaa
open Go.RowKit Aes

/-- Parts of bytes: a slice of slices. -/
def Vals (w : World) (vs : List Value) (ps : List (List UInt8)) : Prop := vs.length = ps.length ∧ ∀ (j : Nat) v p, vs[j]? = some v → ps[j]? = some p → Arg w v p
theorem Vals.below {w w' : World} {vs : List Value} {ps : List (List UInt8)} (h : Vals w vs ps) (hb : Below w.heap.size w w') : Vals w' vs ps := ⟨h.1, fun j v p hv hp => (h.2 j v p hv hp).below hb⟩
def Parts (w : World) (v : Value) (ps : List (List UInt8)) : Prop :=
  ∃ b o cap vs, v = .slice (some ⟨b, o, none⟩) ps.length cap ∧ Vals w vs ps ∧ b < w.heap.size ∧ Sees w b o vs
theorem Parts.below {w w' : World} {v : Value} {ps : List (List UInt8)} (h : Parts w v ps) (hb : Below w.heap.size w w') : Parts w' v ps := by
  obtain ⟨b, o, cap, vs, e, hv, hl, hs⟩ := h
  exact ⟨b, o, cap, vs, e, hv.below hb, Nat.lt_of_lt_of_le hl hb.size, hs.below hb hl⟩
/-- A word that lies as a slice of its own. -/
theorem Arg.word {w : World} {v : Value} {p : List UInt8} (h : Arg w v p) (hp : 0 < p.length) : ∃ b o c, v = .slice (some ⟨b, o, none⟩) p.length c ∧ b < w.heap.size ∧ Sees w b o (p.map V8) := by
  rcases h with ⟨A, _, rfl⟩ | ⟨b, o, c, e, hb, _, hs⟩
  · simp at hp
  · exact ⟨b, o, c, e, hb, hs⟩
theorem Vals.word {w : World} {vs : List Value} {ps : List (List UInt8)} (h : Vals w vs ps) (h4 : ∀ x ∈ ps, x.length = 4) (j : Nat) (hj : j < ps.length) :
    ∃ b o c, vs[j]? = some (.slice (some ⟨b, o, none⟩) 4 c) ∧ b < w.heap.size ∧ Sees w b o ((ps.getD j []).map V8) ∧ (ps.getD j []).length = 4 := by
  have hv := List.getElem?_eq_getElem (show j < vs.length by rw [h.1]; exact hj)
  have hp := List.getElem?_eq_getElem hj
  have hl := h4 _ (List.getElem_mem hj)
  obtain ⟨b, o, c, e, hb, hs⟩ := (h.2 j _ _ hv hp).word (by omega)
  have e2 : ps.getD j [] = ps[j] := by rw [List.getD_eq_getElem?_getD, hp]; rfl
  refine ⟨b, o, c, ?_, hb, ?_, ?_⟩
  · rw [hv, e, hl]
  · rw [e2]; exact hs
  · rw [e2]; exact hl

theorem take_xor (b k : List UInt8) (j : Nat) (hb : j < b.length) (hk : j < k.length) : xorL (b.take (j + 1)) (k.take (j + 1)) = xorL (b.take j) (k.take j) ++ [b.getD j 0 ^^^ k.getD j 0] := by
  unfold xorL
  rw [List.take_succ_eq_append_getElem hb, List.take_succ_eq_append_getElem hk, List.zipWith_append (by simp; omega), List.getD_eq_getElem?_getD, List.getElem?_eq_getElem hb, List.getD_eq_getElem?_getD, List.getElem?_eq_getElem hk]
  rfl
theorem key_at2 (r k : Nat) (hr : r ≤ 10) (hk : k < 16) : ∃ a : Nat, IntKind.i64.wrap (4 * (r : Int)) = (a : Int) ∧ ∃ c : Nat, IntKind.i64.wrap ((k : Int) / 4) = (c : Int) ∧ ∃ q : Nat, IntKind.i64.wrap ((a : Int) + (c : Int)) = (q : Int) ∧ ∃ m : Nat, (k : Int).tmod 4 = (m : Int) ∧ q < 44 ∧ m < 4 ∧ 16 * r + k = 4 * q + m := by
  refine ⟨r * 4, by rw [IntWalk.i64_in _ (by omega)]; omega, k / 4, by rw [IntWalk.i64_in _ (by omega)]; omega, r * 4 + k / 4, by rw [IntWalk.i64_in _ (by omega)]; omega, k % 4, by rw [Int.tmod_eq_emod_of_nonneg (by omega)]; omega, by omega, by omega, by omega⟩

set_option maxRecDepth 100000 in
set_option maxHeartbeats 1000000 in
theorem Aadd_some (vb vo vc ub uo uc r : Nat) (hr : r ≤ 10) (b : List UInt8) (hbl : b.length = 16) (ws : List (List UInt8)) (hwl : ws.length = 44) (hw4 : ∀ x ∈ ws, x.length = 4) (vs : List Value) (w : World)
    (hvl : vb < w.heap.size) (hv : Sees w vb vo (b.map V8)) (hul : ub < w.heap.size) (hus : Sees w ub uo vs) (hvals : Vals w vs ws) :
    Calls Try.prog 28 #[.slice (some ⟨vb, vo, none⟩) 16 vc, .slice (some ⟨ub, uo, none⟩) 44 uc, .int .i64 r] w fun e w' => ∃ v, e = .returned v ∧ Hid (Own w' w.heap.size 5 v ((xorL b ((ws.flatten.drop (16 * r)).take 16)).map V8)) ∧ Below w.heap.size w w' := by
  have HBl := Lib.hid hbl
  have HWl := Lib.hid hwl
  have HW4 := Lib.hid hw4
  have HV := Lib.hid hv
  have HU := Lib.hid hus
  have HVa := Lib.hid hvals
  have HFl : Hid (((ws.flatten.drop (16 * r)).take 16).length = 16) := by
    show _ = _
    rw [List.length_take, List.length_drop, flat_length ws hw4, hwl]; omega
  obtain ⟨ks, hks⟩ : ∃ ks, ks = (ws.flatten.drop (16 * r)).take 16 := ⟨_, rfl⟩
  have HKS := Lib.hid hks
  rw [← hks] at HFl ⊢
  clear hks hbl hwl hw4 hv hus hvals
  go_enter Try.func28, Try.ntmps28
  go_wp2
  go_loopw [7, 8] (fun o i wr => ∃ k : Nat, k ≤ 16 ∧ i = .int .i64 k ∧ Own wr w.heap.size 5 o ((xorL (b.take k) (ks.take k)).map V8) ∧ Below w.heap.size w wr) (fun _ i _ => 16 - (intOf i).toNat)
  case atStart => exact ⟨0, by omega, rfl, Own.nil _ _ _, Below.refl _ _⟩
  case round =>
    obtain ⟨k, hk, rfl, hown, hbel⟩ := hrel
    have hszr := hbel.size
    by_cases hlt : k < 16
    · obtain ⟨a, ea, c, ec, q, eq, m, em, hq, hm, hqm⟩ := key_at2 r k hr hlt
      obtain ⟨pb, po, pc, hpv, hpl, hps, hp4⟩ := HVa.out.word HW4.out q (by rw [HWl.out]; exact hq)
      have HY : Hid (ks.getD k 0 = (ws.getD q []).getD m 0) := by
        show _ = _
        rw [HKS.out, List.getD_eq_getElem?_getD, List.getElem?_take, if_pos hlt, List.getElem?_drop, ← List.getD_eq_getElem?_getD, hqm, flat_at ws HW4.out q m hm (by rw [HWl.out]; exact hq)]
      have g1 : wr.cell? ⟨vb, vo + k, none⟩ = some (.int .u8 (b.getD k 0).toNat) := at8 (HV.out.below hbel hvl) k (by rw [HBl.out]; exact hlt)
      have g2 : wr.cell? ⟨ub, uo + q, none⟩ = some (.slice (some ⟨pb, po, none⟩) 4 pc) := (HU.out.below hbel hul) q _ hpv
      have g3 : wr.cell? ⟨pb, po + m, none⟩ = some (.int .u8 ((ws.getD q []).getD m 0).toNat) := at8 (hps.below hbel hpl) m (by rw [hp4]; exact hm)
      have HT : Hid (xorL (b.take (k + 1)) (ks.take (k + 1)) = xorL (b.take k) (ks.take k) ++ [b.getD k 0 ^^^ ks.getD k 0]) := take_xor b ks k (by rw [HBl.out]; exact hlt) (by rw [HFl.out]; exact hlt)
      rw [HY.out] at HT
      have HX := Lib.hid (xor8 (b.getD k 0) ((ws.getD q []).getD m 0))
      generalize b.getD k 0 = x at *
      generalize (ws.getD q []).getD m 0 = y at *
      have HL : Hid (((xorL (b.take k) (ks.take k)).map V8).length + 1 ≤ 100000000) := by show _ ≤ _; simp [xorL]; omega
      have Hown := Lib.hid hown
      clear hown hpv hps hp4 hqm HY
      go_wp2
      have hq' : (q : Int) < 44 := by omega
      have hm' : (m : Int) < 4 := by omega
      have hk' : (k : Int) < 16 := by omega
      have G0 : wr.drew.cell? ⟨vb, vo + k, none⟩ = some (.int .u8 x.toNat) ∧ wr.drew.cell? ⟨ub, uo + q, none⟩ = some (.slice (some ⟨pb, po, none⟩) 4 pc) ∧ wr.drew.cell? ⟨pb, po + m, none⟩ = some (.int .u8 y.toNat) := ⟨g1, g2, g3⟩
      have G1 : ∀ o, (wr.alloc o).drew.cell? ⟨vb, vo + k, none⟩ = some (.int .u8 x.toNat) ∧ (wr.alloc o).drew.cell? ⟨ub, uo + q, none⟩ = some (.slice (some ⟨pb, po, none⟩) 4 pc) ∧ (wr.alloc o).drew.cell? ⟨pb, po + m, none⟩ = some (.int .u8 y.toNat) := fun o =>
        ⟨(World.cell?_alloc_lt wr o _ (by show vb < _; omega)).trans g1, (World.cell?_alloc_lt wr o _ (by show ub < _; omega)).trans g2, (World.cell?_alloc_lt wr o _ (by show pb < _; omega)).trans g3⟩
      clear g1 g2 g3
      have Hown2 : Hid (∀ o, Own (wr.alloc o).drew w.heap.size 5 u7 ((xorL (b.take k) (ks.take k)).map V8)) := fun o => (Hown.out.alloc o).drew
      have Hlts : Hid (vb < w.heap.size ∧ ub < w.heap.size ∧ pb < w.heap.size) := ⟨hvl, hul, hpl⟩
      have HG4 : Hid (∀ w4, (wr.alloc (.cells #[.int .u8 (bits .xor .u8 (x.toNat : Int) y.toNat)] 5)).drew.grownBy w4 u7.ownBlock → w4.cell? ⟨vb, vo + k, none⟩ = some (.int .u8 x.toNat) ∧ w4.cell? ⟨ub, uo + q, none⟩ = some (.slice (some ⟨pb, po, none⟩) 4 pc) ∧ w4.cell? ⟨pb, po + m, none⟩ = some (.int .u8 y.toNat)) := fun w4 hg => by
        have hB : Below w.heap.size (wr.alloc (.cells #[.int .u8 (bits .xor .u8 (x.toNat : Int) y.toNat)] 5)).drew w4 := below_app (Below.refl _ _) (Hown2.out _) hg (Nat.le_refl _) (by simp; omega)
        obtain ⟨k1, k2, k3⟩ := G1 (.cells #[.int .u8 (bits .xor .u8 (x.toNat : Int) y.toNat)] 5)
        exact ⟨(hB.cell (p := ⟨vb, vo + k, none⟩) Hlts.out.1).trans k1, (hB.cell (p := ⟨ub, uo + q, none⟩) Hlts.out.2.1).trans k2, (hB.cell (p := ⟨pb, po + m, none⟩) Hlts.out.2.2).trans k3⟩
      go_region_held3 (fun W => W.cell? ⟨vb, vo + k, none⟩ = some (.int .u8 x.toNat) ∧ W.cell? ⟨ub, uo + q, none⟩ = some (.slice (some ⟨pb, po, none⟩) 4 pc) ∧ W.cell? ⟨pb, po + m, none⟩ = some (.int .u8 y.toNat)) (first | exact G0 | exact G1 _ | exact G4)
        (first | (refine step_app rfl (.tmp 13) (.tmp 31) 24 rfl w.heap.size 5 Try.underlying24 info8 rfl (by decide) _ ((xorL (b.take k) (ks.take k)).map V8) rfl (Hown2.out _) _ [.int .u8 (bits .xor .u8 (x.toNat : Int) y.toNat)] rfl (from_new wr 5 [.int .u8 (bits .xor .u8 (x.toNat : Int) y.toNat)]) (by rw [HX.out]; exact oneC8 [x ^^^ y]) HL.out (by simp; omega) ?_; intro v' w2 hown2 hg2 _; have G4 := HG4.out _ hg2))
      all_goals
        clear G0 G1 G4 HG4 ea ec eq em hq' hm' hk'
        go_wp2
        go_roundw
        case rel =>
          rw [HX.out] at hown2
          refine ⟨k + 1, by omega, by go_num, ?_, ?_⟩
          · rw [HT.out, List.map_append]; exact hown2
          · exact below_app (hbel.alloc hszr _).drew (Hown2.out _) hg2 (Nat.le_refl _) (by simp; omega)
        case measure => simp [intOf]; omega
    · obtain rfl : k = 16 := by omega
      rw [show ((16 : Nat) : Int) = 16 from rfl]
      have e1 : b.take 16 = b := List.take_of_length_le (by rw [HBl.out]; omega)
      have e2 : ks.take 16 = ks := List.take_of_length_le (by rw [HFl.out]; omega)
      rw [e1, e2] at hown
      have Hown := Lib.hid hown
      clear e1 e2 hown
      go_wp2
      go_ret
      exact ⟨_, rfl, Hown, hbel⟩
end Go.Proofs.Ytjdpfeagicchnaa
