/-
  THE WALK of the reference's Key.Sum: the tag, by definition.
-/
import Derived.Test.YtcmledlghipcbaaDoorTH
namespace Go.Proofs.YtcmledlghipcbaaDoor
open Go.RowKit Sha

theorem Summed_arg (v : Value) (bs : List UInt8) (hl : bs.length ≤ 1000000) (rb rc cb cc : Nat) (w : World) (hv : Arg w v bs)
    (hrl : rb < w.heap.size) (hr : Sees w rb 0 (R0.list.map V32)) (hcl : cb < w.heap.size) (hc : Sees w cb 0 (K0.map V32)) :
    Calls Tryd.prog 13 #[v, .slice (some ⟨rb, 0, none⟩) 8 rc, .slice (some ⟨cb, 0, none⟩) 64 cc] w fun e w' =>
      ∃ v, e = .returned v ∧ Own w' w.heap.size 5 v ((dg bs).map V8) ∧ Below w.heap.size w w' := by
  obtain ⟨A, cap, rfl⟩ := hv.form
  exact Summed_gen A _ cap bs rfl hl rb 0 rc R0 cb 0 cc K0 K0_length w (arg_from hv) hrl hr hcl hc

/-- The two cells of the key that are read beside the full key. -/
def KeyCells (g rb rc cb cc : Nat) (W : World) : Prop :=
  W.cell? ⟨g, 1, none⟩ = some (.slice (some ⟨rb, 0, none⟩) 8 rc) ∧ W.cell? ⟨g, 2, none⟩ = some (.slice (some ⟨cb, 0, none⟩) 64 cc)
/-- A key whose places are named. -/
def KeyIn (w : World) (g rb rc cb cc : Nat) (key : List UInt8) : Prop :=
  KeyAt w (.pointer (some ⟨g, 0, none⟩)) key ∧ g < w.heap.size ∧ KeyCells g rb rc cb cc w ∧ rb < w.heap.size ∧ Sees w rb 0 (R0.list.map V32) ∧ cb < w.heap.size ∧ Sees w cb 0 (K0.map V32)
theorem KeyAt.named {w : World} {p : Value} {key : List UInt8} (h : KeyAt w p key) : ∃ g rb rc cb cc, p = .pointer (some ⟨g, 0, none⟩) ∧ KeyIn w g rb rc cb cc key := by
  have h0 := h
  obtain ⟨g, kb, kc, rb, rc, cb, cc, rfl, h1, h2, h3, h4, h5, h6, h7, h8, h9⟩ := h
  exact ⟨g, rb, rc, cb, cc, rfl, h0, h1, ⟨h2 1 _ rfl, h2 2 _ rfl⟩, h6, h7, h8, h9⟩
theorem KeyCells.below {g rb rc cb cc : Nat} {w w' : World} (h : KeyCells g rb rc cb cc w) (hg : g < w.heap.size) (hb : Below w.heap.size w w') : KeyCells g rb rc cb cc w' :=
  ⟨(World.cell?_of_block (w := w) (hb.block g hg)).trans h.1, (World.cell?_of_block (w := w) (hb.block g hg)).trans h.2⟩
theorem KeyIn.below {w w' : World} {g rb rc cb cc : Nat} {key : List UInt8} (h : KeyIn w g rb rc cb cc key) (hb : Below w.heap.size w w') : KeyIn w' g rb rc cb cc key := by
  obtain ⟨h1, h2, h3, h4, h5, h6, h7⟩ := h
  have hs := hb.size
  exact ⟨h1.below hb, by omega, h3.below h2 hb, by omega, h5.below hb h4, by omega, h7.below hb h6⟩

theorem key_with {w : World} {g rb rc cb cc : Nat} {key : List UInt8} (h : KeyIn w g rb rc cb cc key) (m : UInt8) (u : Value) (bs : List UInt8) (hu : Arg w u bs) :
    Calls Tryd.prog 17 #[.pointer (some ⟨g, 0, none⟩), .int .u8 m.toNat] w.drew fun e w1 => ∃ v1, e = .returned v1 ∧ Hid (Own w1 w.heap.size 5 v1 ((xorK (fullK key) m).map V8)) ∧ Hid (From w1 u (bs.map V8)) ∧ KeyCells g rb rc cb cc w1 ∧ Hid (Below w.heap.size w w1) :=
  (with_any _ key m w.drew h.1).mono fun e w1 ⟨v1, he, ho, hb'⟩ => by
    have hb : Below w.heap.size w w1 := ⟨hb'.os, hb'.tape, hb'.output, hb'.size, hb'.block⟩
    exact ⟨v1, he, ho, arg_from (hu.below hb), h.2.2.1.below h.2.1 hb, hb⟩
theorem key_summed {w : World} {g rb rc cb cc : Nat} {key : List UInt8} (h : KeyIn w g rb rc cb cc key) (xs : List UInt8) (hl : xs.length ≤ 1000000) (v2 : Value) (w2 : World) (ho : Own w2 w.heap.size 5 v2 (xs.map V8)) (hb2 : Below w.heap.size w w2) :
    Calls Tryd.prog 13 #[v2, .slice (some ⟨rb, 0, none⟩) 8 rc, .slice (some ⟨cb, 0, none⟩) 64 cc] w2 fun e w3 => ∃ v3, e = .returned v3 ∧ Hid (Own w3 w.heap.size 5 v3 ((dg xs).map V8)) ∧ KeyCells g rb rc cb cc w3 ∧ Hid (Below w.heap.size w w3) := by
  obtain ⟨_, h2, h3, h4, h5, h6, h7⟩ := h.below hb2
  refine (Summed_arg v2 xs hl rb rc cb cc w2 ho.arg h4 h5 h6 h7).mono fun e w3 ⟨v3, he, ho3, hb3⟩ => ?_
  exact ⟨v3, he, Own.base ho3 hb2.size, h3.below h2 hb3, hb2.trans (hb3.mono hb2.size)⟩
theorem KeyCells.app {g rb rc cb cc : Nat} {w w1 w2 : World} {v : Value} {ys : List Value} (h : KeyCells g rb rc cb cc w1) (hg : g < w.heap.size) (ho : Own w1 w.heap.size 5 v ys) (hs : w.heap.size ≤ w1.heap.size) (hgr : w1.grownBy w2 v.ownBlock) : KeyCells g rb rc cb cc w2 :=
  ⟨cell_app ho hgr hs hg h.1, cell_app ho hgr hs hg h.2⟩

set_option maxRecDepth 100000 in
set_option maxHeartbeats 1000000 in
theorem KSum_any (p : Value) (key : List UInt8) (u : Value) (bs : List UInt8) (hn : bs.length ≤ 900000) (w : World) (hk : KeyAt w p key) (hu : Arg w u bs) :
    Calls Tryd.prog 10 #[p, u] w fun e w' => ∃ v, e = .returned v ∧ Own w' w.heap.size 5 v ((mac key bs).map V8) ∧ Below w.heap.size w w' := by
  obtain ⟨g, rb, rc, cb, cc, rfl, hin⟩ := hk.named
  have HI := Lib.hid hin
  have hg := hin.2.1
  have hxl := xorK_length (fullK key) 54
  rw [fullK_length] at hxl
  have HLs : Hid ((xorK (fullK key) 54 ++ bs).length ≤ 1000000) := by show _ ≤ _; rw [List.length_append, hxl]; omega
  have HW := Lib.hid (key_with hin 54 u bs hu)
  have HSm : Hid (∀ v2 w2, Own w2 w.heap.size 5 v2 ((xorK (fullK key) 54).map V8 ++ bs.map V8) → Below w.heap.size w w2 → Calls Tryd.prog 13 #[v2, .slice (some ⟨rb, 0, none⟩) 8 rc, .slice (some ⟨cb, 0, none⟩) 64 cc] w2 fun e w3 => ∃ v3, e = .returned v3 ∧ Hid (Own w3 w.heap.size 5 v3 ((dg (xorK (fullK key) 54 ++ bs)).map V8)) ∧ KeyCells g rb rc cb cc w3 ∧ Hid (Below w.heap.size w w3)) :=
    fun v2 w2 ho hb => key_summed hin (xorK (fullK key) 54 ++ bs) HLs.out v2 w2 (by rw [List.map_append]; exact ho) hb
  have H1 := Lib.hid (oneC8 bs)
  have HL : Hid (((xorK (fullK key) 54).map V8).length + (bs.map V8).length ≤ 100000000) := by show _ ≤ _; rw [List.length_map, List.length_map, hxl]; omega
  have hS0 : w.drew.cell? ⟨g, 1, none⟩ = some (.slice (some ⟨rb, 0, none⟩) 8 rc) ∧ w.drew.cell? ⟨g, 2, none⟩ = some (.slice (some ⟨cb, 0, none⟩) 64 cc) := hin.2.2.1
  have HSz := Lib.hid (Nat.le_refl w.heap.size)
  clear hk hin hu hxl hn
  go_enter Tryd.func10, Tryd.ntmps10
  go_wp2
  go_region_held3 (fun W => W.cell? ⟨g, 1, none⟩ = some (.slice (some ⟨rb, 0, none⟩) 8 rc) ∧ W.cell? ⟨g, 2, none⟩ = some (.slice (some ⟨cb, 0, none⟩) 64 cc)) (first | exact hS0 | exact hS1 | exact hS2 | exact hS3)
    (first
      | (go_at_call 17; refine HW.out.mono ?_; rintro e w1 ⟨v1, rfl, HO1, HF1, hS1, HB1⟩)
      | (refine step_app rfl (.tmp 7) (.tmp 8) 22 rfl w.heap.size 5 Tryd.underlying22 info8 rfl (by decide) _ ((xorK (fullK key) 54).map V8) rfl HO1.out _ (bs.map V8) rfl HF1.out H1.out HL.out HB1.out.size ?_; intro v2 w2 hown2 hg2 _; have hS2 := KeyCells.app hS1 hg HO1.out HB1.out.size hg2; have HB2 := Lib.hid (below_app HB1.out HO1.out hg2 (Nat.le_refl _) HB1.out.size); have HO2 := Lib.hid hown2; clear hown2 hg2)
      | (go_at_call 13; refine (HSm.out _ _ HO2.out HB2.out).mono ?_; rintro e w3 ⟨v3, rfl, HO3, hS3, HB3⟩))
  have hin3 := HI.out.below HB3.out
  have hu3 := HO3.out.arg
  have hd := dg_length (xorK (fullK key) 54 ++ bs)
  have HM : Hid (mac key bs = dg (xorK (fullK key) 92 ++ dg (xorK (fullK key) 54 ++ bs))) := rfl
  generalize dg (xorK (fullK key) 54 ++ bs) = d at *
  clear HW HSm H1 HL hS0 hS1 hS2 hS3 HO1 HF1 HB1 HO2 HB2 HO3 HI HLs
  have hg3 : g < w3.heap.size := hin3.2.1
  have hxl := xorK_length (fullK key) 92
  rw [fullK_length] at hxl
  have HLs : Hid ((xorK (fullK key) 92 ++ d).length ≤ 1000000) := by show _ ≤ _; rw [List.length_append, hxl, hd]; omega
  have HW := Lib.hid (key_with hin3 92 v3 d hu3)
  have HSm : Hid (∀ v2 w2, Own w2 w3.heap.size 5 v2 ((xorK (fullK key) 92).map V8 ++ d.map V8) → Below w3.heap.size w3 w2 → Calls Tryd.prog 13 #[v2, .slice (some ⟨rb, 0, none⟩) 8 rc, .slice (some ⟨cb, 0, none⟩) 64 cc] w2 fun e w4 => ∃ v4, e = .returned v4 ∧ Hid (Own w4 w3.heap.size 5 v4 ((dg (xorK (fullK key) 92 ++ d)).map V8)) ∧ KeyCells g rb rc cb cc w4 ∧ Hid (Below w3.heap.size w3 w4)) :=
    fun v2 w2 ho hb => key_summed hin3 (xorK (fullK key) 92 ++ d) HLs.out v2 w2 (by rw [List.map_append]; exact ho) hb
  have H1 := Lib.hid (oneC8 d)
  have HL : Hid (((xorK (fullK key) 92).map V8).length + (d.map V8).length ≤ 100000000) := by show _ ≤ _; rw [List.length_map, List.length_map, hxl, hd]; omega
  have hS0 : w3.drew.cell? ⟨g, 1, none⟩ = some (.slice (some ⟨rb, 0, none⟩) 8 rc) ∧ w3.drew.cell? ⟨g, 2, none⟩ = some (.slice (some ⟨cb, 0, none⟩) 64 cc) := hin3.2.2.1
  clear hin3 hu3 hxl hd HLs
  go_wp2
  go_region_held3 (fun W => W.cell? ⟨g, 1, none⟩ = some (.slice (some ⟨rb, 0, none⟩) 8 rc) ∧ W.cell? ⟨g, 2, none⟩ = some (.slice (some ⟨cb, 0, none⟩) 64 cc)) (first | exact hS0 | exact hS4 | exact hS5 | exact hS6)
    (first
      | (go_at_call 17; refine HW.out.mono ?_; rintro e w4 ⟨v4, rfl, HO4, HF4, hS4, HB4⟩)
      | (refine step_app rfl (.tmp 20) (.tmp 21) 22 rfl w3.heap.size 5 Tryd.underlying22 info8 rfl (by decide) _ ((xorK (fullK key) 92).map V8) rfl HO4.out _ (d.map V8) rfl HF4.out H1.out HL.out HB4.out.size ?_; intro v5 w5 hown5 hg5 _; have hS5 := KeyCells.app hS4 hg3 HO4.out HB4.out.size hg5; have HB5 := Lib.hid (below_app HB4.out HO4.out hg5 (Nat.le_refl _) HB4.out.size); have HO5 := Lib.hid hown5; clear hown5 hg5)
      | (go_at_call 13; refine (HSm.out _ _ HO5.out HB5.out).mono ?_; rintro e w6 ⟨v6, rfl, HO6, hS6, HB6⟩))
  clear HW HSm H1 HL hS0 hS4 hS5 hS6 HO4 HF4 HB4 HO5 HB5
  go_wp2
  go_ret
  exact ⟨_, rfl, by rw [HM.out]; exact Own.base HO6.out HB3.out.size, HB3.out.trans (HB6.out.mono HB3.out.size)⟩
end Go.Proofs.YtcmledlghipcbaaDoor
