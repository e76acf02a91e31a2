/-
  3 TEXTS IN ONE (HmTG, HmTH, HmTI): each says at its own head what it holds.
-/
import Derived.Test.YtepbnimheedodaaDoorHmTE
import Derived.Lib.SmallJoins

section
/-
  THE WALK of the reference's New: the full key, and the constants.
-/
namespace Go.Proofs.YtepbnimheedodaaDoor.Hm
open Go.RowKit Sha

/-- A key of the reference's: a pointer to the full key, and the constants. -/
def KeyAt (w : World) (p : Value) (key : List UInt8) : Prop :=
  ∃ g kb kc rb rc cb cc, p = .pointer (some ⟨g, 0, none⟩) ∧ g < w.heap.size ∧ Sees w g 0 [.slice (some ⟨kb, 0, none⟩) 64 kc, .slice (some ⟨rb, 0, none⟩) 8 rc, .slice (some ⟨cb, 0, none⟩) 64 cc]
    ∧ kb < w.heap.size ∧ 64 ≤ kc ∧ Sees w kb 0 ((fullK key).map V8) ∧ rb < w.heap.size ∧ Sees w rb 0 (R0.list.map V32) ∧ cb < w.heap.size ∧ Sees w cb 0 (K0.map V32)
theorem KeyAt.below {w w' : World} {p : Value} {key : List UInt8} (h : KeyAt w p key) (hb : Below w.heap.size w w') : KeyAt w' p key := by
  obtain ⟨g, kb, kc, rb, rc, cb, cc, e, h1, h2, h3, h4, h5, h6, h7, h8, h9⟩ := h
  have hs := hb.size
  exact ⟨g, kb, kc, rb, rc, cb, cc, e, by omega, h2.below hb h1, by omega, h4, h5.below hb h3, by omega, h7.below hb h6, by omega, h9.below hb h8⟩
theorem key_new {w : World} {key : List UInt8} {kb kc rb rc cb cc : Nat} (h5 : Sees w kb 0 ((fullK key).map V8)) (h3 : kb < w.heap.size) (h4 : 64 ≤ kc) (h7 : Sees w rb 0 (R0.list.map V32)) (h6 : rb < w.heap.size) (h9 : Sees w cb 0 (K0.map V32)) (h8 : cb < w.heap.size) :
    KeyAt (w.alloc (.cells #[.slice (some ⟨kb, 0, none⟩) 64 kc, .slice (some ⟨rb, 0, none⟩) 8 rc, .slice (some ⟨cb, 0, none⟩) 64 cc] 63)) (.pointer (some ⟨w.heap.size, 0, none⟩)) key := by
  refine ⟨w.heap.size, kb, kc, rb, rc, cb, cc, rfl, by simp, (Row.new w 63 [.slice (some ⟨kb, 0, none⟩) 64 kc, .slice (some ⟨rb, 0, none⟩) 8 rc, .slice (some ⟨cb, 0, none⟩) 64 cc]).sees, by simp; omega, h4, h5.alloc h3 _, by simp; omega, h7.alloc h6 _, by simp; omega, h9.alloc h8 _⟩

/-- The same, its blocks laid from B on. -/
def KeyFrom (w : World) (B : Nat) (p : Value) (key : List UInt8) : Prop :=
  ∃ g kb kc rb rc cb cc, p = .pointer (some ⟨g, 0, none⟩) ∧ (g < w.heap.size ∧ Sees w g 0 [.slice (some ⟨kb, 0, none⟩) 64 kc, .slice (some ⟨rb, 0, none⟩) 8 rc, .slice (some ⟨cb, 0, none⟩) 64 cc]
    ∧ kb < w.heap.size ∧ 64 ≤ kc ∧ Sees w kb 0 ((fullK key).map V8) ∧ rb < w.heap.size ∧ Sees w rb 0 (R0.list.map V32) ∧ cb < w.heap.size ∧ Sees w cb 0 (K0.map V32)) ∧ B ≤ g ∧ B ≤ kb ∧ B ≤ rb ∧ B ≤ cb
theorem KeyFrom.at {w : World} {B : Nat} {p : Value} {key : List UInt8} (h : KeyFrom w B p key) : KeyAt w p key := by
  obtain ⟨g, kb, kc, rb, rc, cb, cc, e, h, _⟩ := h
  exact ⟨g, kb, kc, rb, rc, cb, cc, e, h⟩
theorem key_from {w : World} {B : Nat} {key : List UInt8} {kb kc rb rc cb cc : Nat} (h5 : Sees w kb 0 ((fullK key).map V8)) (h3 : kb < w.heap.size) (h4 : 64 ≤ kc) (h7 : Sees w rb 0 (R0.list.map V32)) (h6 : rb < w.heap.size) (h9 : Sees w cb 0 (K0.map V32)) (h8 : cb < w.heap.size) (hB : B ≤ w.heap.size) (b1 : B ≤ kb) (b2 : B ≤ rb) (b3 : B ≤ cb) :
    KeyFrom (w.alloc (.cells #[.slice (some ⟨kb, 0, none⟩) 64 kc, .slice (some ⟨rb, 0, none⟩) 8 rc, .slice (some ⟨cb, 0, none⟩) 64 cc] 63)) B (.pointer (some ⟨w.heap.size, 0, none⟩)) key :=
  ⟨w.heap.size, kb, kc, rb, rc, cb, cc, rfl, ⟨by simp, (Row.new w 63 [.slice (some ⟨kb, 0, none⟩) 64 kc, .slice (some ⟨rb, 0, none⟩) 8 rc, .slice (some ⟨cb, 0, none⟩) 64 cc]).sees, by simp; omega, h4, h5.alloc h3 _, by simp; omega, h7.alloc h6 _, by simp; omega, h9.alloc h8 _⟩, hB, b1, b2, b3⟩

theorem pad8_next (j : Nat) (l : List UInt8) (h : l.length ≤ j) : pad8 (j + 1) l = pad8 j l ++ [0] := by
  unfold pad8
  rw [List.append_assoc, show j + 1 - l.length = (j - l.length) + 1 by omega, List.replicate_succ']
/-- How long a slice is. -/
def lenOf : Value → Nat
  | .slice _ n _ => n
  | _ => 0

set_option maxRecDepth 100000 in
set_option maxHeartbeats 400000 in
theorem New_short (A : Option Addr) (n cap : Nat) (key : List UInt8) (hl : key.length = n) (hn : n ≤ 64) (w : World) (h : Arg w (.slice A n cap) key) :
    Calls Tryd.prog 7 #[.slice A n cap] w fun e w' => ∃ p, e = .returned p ∧ KeyFrom w' w.heap.size p key ∧ Below w.heap.size w w' := by
  have HA := Lib.hid h
  have HL := Lib.hid hl
  clear h hl
  go_enter Tryd.func7, Tryd.ntmps7
  go_wp2_with fail
  refine (Constants_any w).mono ?_
  rintro e w1 ⟨r, c, rfl, hr, hc, hb1⟩
  obtain ⟨gr, c1, hv1, hb2r, hl1, hs1⟩ := hr.form (by simp [St.list])
  obtain ⟨gc, c2, hv2, hb2c, hl2, hs2⟩ := hc.form (by rw [List.length_map]; exact Nat.lt_of_lt_of_eq (by omega) K0_length.symm)
  rw [List.length_map, show R0.list.length = 8 from rfl] at hv1
  rw [List.length_map, K0_length] at hv2
  rw [hv1, hv2]
  have hsz1 := hb1.size
  have Hs1 := Lib.hid hs1
  have Hs2 := Lib.hid hs2
  have Hbr := Lib.hid hb2r
  have Hbc := Lib.hid hb2c
  clear hv1 hv2 hr hc hs1 hs2 hb2r hb2c
  have HFr : Hid (From (w1.alloc (.cells #[] 5)) (.slice A n cap) (key.map V8)) := (arg_from (HA.out.below hb1)).alloc _
  have HO : Hid (Own (w1.alloc (.cells #[] 5)) w1.heap.size 5 (.slice (some ⟨w1.heap.size, 0, none⟩) 0 0) []) := Own.lit w1 _ _ [] (Nat.le_refl _) (by decide)
  have H1 := Lib.hid (oneC8 key)
  have HLn : Hid (([] : List Value).length + (key.map V8).length ≤ 100000000) := by show _ ≤ _; rw [List.length_map, HL.out]; simp; omega
  go_wp2_with (at_builtin; refine wpList_app rfl (.tmp 10) (.tmp 11) 22 rfl w1.heap.size 5 Tryd.underlying22 info8 rfl (by decide) _ [] rfl HO.out _ (key.map V8) rfl HFr.out H1.out HLn.out (by simp) ?_; intro v2 w2 hown2 hg2 _; rw [List.nil_append] at hown2; obtain ⟨A2, c2', hv2⟩ := hown2.shape; rw [List.length_map, HL.out] at hv2; have hb2 : Below w1.heap.size w1 w2 := by_to_below' hg2; have HO2 := Lib.hid hown2; have HB2 := Lib.hid hb2; rw [hv2] at HO2 ⊢; have hsz2 := hb2.size; clear hown2 hg2 hv2 hb2)

  obtain ⟨k0, hk0⟩ : ∃ k0, k0 = key := ⟨_, rfl⟩
  rw [← hk0] at HO2
  have HK0 : Hid (k0.length ≤ 64) := by rw [hk0, HL.out]; exact hn
  have HF : Hid (fullK key = pad8 64 k0) := by show _ = _; rw [fullK, if_neg (by rw [HL.out]; omega), hk0]
  clear hk0 HFr HO H1 HLn

  go_loopw [5] (fun v wr => ∃ j : Nat, k0.length ≤ j ∧ j ≤ 64 ∧ Own wr w1.heap.size 5 v ((pad8 j k0).map V8) ∧ Below w1.heap.size w1 wr) (fun v _ => 64 - lenOf v)
  case atStart => exact ⟨k0.length, Nat.le_refl _, HK0.out, by rw [pad8_full]; exact HO2.out, HB2.out⟩
  case round =>
    obtain ⟨j, hj0, hj, hown, hbel⟩ := hrel
    have hszr := hbel.size
    obtain ⟨A5, c5, hv5⟩ := hown.shape
    rw [List.length_map, pad8_length _ _ hj0] at hv5
    by_cases hlt : j < 64
    · rw [hv5] at hown ⊢
      have Hown := Lib.hid hown
      have HN := Lib.hid (pad8_next j k0 hj0)
      have HL : Hid (((pad8 j k0).map V8).length + 1 ≤ 100000000) := by show _ ≤ _; rw [List.length_map, pad8_length _ _ hj0]; omega
      clear hown hv5
      go_wp2_with (at_builtin; refine wpList_app rfl (.tmp 23) (.tmp 24) 22 rfl w1.heap.size 5 Tryd.underlying22 info8 rfl (by decide) _ ((pad8 j k0).map V8) rfl (Hown.out.alloc _) _ [.int .u8 0] rfl (from_new wr 5 [.int .u8 0]) (oneC8 [0]) HL.out (by simp; omega) ?_; intro v' w3 hown3 hg3 _)
      obtain ⟨A6, c6, hv6⟩ := hown3.shape
      have Hl6 : Hid (lenOf v' = j + 1) := by
        show _ = _
        rw [hv6, lenOf, List.length_append, List.length_map, pad8_length _ _ hj0]
        rfl
      go_roundw
      case rel =>
        refine ⟨j + 1, by omega, by omega, ?_, ?_⟩
        · rw [HN.out, List.map_append]; exact hown3
        · exact below_app (hbel.alloc hszr _) (Hown.out.alloc _) hg3 (Nat.le_refl _) (by simp; omega)
      case measure => rw [Hl6.out]; simp only [lenOf]; omega
    · obtain rfl : j = 64 := by omega
      have hk5 := hown.form_cap (by rw [List.length_map, pad8_length _ _ hj0]; omega)
      rw [List.length_map, pad8_length _ _ hj0] at hk5
      obtain ⟨g5, cc5, hv, hb5, hgl, hcap, hsee⟩ := hk5
      rw [hv]
      have HS5 : Hid (Sees wr g5 0 ((fullK key).map V8)) := by rw [HF.out]; exact hsee
      have HSr : Hid (Sees wr gr 0 (R0.list.map V32)) := Hs1.out.below hbel hl1
      have HSc : Hid (Sees wr gc 0 (K0.map V32)) := Hs2.out.below hbel hl2
      have hbw : Below w.heap.size w wr := hb1.trans (hbel.mono hb1.size)
      have HBW : Hid (Below w.heap.size w (wr.alloc (.cells #[.slice (some ⟨g5, 0, none⟩) 64 cc5, .slice (some ⟨gr, 0, none⟩) 8 c1, .slice (some ⟨gc, 0, none⟩) 64 c2] 63))) := hbw.alloc hbw.size _
      clear hown hv hv5 hsee hbel hbw
      go_wp2
      go_ret
      exact ⟨_, rfl, key_from HS5.out hgl hcap HSr.out (by omega) HSc.out (by omega) (by omega) (by omega) Hbr.out Hbc.out, HBW.out⟩

set_option maxRecDepth 100000 in
set_option maxHeartbeats 400000 in
theorem New_long (A : Option Addr) (n cap : Nat) (key : List UInt8) (hl : key.length = n) (hn : 64 < n ∧ n ≤ 1000000) (w : World) (h : Arg w (.slice A n cap) key) :
    Calls Tryd.prog 7 #[.slice A n cap] w fun e w' => ∃ p, e = .returned p ∧ KeyFrom w' w.heap.size p key ∧ Below w.heap.size w w' := by
  have HA := Lib.hid h
  have HL := Lib.hid hl
  clear h hl
  go_enter Tryd.func7, Tryd.ntmps7
  go_wp2_with fail
  refine (Constants_any w).mono ?_
  rintro e w1 ⟨r, c, rfl, hr, hc, hb1⟩
  obtain ⟨gr, c1, hv1, hb2r, hl1, hs1⟩ := hr.form (by simp [St.list])
  obtain ⟨gc, c2, hv2, hb2c, hl2, hs2⟩ := hc.form (by rw [List.length_map]; exact Nat.lt_of_lt_of_eq (by omega) K0_length.symm)
  rw [List.length_map, show R0.list.length = 8 from rfl] at hv1
  rw [List.length_map, K0_length] at hv2
  rw [hv1, hv2]
  have hsz1 := hb1.size
  have Hs1 := Lib.hid hs1
  have Hs2 := Lib.hid hs2
  have Hbr := Lib.hid hb2r
  have Hbc := Lib.hid hb2c
  clear hv1 hv2 hr hc hs1 hs2 hb2r hb2c
  have HFr : Hid (From (w1.alloc (.cells #[] 5)) (.slice A n cap) (key.map V8)) := (arg_from (HA.out.below hb1)).alloc _
  have HO : Hid (Own (w1.alloc (.cells #[] 5)) w1.heap.size 5 (.slice (some ⟨w1.heap.size, 0, none⟩) 0 0) []) := Own.lit w1 _ _ [] (Nat.le_refl _) (by decide)
  have H1 := Lib.hid (oneC8 key)
  have HLn : Hid (([] : List Value).length + (key.map V8).length ≤ 100000000) := by show _ ≤ _; rw [List.length_map, HL.out]; simp; omega
  go_wp2_with (at_builtin; refine wpList_app rfl (.tmp 10) (.tmp 11) 22 rfl w1.heap.size 5 Tryd.underlying22 info8 rfl (by decide) _ [] rfl HO.out _ (key.map V8) rfl HFr.out H1.out HLn.out (by simp) ?_; intro v2 w2 hown2 hg2 _; rw [List.nil_append] at hown2; obtain ⟨A2, c2', hv2⟩ := hown2.shape; rw [List.length_map, HL.out] at hv2; have hb2 : Below w1.heap.size w1 w2 := by_to_below' hg2; have HO2 := Lib.hid hown2; have HB2 := Lib.hid hb2; rw [hv2] at HO2 ⊢; have hsz2 := hb2.size; clear hown2 hg2 hv2 hb2)

  have HF2 : Hid (From w2 (.slice A2 n c2') (key.map V8)) := Own.from_ HO2.out
  refine (Summed_gen A2 n c2' key HL.out (by omega) gr 0 c1 R0 gc 0 c2 K0 K0_length w2 HF2.out (by omega) (Hs1.out.below HB2.out hl1) (by omega) (Hs2.out.below HB2.out hl2)).mono ?_
  rintro e w3 ⟨v3, rfl, hown3, hb3⟩
  obtain ⟨k0, hk0⟩ : ∃ k0, k0 = dg key := ⟨_, rfl⟩
  have HO3 : Hid (Own w3 w1.heap.size 5 v3 (k0.map V8)) := by rw [hk0]; exact Own.base hown3 hsz2
  have HB3 : Hid (Below w1.heap.size w1 w3) := HB2.out.trans (hb3.mono hsz2)
  clear HO2 HB2 hown3 hb3
  have HO2 := HO3
  have HB2 := HB3
  clear HO3 HB3
  have HK0 : Hid (k0.length ≤ 64) := by rw [hk0, dg_length]; show _ ≤ _; omega
  have HF : Hid (fullK key = pad8 64 k0) := by show _ = _; rw [fullK, if_pos (by rw [HL.out]; omega), hk0]
  clear hk0 HFr HO H1 HLn HF2
  go_wp2

  go_loopw [5] (fun v wr => ∃ j : Nat, k0.length ≤ j ∧ j ≤ 64 ∧ Own wr w1.heap.size 5 v ((pad8 j k0).map V8) ∧ Below w1.heap.size w1 wr) (fun v _ => 64 - lenOf v)
  case atStart => exact ⟨k0.length, Nat.le_refl _, HK0.out, by rw [pad8_full]; exact HO2.out, HB2.out⟩
  case round =>
    obtain ⟨j, hj0, hj, hown, hbel⟩ := hrel
    have hszr := hbel.size
    obtain ⟨A5, c5, hv5⟩ := hown.shape
    rw [List.length_map, pad8_length _ _ hj0] at hv5
    by_cases hlt : j < 64
    · rw [hv5] at hown ⊢
      have Hown := Lib.hid hown
      have HN := Lib.hid (pad8_next j k0 hj0)
      have HL : Hid (((pad8 j k0).map V8).length + 1 ≤ 100000000) := by show _ ≤ _; rw [List.length_map, pad8_length _ _ hj0]; omega
      clear hown hv5
      go_wp2_with (at_builtin; refine wpList_app rfl (.tmp 23) (.tmp 24) 22 rfl w1.heap.size 5 Tryd.underlying22 info8 rfl (by decide) _ ((pad8 j k0).map V8) rfl (Hown.out.alloc _) _ [.int .u8 0] rfl (from_new wr 5 [.int .u8 0]) (oneC8 [0]) HL.out (by simp; omega) ?_; intro v' w3 hown3 hg3 _)
      obtain ⟨A6, c6, hv6⟩ := hown3.shape
      have Hl6 : Hid (lenOf v' = j + 1) := by
        show _ = _
        rw [hv6, lenOf, List.length_append, List.length_map, pad8_length _ _ hj0]
        rfl
      go_roundw
      case rel =>
        refine ⟨j + 1, by omega, by omega, ?_, ?_⟩
        · rw [HN.out, List.map_append]; exact hown3
        · exact below_app (hbel.alloc hszr _) (Hown.out.alloc _) hg3 (Nat.le_refl _) (by simp; omega)
      case measure => rw [Hl6.out]; simp only [lenOf]; omega
    · obtain rfl : j = 64 := by omega
      have hk5 := hown.form_cap (by rw [List.length_map, pad8_length _ _ hj0]; omega)
      rw [List.length_map, pad8_length _ _ hj0] at hk5
      obtain ⟨g5, cc5, hv, hb5, hgl, hcap, hsee⟩ := hk5
      rw [hv]
      have HS5 : Hid (Sees wr g5 0 ((fullK key).map V8)) := by rw [HF.out]; exact hsee
      have HSr : Hid (Sees wr gr 0 (R0.list.map V32)) := Hs1.out.below hbel hl1
      have HSc : Hid (Sees wr gc 0 (K0.map V32)) := Hs2.out.below hbel hl2
      have hbw : Below w.heap.size w wr := hb1.trans (hbel.mono hb1.size)
      have HBW : Hid (Below w.heap.size w (wr.alloc (.cells #[.slice (some ⟨g5, 0, none⟩) 64 cc5, .slice (some ⟨gr, 0, none⟩) 8 c1, .slice (some ⟨gc, 0, none⟩) 64 c2] 63))) := hbw.alloc hbw.size _
      clear hown hv hv5 hsee hbel hbw
      go_wp2
      go_ret
      exact ⟨_, rfl, key_from HS5.out hgl hcap HSr.out (by omega) HSc.out (by omega) (by omega) (by omega) Hbr.out Hbc.out, HBW.out⟩

theorem New_from (v : Value) (key : List UInt8) (hn : key.length ≤ 1000000) (w : World) (h : Arg w v key) :
    Calls Tryd.prog 7 #[v] w fun e w' => ∃ p, e = .returned p ∧ KeyFrom w' w.heap.size p key ∧ Below w.heap.size w w' := by
  obtain ⟨A, cap, rfl⟩ := h.form
  rcases Nat.lt_or_ge 64 key.length with hl | hl
  · exact New_long A _ cap key rfl ⟨hl, hn⟩ w h
  · exact New_short A _ cap key rfl hl w h
theorem New_any (v : Value) (key : List UInt8) (hn : key.length ≤ 1000000) (w : World) (h : Arg w v key) :
    Calls Tryd.prog 7 #[v] w fun e w' => ∃ p, e = .returned p ∧ KeyAt w' p key ∧ Below w.heap.size w w' :=
  (New_from v key hn w h).mono fun _ _ ⟨p, e, hk, hb⟩ => ⟨p, e, hk.at, hb⟩
end Go.Proofs.YtepbnimheedodaaDoor.Hm
end

section
/-
  THE WALKS of the reference's with, Key.Sum and Joined.
-/
namespace Go.Proofs.YtepbnimheedodaaDoor.Hm
open Go.RowKit Sha

set_option maxRecDepth 100000 in
set_option maxHeartbeats 400000 in
theorem with_any (p : Value) (key : List UInt8) (m : UInt8) (w : World) (h : KeyAt w p key) :
    Calls Tryd.prog 75 #[p, .int .u8 m.toNat] w fun e w' => ∃ v, e = .returned v ∧ Own w' w.heap.size 5 v ((xorK (fullK key) m).map V8) ∧ Below w.heap.size w w' := by
  obtain ⟨g, kb, kc, rb, rc, cb, cc, rfl, hg, hs, hkb, hkc, hk, _⟩ := h
  have HC : Hid (w.cell? ⟨g, 0, none⟩ = some (.slice (some ⟨kb, 0, none⟩) 64 kc)) := hs 0 _ rfl
  have HK := Lib.hid hk
  have HKl := Lib.hid (fullK_length key)
  clear hs hk
  generalize fullK key = k at *
  go_enter Tryd.func75, Tryd.ntmps75
  go_wp2
  go_loopw [5, 6] (fun v i wr => ∃ j : Nat, j ≤ 64 ∧ i = .int .i64 j ∧ Own wr w.heap.size 5 v ((xorK (k.take j) m).map V8) ∧ Below w.heap.size w wr) (fun _ i _ => 64 - (intOf i).toNat)
  case atStart => exact ⟨0, by omega, rfl, Own.nil _ _ _, Below.refl _ _⟩
  case round =>
    obtain ⟨j, hj, rfl, hown, hbel⟩ := hrel
    have hszr := hbel.size
    by_cases hlt : j < 64
    · have hc : wr.cell? ⟨g, 0, none⟩ = some (.slice (some ⟨kb, 0, none⟩) 64 kc) := (World.cell?_of_block (w := w) (hbel.block g hg)).trans HC.out
      have hx : wr.cell? ⟨kb, j, none⟩ = some (.int .u8 (k.getD j 0).toNat) := by
        have := at8 (HK.out.below hbel hkb) j (by rw [HKl.out]; exact hlt)
        rwa [Nat.zero_add] at this
      have HT2 := Lib.hid (xorK_take k m j (by rw [HKl.out]; exact hlt))
      have HXr := Lib.hid (xor8 (k.getD j 0) m)
      have HL : Hid (((xorK (k.take j) m).map V8).length + 1 ≤ 100000000) := by show _ ≤ _; rw [List.length_map, xorK_length, List.length_take]; omega
      generalize k.getD j 0 = x at *
      have Hown := Lib.hid hown
      clear hown
      go_wp2_with (at_builtin; refine wpList_app rfl (.tmp 11) (.tmp 21) 22 rfl w.heap.size 5 Tryd.underlying22 info8 rfl (by decide) _ ((xorK (k.take j) m).map V8) rfl (Hown.out.alloc _) _ [.int .u8 (bits .xor .u8 (x.toNat : Int) m.toNat)] rfl (from_new wr 5 [.int .u8 (bits .xor .u8 (x.toNat : Int) m.toNat)]) (by rw [HXr.out]; exact oneC8 [x ^^^ m]) HL.out (by simp; omega) ?_; intro v' w2 hown2 hg2 _)
      go_roundw
      case rel =>
        refine ⟨j + 1, by omega, by go_num, ?_, ?_⟩
        · rw [HXr.out] at hown2
          rw [HT2.out, List.map_append]; exact hown2
        · exact below_app (hbel.alloc (by omega) _) (Hown.out.alloc _) hg2 (Nat.le_refl _) (by simp; omega)
      case measure => simp [intOf]; omega
    · obtain rfl : j = 64 := by omega
      rw [show ((64 : Nat) : Int) = 64 from rfl]
      rw [List.take_of_length_le (by rw [HKl.out]; omega)] at hown
      have Hown := Lib.hid hown
      clear hown
      go_wp2
      go_ret
      exact ⟨_, rfl, Hown.out, hbel⟩

set_option maxRecDepth 100000 in
set_option maxHeartbeats 400000 in
theorem Joined_any (A : Option Addr) (n cap : Nat) (ps : List (List UInt8)) (hs : Small ps) (w : World) (h : Parts w (.slice A n cap) ps) :
    Calls Tryd.prog 59 #[.slice A n cap] w fun e w' => ∃ v, e = .returned v ∧ Own w' w.heap.size 5 v ((joined ps).map V8) ∧ Below w.heap.size w w' := by
  have HS := Lib.hid hs
  have HP := Lib.hid h
  have HL := Lib.hid h.len
  have hn : n ≤ 100 := by rw [← h.len]; exact hs.1
  clear hs h
  go_enter Tryd.func59, Tryd.ntmps59
  go_wp2
  go_loopw [3, 4, 5] (fun t i _ wr => ∃ k : Nat, k ≤ n ∧ i = .int .i64 k ∧ Own wr w.heap.size 5 t ((joined (ps.take k)).map V8) ∧ Below w.heap.size w wr) (fun _ i _ _ => n - (intOf i).toNat)
  case atStart => exact ⟨0, by omega, rfl, Own.nil _ _ _, Below.refl _ _⟩
  case round =>
    obtain ⟨k, hk, rfl, hown, hbel⟩ := hrel
    have hszr := hbel.size
    have Hown := Lib.hid hown
    clear hown
    by_cases hlt : k < n
    · obtain ⟨b, o, A', c', p, rfl, hbl, hpj, hcell0, harg⟩ := HP.out.at_ k hlt
      have hcell : wr.cell? ⟨b, o + k, none⟩ = some (.slice A' p.length c') := (World.cell?_of_block (w := w) (hbel.block b hbl)).trans hcell0
      have hpl : p.length ≤ 1000 := HS.out.part hpj
      have HT := Lib.hid (joined_take ps k p hpj)
      have HA := Lib.hid harg
      have HC0 := Lib.hid hcell0
      clear hpj harg hcell0
      obtain ⟨m, hm⟩ : ∃ m, m = p.length := ⟨_, rfl⟩
      rw [← hm] at hcell hpl HA HT HC0
      have HM := Lib.hid hm
      clear hm
      have HF4 := Lib.hid (lenB_cells m hpl)
      have HL1 : Hid (((joined (ps.take k)).map V8).length + 4 ≤ 100000000) := by show _ ≤ _; rw [List.length_map]; have := HS.out.take k; omega
      have HL2 : Hid (((joined (ps.take k)).map V8 ++ (lenB m).map V8).length + (p.map V8).length ≤ 100000000) := by show _ ≤ _; rw [List.length_append, List.length_map, List.length_map, List.length_map, lenB_length, ← HM.out]; have := HS.out.take k; omega
      have H1 := Lib.hid (oneC8 p)
      go_wp2_with (at_builtin; first
        | (refine wpList_app rfl (.tmp 17) (.tmp 29) 22 rfl w.heap.size 5 Tryd.underlying22 info8 rfl (by decide) _ ((joined (ps.take k)).map V8) rfl (Hown.out.alloc _) _ [.int .u8 ((m : Int) / 16777216), .int .u8 ((m : Int) / 65536), .int .u8 ((m : Int) / 256), .int .u8 ((m : Int) % 256)] rfl (from_new wr 5 [.int .u8 ((m : Int) / 16777216), .int .u8 ((m : Int) / 65536), .int .u8 ((m : Int) / 256), .int .u8 ((m : Int) % 256)]) (by rw [HF4.out]; exact oneC8 _) HL1.out (by simp; omega) ?_; intro v2 w2 hown2 hg2 _; rw [HF4.out] at hown2; have Hown2 := Lib.hid hown2; have hb2 : Below w.heap.size w w2 := below_app (hbel.alloc hszr _) (Hown.out.alloc _) hg2 (Nat.le_refl _) (by simp; omega); have hsz2 := hb2.size; have HF2 : Hid (From w2 (.slice A' m c') (p.map V8)) := arg_from (HA.out.below hb2); have hcell2 : w2.cell? ⟨b, o + k, none⟩ = some (.slice A' m c') := (World.cell?_of_block (w := w) (hb2.block b hbl)).trans HC0.out; clear hown2 hg2)
        | (refine wpList_app rfl (.tmp 31) (.tmp 35) 22 rfl w.heap.size 5 Tryd.underlying22 info8 rfl (by decide) _ ((joined (ps.take k)).map V8 ++ (lenB m).map V8) rfl Hown2.out _ (p.map V8) rfl HF2.out H1.out HL2.out (by omega) ?_; intro v3 w3 hown3 hg3 _))
      go_roundw
      case rel =>
        refine ⟨k + 1, by omega, by go_num, ?_, ?_⟩
        · rw [HT.out, List.map_append, List.map_append, ← List.append_assoc]; exact hown3
        · exact below_app hb2 Hown2.out hg3 (Nat.le_refl _) (by omega)
      case measure => simp [intOf]; omega
    · obtain rfl : k = n := by omega
      have hfin : ps.take k = ps := List.take_of_length_le (by rw [HL.out]; omega)
      rw [hfin] at Hown
      clear hfin
      go_wp2
      go_ret
      exact ⟨_, rfl, Hown.out, hbel⟩
end Go.Proofs.YtepbnimheedodaaDoor.Hm
end

section
/-
  THE WALK of the reference's Key.Sum: the tag, by definition.
-/
namespace Go.Proofs.YtepbnimheedodaaDoor.Hm
open Go.RowKit Sha

theorem Summed_arg (v : Value) (bs : List UInt8) (hl : bs.length ≤ 1000000) (rb rc cb cc : Nat) (w : World) (hv : Arg w v bs)
    (hrl : rb < w.heap.size) (hr : Sees w rb 0 (R0.list.map V32)) (hcl : cb < w.heap.size) (hc : Sees w cb 0 (K0.map V32)) :
    Calls Tryd.prog 23 #[v, .slice (some ⟨rb, 0, none⟩) 8 rc, .slice (some ⟨cb, 0, none⟩) 64 cc] w fun e w' =>
      ∃ v, e = .returned v ∧ Own w' w.heap.size 5 v ((dg bs).map V8) ∧ Below w.heap.size w w' := by
  obtain ⟨A, cap, rfl⟩ := hv.form
  exact Summed_gen A _ cap bs rfl hl rb 0 rc R0 cb 0 cc K0 K0_length w (arg_from hv) hrl hr hcl hc

/-- The two cells of the key that are read beside the full key. -/
def KeyCells (g rb rc cb cc : Nat) (W : World) : Prop :=
  W.cell? ⟨g, 1, none⟩ = some (.slice (some ⟨rb, 0, none⟩) 8 rc) ∧ W.cell? ⟨g, 2, none⟩ = some (.slice (some ⟨cb, 0, none⟩) 64 cc)
/-- A key whose places are named. -/
def KeyIn (w : World) (g rb rc cb cc : Nat) (key : List UInt8) : Prop :=
  KeyAt w (.pointer (some ⟨g, 0, none⟩)) key ∧ g < w.heap.size ∧ KeyCells g rb rc cb cc w ∧ rb < w.heap.size ∧ Sees w rb 0 (R0.list.map V32) ∧ cb < w.heap.size ∧ Sees w cb 0 (K0.map V32)
theorem KeyAt.named {w : World} {p : Value} {key : List UInt8} (h : KeyAt w p key) : ∃ g rb rc cb cc, p = .pointer (some ⟨g, 0, none⟩) ∧ KeyIn w g rb rc cb cc key := by
  have h0 := h
  obtain ⟨g, kb, kc, rb, rc, cb, cc, rfl, h1, h2, h3, h4, h5, h6, h7, h8, h9⟩ := h
  exact ⟨g, rb, rc, cb, cc, rfl, h0, h1, ⟨h2 1 _ rfl, h2 2 _ rfl⟩, h6, h7, h8, h9⟩
theorem KeyCells.below {g rb rc cb cc : Nat} {w w' : World} (h : KeyCells g rb rc cb cc w) (hg : g < w.heap.size) (hb : Below w.heap.size w w') : KeyCells g rb rc cb cc w' :=
  ⟨(World.cell?_of_block (w := w) (hb.block g hg)).trans h.1, (World.cell?_of_block (w := w) (hb.block g hg)).trans h.2⟩
theorem KeyIn.below {w w' : World} {g rb rc cb cc : Nat} {key : List UInt8} (h : KeyIn w g rb rc cb cc key) (hb : Below w.heap.size w w') : KeyIn w' g rb rc cb cc key := by
  obtain ⟨h1, h2, h3, h4, h5, h6, h7⟩ := h
  have hs := hb.size
  exact ⟨h1.below hb, by omega, h3.below h2 hb, by omega, h5.below hb h4, by omega, h7.below hb h6⟩

theorem key_with {w : World} {g rb rc cb cc : Nat} {key : List UInt8} (h : KeyIn w g rb rc cb cc key) (m : UInt8) (u : Value) (bs : List UInt8) (hu : Arg w u bs) :
    Calls Tryd.prog 75 #[.pointer (some ⟨g, 0, none⟩), .int .u8 m.toNat] w.drew fun e w1 => ∃ v1, e = .returned v1 ∧ Hid (Own w1 w.heap.size 5 v1 ((xorK (fullK key) m).map V8)) ∧ Hid (From w1 u (bs.map V8)) ∧ KeyCells g rb rc cb cc w1 ∧ Hid (Below w.heap.size w w1) :=
  (with_any _ key m w.drew h.1).mono fun e w1 ⟨v1, he, ho, hb'⟩ => by
    have hb : Below w.heap.size w w1 := ⟨hb'.os, hb'.tape, hb'.output, hb'.size, hb'.block⟩
    exact ⟨v1, he, ho, arg_from (hu.below hb), h.2.2.1.below h.2.1 hb, hb⟩
theorem key_summed {w : World} {g rb rc cb cc : Nat} {key : List UInt8} (h : KeyIn w g rb rc cb cc key) (xs : List UInt8) (hl : xs.length ≤ 1000000) (v2 : Value) (w2 : World) (ho : Own w2 w.heap.size 5 v2 (xs.map V8)) (hb2 : Below w.heap.size w w2) :
    Calls Tryd.prog 23 #[v2, .slice (some ⟨rb, 0, none⟩) 8 rc, .slice (some ⟨cb, 0, none⟩) 64 cc] w2 fun e w3 => ∃ v3, e = .returned v3 ∧ Hid (Own w3 w.heap.size 5 v3 ((dg xs).map V8)) ∧ KeyCells g rb rc cb cc w3 ∧ Hid (Below w.heap.size w w3) := by
  obtain ⟨_, h2, h3, h4, h5, h6, h7⟩ := h.below hb2
  refine (Summed_arg v2 xs hl rb rc cb cc w2 ho.arg h4 h5 h6 h7).mono fun e w3 ⟨v3, he, ho3, hb3⟩ => ?_
  exact ⟨v3, he, Own.base ho3 hb2.size, h3.below h2 hb3, hb2.trans (hb3.mono hb2.size)⟩
theorem KeyCells.app {g rb rc cb cc : Nat} {w w1 w2 : World} {v : Value} {ys : List Value} (h : KeyCells g rb rc cb cc w1) (hg : g < w.heap.size) (ho : Own w1 w.heap.size 5 v ys) (hs : w.heap.size ≤ w1.heap.size) (hgr : w1.grownBy w2 v.ownBlock) : KeyCells g rb rc cb cc w2 :=
  ⟨cell_app ho hgr hs hg h.1, cell_app ho hgr hs hg h.2⟩

set_option maxRecDepth 100000 in
set_option maxHeartbeats 1000000 in
theorem KSum_any (p : Value) (key : List UInt8) (u : Value) (bs : List UInt8) (hn : bs.length ≤ 900000) (w : World) (hk : KeyAt w p key) (hu : Arg w u bs) :
    Calls Tryd.prog 58 #[p, u] w fun e w' => ∃ v, e = .returned v ∧ Own w' w.heap.size 5 v ((mac key bs).map V8) ∧ Below w.heap.size w w' := by
  obtain ⟨g, rb, rc, cb, cc, rfl, hin⟩ := hk.named
  have HI := Lib.hid hin
  have hg := hin.2.1
  have hxl := xorK_length (fullK key) 54
  rw [fullK_length] at hxl
  have HLs : Hid ((xorK (fullK key) 54 ++ bs).length ≤ 1000000) := by show _ ≤ _; rw [List.length_append, hxl]; omega
  have HW := Lib.hid (key_with hin 54 u bs hu)
  have HSm : Hid (∀ v2 w2, Own w2 w.heap.size 5 v2 ((xorK (fullK key) 54).map V8 ++ bs.map V8) → Below w.heap.size w w2 → Calls Tryd.prog 23 #[v2, .slice (some ⟨rb, 0, none⟩) 8 rc, .slice (some ⟨cb, 0, none⟩) 64 cc] w2 fun e w3 => ∃ v3, e = .returned v3 ∧ Hid (Own w3 w.heap.size 5 v3 ((dg (xorK (fullK key) 54 ++ bs)).map V8)) ∧ KeyCells g rb rc cb cc w3 ∧ Hid (Below w.heap.size w w3)) :=
    fun v2 w2 ho hb => key_summed hin (xorK (fullK key) 54 ++ bs) HLs.out v2 w2 (by rw [List.map_append]; exact ho) hb
  have H1 := Lib.hid (oneC8 bs)
  have HL : Hid (((xorK (fullK key) 54).map V8).length + (bs.map V8).length ≤ 100000000) := by show _ ≤ _; rw [List.length_map, List.length_map, hxl]; omega
  have hS0 : w.drew.cell? ⟨g, 1, none⟩ = some (.slice (some ⟨rb, 0, none⟩) 8 rc) ∧ w.drew.cell? ⟨g, 2, none⟩ = some (.slice (some ⟨cb, 0, none⟩) 64 cc) := hin.2.2.1
  have HSz := Lib.hid (Nat.le_refl w.heap.size)
  clear hk hin hu hxl hn
  go_enter Tryd.func58, Tryd.ntmps58
  go_wp2
  go_region_held3 (fun W => W.cell? ⟨g, 1, none⟩ = some (.slice (some ⟨rb, 0, none⟩) 8 rc) ∧ W.cell? ⟨g, 2, none⟩ = some (.slice (some ⟨cb, 0, none⟩) 64 cc)) (first | exact hS0 | exact hS1 | exact hS2 | exact hS3)
    (first
      | (go_at_call 75; refine HW.out.mono ?_; rintro e w1 ⟨v1, rfl, HO1, HF1, hS1, HB1⟩)
      | (refine step_app rfl (.tmp 7) (.tmp 8) 22 rfl w.heap.size 5 Tryd.underlying22 info8 rfl (by decide) _ ((xorK (fullK key) 54).map V8) rfl HO1.out _ (bs.map V8) rfl HF1.out H1.out HL.out HB1.out.size ?_; intro v2 w2 hown2 hg2 _; have hS2 := KeyCells.app hS1 hg HO1.out HB1.out.size hg2; have HB2 := Lib.hid (below_app HB1.out HO1.out hg2 (Nat.le_refl _) HB1.out.size); have HO2 := Lib.hid hown2; clear hown2 hg2)
      | (go_at_call 23; refine (HSm.out _ _ HO2.out HB2.out).mono ?_; rintro e w3 ⟨v3, rfl, HO3, hS3, HB3⟩))
  have hin3 := HI.out.below HB3.out
  have hu3 := HO3.out.arg
  have hd := dg_length (xorK (fullK key) 54 ++ bs)
  have HM : Hid (mac key bs = dg (xorK (fullK key) 92 ++ dg (xorK (fullK key) 54 ++ bs))) := rfl
  generalize dg (xorK (fullK key) 54 ++ bs) = d at *
  clear HW HSm H1 HL hS0 hS1 hS2 hS3 HO1 HF1 HB1 HO2 HB2 HO3 HI HLs
  have hg3 : g < w3.heap.size := hin3.2.1
  have hxl := xorK_length (fullK key) 92
  rw [fullK_length] at hxl
  have HLs : Hid ((xorK (fullK key) 92 ++ d).length ≤ 1000000) := by show _ ≤ _; rw [List.length_append, hxl, hd]; omega
  have HW := Lib.hid (key_with hin3 92 v3 d hu3)
  have HSm : Hid (∀ v2 w2, Own w2 w3.heap.size 5 v2 ((xorK (fullK key) 92).map V8 ++ d.map V8) → Below w3.heap.size w3 w2 → Calls Tryd.prog 23 #[v2, .slice (some ⟨rb, 0, none⟩) 8 rc, .slice (some ⟨cb, 0, none⟩) 64 cc] w2 fun e w4 => ∃ v4, e = .returned v4 ∧ Hid (Own w4 w3.heap.size 5 v4 ((dg (xorK (fullK key) 92 ++ d)).map V8)) ∧ KeyCells g rb rc cb cc w4 ∧ Hid (Below w3.heap.size w3 w4)) :=
    fun v2 w2 ho hb => key_summed hin3 (xorK (fullK key) 92 ++ d) HLs.out v2 w2 (by rw [List.map_append]; exact ho) hb
  have H1 := Lib.hid (oneC8 d)
  have HL : Hid (((xorK (fullK key) 92).map V8).length + (d.map V8).length ≤ 100000000) := by show _ ≤ _; rw [List.length_map, List.length_map, hxl, hd]; omega
  have hS0 : w3.drew.cell? ⟨g, 1, none⟩ = some (.slice (some ⟨rb, 0, none⟩) 8 rc) ∧ w3.drew.cell? ⟨g, 2, none⟩ = some (.slice (some ⟨cb, 0, none⟩) 64 cc) := hin3.2.2.1
  clear hin3 hu3 hxl hd HLs
  go_wp2
  go_region_held3 (fun W => W.cell? ⟨g, 1, none⟩ = some (.slice (some ⟨rb, 0, none⟩) 8 rc) ∧ W.cell? ⟨g, 2, none⟩ = some (.slice (some ⟨cb, 0, none⟩) 64 cc)) (first | exact hS0 | exact hS4 | exact hS5 | exact hS6)
    (first
      | (go_at_call 75; refine HW.out.mono ?_; rintro e w4 ⟨v4, rfl, HO4, HF4, hS4, HB4⟩)
      | (refine step_app rfl (.tmp 20) (.tmp 21) 22 rfl w3.heap.size 5 Tryd.underlying22 info8 rfl (by decide) _ ((xorK (fullK key) 92).map V8) rfl HO4.out _ (d.map V8) rfl HF4.out H1.out HL.out HB4.out.size ?_; intro v5 w5 hown5 hg5 _; have hS5 := KeyCells.app hS4 hg3 HO4.out HB4.out.size hg5; have HB5 := Lib.hid (below_app HB4.out HO4.out hg5 (Nat.le_refl _) HB4.out.size); have HO5 := Lib.hid hown5; clear hown5 hg5)
      | (go_at_call 23; refine (HSm.out _ _ HO5.out HB5.out).mono ?_; rintro e w6 ⟨v6, rfl, HO6, hS6, HB6⟩))
  clear HW HSm H1 HL hS0 hS4 hS5 hS6 HO4 HF4 HB4 HO5 HB5
  go_wp2
  go_ret
  exact ⟨_, rfl, by rw [HM.out]; exact Own.base HO6.out HB3.out.size, HB3.out.trans (HB6.out.mono HB3.out.size)⟩
end Go.Proofs.YtepbnimheedodaaDoor.Hm
end
