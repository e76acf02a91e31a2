/-
  THE WALK of the reference's New: the full key, and the constants.
-/
import Derived.Test.YtcmledlghipcbaaDoorTF
namespace Go.Proofs.YtcmledlghipcbaaDoor
open Go.RowKit Sha

/-- A key of the reference's: a pointer to the full key, and the constants. -/
def KeyAt (w : World) (p : Value) (key : List UInt8) : Prop :=
  ∃ g kb kc rb rc cb cc, p = .pointer (some ⟨g, 0, none⟩) ∧ g < w.heap.size ∧ Sees w g 0 [.slice (some ⟨kb, 0, none⟩) 64 kc, .slice (some ⟨rb, 0, none⟩) 8 rc, .slice (some ⟨cb, 0, none⟩) 64 cc]
    ∧ kb < w.heap.size ∧ 64 ≤ kc ∧ Sees w kb 0 ((fullK key).map V8) ∧ rb < w.heap.size ∧ Sees w rb 0 (R0.list.map V32) ∧ cb < w.heap.size ∧ Sees w cb 0 (K0.map V32)
theorem KeyAt.below {w w' : World} {p : Value} {key : List UInt8} (h : KeyAt w p key) (hb : Below w.heap.size w w') : KeyAt w' p key := by
  obtain ⟨g, kb, kc, rb, rc, cb, cc, e, h1, h2, h3, h4, h5, h6, h7, h8, h9⟩ := h
  have hs := hb.size
  exact ⟨g, kb, kc, rb, rc, cb, cc, e, by omega, h2.below hb h1, by omega, h4, h5.below hb h3, by omega, h7.below hb h6, by omega, h9.below hb h8⟩
theorem key_new {w : World} {key : List UInt8} {kb kc rb rc cb cc : Nat} (h5 : Sees w kb 0 ((fullK key).map V8)) (h3 : kb < w.heap.size) (h4 : 64 ≤ kc) (h7 : Sees w rb 0 (R0.list.map V32)) (h6 : rb < w.heap.size) (h9 : Sees w cb 0 (K0.map V32)) (h8 : cb < w.heap.size) :
    KeyAt (w.alloc (.cells #[.slice (some ⟨kb, 0, none⟩) 64 kc, .slice (some ⟨rb, 0, none⟩) 8 rc, .slice (some ⟨cb, 0, none⟩) 64 cc] 36)) (.pointer (some ⟨w.heap.size, 0, none⟩)) key := by
  refine ⟨w.heap.size, kb, kc, rb, rc, cb, cc, rfl, by simp, (Row.new w 36 [.slice (some ⟨kb, 0, none⟩) 64 kc, .slice (some ⟨rb, 0, none⟩) 8 rc, .slice (some ⟨cb, 0, none⟩) 64 cc]).sees, by simp; omega, h4, h5.alloc h3 _, by simp; omega, h7.alloc h6 _, by simp; omega, h9.alloc h8 _⟩

theorem pad8_next (j : Nat) (l : List UInt8) (h : l.length ≤ j) : pad8 (j + 1) l = pad8 j l ++ [0] := by
  unfold pad8
  rw [List.append_assoc, show j + 1 - l.length = (j - l.length) + 1 by omega, List.replicate_succ']
/-- How long a slice is. -/
def lenOf : Value → Nat
  | .slice _ n _ => n
  | _ => 0

set_option maxRecDepth 100000 in
set_option maxHeartbeats 400000 in
theorem New_short (A : Option Addr) (n cap : Nat) (key : List UInt8) (hl : key.length = n) (hn : n ≤ 64) (w : World) (h : Arg w (.slice A n cap) key) :
    Calls Tryd.prog 7 #[.slice A n cap] w fun e w' => ∃ p, e = .returned p ∧ KeyAt w' p key ∧ Below w.heap.size w w' := by
  have HA := Lib.hid h
  have HL := Lib.hid hl
  clear h hl
  go_enter Tryd.func7, Tryd.ntmps7
  go_wp2_with fail
  refine (Constants_any w).mono ?_
  rintro e w1 ⟨r, c, rfl, hr, hc, hb1⟩
  obtain ⟨gr, c1, hv1, _, hl1, hs1⟩ := hr.form (by simp [St.list])
  obtain ⟨gc, c2, hv2, _, hl2, hs2⟩ := hc.form (by rw [List.length_map]; exact Nat.lt_of_lt_of_eq (by omega) K0_length.symm)
  rw [List.length_map, show R0.list.length = 8 from rfl] at hv1
  rw [List.length_map, K0_length] at hv2
  rw [hv1, hv2]
  have hsz1 := hb1.size
  have Hs1 := Lib.hid hs1
  have Hs2 := Lib.hid hs2
  clear hv1 hv2 hr hc hs1 hs2
  have HFr : Hid (From (w1.alloc (.cells #[] 5)) (.slice A n cap) (key.map V8)) := (arg_from (HA.out.below hb1)).alloc _
  have HO : Hid (Own (w1.alloc (.cells #[] 5)) w1.heap.size 5 (.slice (some ⟨w1.heap.size, 0, none⟩) 0 0) []) := Own.lit w1 _ _ [] (Nat.le_refl _) (by decide)
  have H1 := Lib.hid (oneC8 key)
  have HLn : Hid (([] : List Value).length + (key.map V8).length ≤ 100000000) := by show _ ≤ _; rw [List.length_map, HL.out]; simp; omega
  go_wp2_with (at_builtin; refine wpList_app rfl (.tmp 10) (.tmp 11) 22 rfl w1.heap.size 5 Tryd.underlying22 info8 rfl (by decide) _ [] rfl HO.out _ (key.map V8) rfl HFr.out H1.out HLn.out (by simp) ?_; intro v2 w2 hown2 hg2 _; rw [List.nil_append] at hown2; obtain ⟨A2, c2', hv2⟩ := hown2.shape; rw [List.length_map, HL.out] at hv2; have hb2 : Below w1.heap.size w1 w2 := by_to_below' hg2; have HO2 := Lib.hid hown2; have HB2 := Lib.hid hb2; rw [hv2] at HO2 ⊢; have hsz2 := hb2.size; clear hown2 hg2 hv2 hb2)

  obtain ⟨k0, hk0⟩ : ∃ k0, k0 = key := ⟨_, rfl⟩
  rw [← hk0] at HO2
  have HK0 : Hid (k0.length ≤ 64) := by rw [hk0, HL.out]; exact hn
  have HF : Hid (fullK key = pad8 64 k0) := by show _ = _; rw [fullK, if_neg (by rw [HL.out]; omega), hk0]
  clear hk0 HFr HO H1 HLn

  go_loopw [5] (fun v wr => ∃ j : Nat, k0.length ≤ j ∧ j ≤ 64 ∧ Own wr w1.heap.size 5 v ((pad8 j k0).map V8) ∧ Below w1.heap.size w1 wr) (fun v _ => 64 - lenOf v)
  case atStart => exact ⟨k0.length, Nat.le_refl _, HK0.out, by rw [pad8_full]; exact HO2.out, HB2.out⟩
  case round =>
    obtain ⟨j, hj0, hj, hown, hbel⟩ := hrel
    have hszr := hbel.size
    obtain ⟨A5, c5, hv5⟩ := hown.shape
    rw [List.length_map, pad8_length _ _ hj0] at hv5
    by_cases hlt : j < 64
    · rw [hv5] at hown ⊢
      have Hown := Lib.hid hown
      have HN := Lib.hid (pad8_next j k0 hj0)
      have HL : Hid (((pad8 j k0).map V8).length + 1 ≤ 100000000) := by show _ ≤ _; rw [List.length_map, pad8_length _ _ hj0]; omega
      clear hown hv5
      go_wp2_with (at_builtin; refine wpList_app rfl (.tmp 23) (.tmp 24) 22 rfl w1.heap.size 5 Tryd.underlying22 info8 rfl (by decide) _ ((pad8 j k0).map V8) rfl (Hown.out.alloc _) _ [.int .u8 0] rfl (from_new wr 5 [.int .u8 0]) (oneC8 [0]) HL.out (by simp; omega) ?_; intro v' w3 hown3 hg3 _)
      obtain ⟨A6, c6, hv6⟩ := hown3.shape
      have Hl6 : Hid (lenOf v' = j + 1) := by
        show _ = _
        rw [hv6, lenOf, List.length_append, List.length_map, pad8_length _ _ hj0]
        rfl
      go_roundw
      case rel =>
        refine ⟨j + 1, by omega, by omega, ?_, ?_⟩
        · rw [HN.out, List.map_append]; exact hown3
        · exact below_app (hbel.alloc hszr _) (Hown.out.alloc _) hg3 (Nat.le_refl _) (by simp; omega)
      case measure => rw [Hl6.out]; simp only [lenOf]; omega
    · obtain rfl : j = 64 := by omega
      have hk5 := hown.form_cap (by rw [List.length_map, pad8_length _ _ hj0]; omega)
      rw [List.length_map, pad8_length _ _ hj0] at hk5
      obtain ⟨g5, cc5, hv, _, hgl, hcap, hsee⟩ := hk5
      rw [hv]
      have HS5 : Hid (Sees wr g5 0 ((fullK key).map V8)) := by rw [HF.out]; exact hsee
      have HSr : Hid (Sees wr gr 0 (R0.list.map V32)) := Hs1.out.below hbel hl1
      have HSc : Hid (Sees wr gc 0 (K0.map V32)) := Hs2.out.below hbel hl2
      have hbw : Below w.heap.size w wr := hb1.trans (hbel.mono hb1.size)
      have HBW : Hid (Below w.heap.size w (wr.alloc (.cells #[.slice (some ⟨g5, 0, none⟩) 64 cc5, .slice (some ⟨gr, 0, none⟩) 8 c1, .slice (some ⟨gc, 0, none⟩) 64 c2] 36))) := hbw.alloc hbw.size _
      clear hown hv hv5 hsee hbel hbw
      go_wp2
      go_ret
      exact ⟨_, rfl, key_new HS5.out hgl hcap HSr.out (by omega) HSc.out (by omega), HBW.out⟩

set_option maxRecDepth 100000 in
set_option maxHeartbeats 400000 in
theorem New_long (A : Option Addr) (n cap : Nat) (key : List UInt8) (hl : key.length = n) (hn : 64 < n ∧ n ≤ 1000000) (w : World) (h : Arg w (.slice A n cap) key) :
    Calls Tryd.prog 7 #[.slice A n cap] w fun e w' => ∃ p, e = .returned p ∧ KeyAt w' p key ∧ Below w.heap.size w w' := by
  have HA := Lib.hid h
  have HL := Lib.hid hl
  clear h hl
  go_enter Tryd.func7, Tryd.ntmps7
  go_wp2_with fail
  refine (Constants_any w).mono ?_
  rintro e w1 ⟨r, c, rfl, hr, hc, hb1⟩
  obtain ⟨gr, c1, hv1, _, hl1, hs1⟩ := hr.form (by simp [St.list])
  obtain ⟨gc, c2, hv2, _, hl2, hs2⟩ := hc.form (by rw [List.length_map]; exact Nat.lt_of_lt_of_eq (by omega) K0_length.symm)
  rw [List.length_map, show R0.list.length = 8 from rfl] at hv1
  rw [List.length_map, K0_length] at hv2
  rw [hv1, hv2]
  have hsz1 := hb1.size
  have Hs1 := Lib.hid hs1
  have Hs2 := Lib.hid hs2
  clear hv1 hv2 hr hc hs1 hs2
  have HFr : Hid (From (w1.alloc (.cells #[] 5)) (.slice A n cap) (key.map V8)) := (arg_from (HA.out.below hb1)).alloc _
  have HO : Hid (Own (w1.alloc (.cells #[] 5)) w1.heap.size 5 (.slice (some ⟨w1.heap.size, 0, none⟩) 0 0) []) := Own.lit w1 _ _ [] (Nat.le_refl _) (by decide)
  have H1 := Lib.hid (oneC8 key)
  have HLn : Hid (([] : List Value).length + (key.map V8).length ≤ 100000000) := by show _ ≤ _; rw [List.length_map, HL.out]; simp; omega
  go_wp2_with (at_builtin; refine wpList_app rfl (.tmp 10) (.tmp 11) 22 rfl w1.heap.size 5 Tryd.underlying22 info8 rfl (by decide) _ [] rfl HO.out _ (key.map V8) rfl HFr.out H1.out HLn.out (by simp) ?_; intro v2 w2 hown2 hg2 _; rw [List.nil_append] at hown2; obtain ⟨A2, c2', hv2⟩ := hown2.shape; rw [List.length_map, HL.out] at hv2; have hb2 : Below w1.heap.size w1 w2 := by_to_below' hg2; have HO2 := Lib.hid hown2; have HB2 := Lib.hid hb2; rw [hv2] at HO2 ⊢; have hsz2 := hb2.size; clear hown2 hg2 hv2 hb2)

  have HF2 : Hid (From w2 (.slice A2 n c2') (key.map V8)) := Own.from_ HO2.out
  refine (Summed_gen A2 n c2' key HL.out (by omega) gr 0 c1 R0 gc 0 c2 K0 K0_length w2 HF2.out (by omega) (Hs1.out.below HB2.out hl1) (by omega) (Hs2.out.below HB2.out hl2)).mono ?_
  rintro e w3 ⟨v3, rfl, hown3, hb3⟩
  obtain ⟨k0, hk0⟩ : ∃ k0, k0 = dg key := ⟨_, rfl⟩
  have HO3 : Hid (Own w3 w1.heap.size 5 v3 (k0.map V8)) := by rw [hk0]; exact Own.base hown3 hsz2
  have HB3 : Hid (Below w1.heap.size w1 w3) := HB2.out.trans (hb3.mono hsz2)
  clear HO2 HB2 hown3 hb3
  have HO2 := HO3
  have HB2 := HB3
  clear HO3 HB3
  have HK0 : Hid (k0.length ≤ 64) := by rw [hk0, dg_length]; show _ ≤ _; omega
  have HF : Hid (fullK key = pad8 64 k0) := by show _ = _; rw [fullK, if_pos (by rw [HL.out]; omega), hk0]
  clear hk0 HFr HO H1 HLn HF2
  go_wp2

  go_loopw [5] (fun v wr => ∃ j : Nat, k0.length ≤ j ∧ j ≤ 64 ∧ Own wr w1.heap.size 5 v ((pad8 j k0).map V8) ∧ Below w1.heap.size w1 wr) (fun v _ => 64 - lenOf v)
  case atStart => exact ⟨k0.length, Nat.le_refl _, HK0.out, by rw [pad8_full]; exact HO2.out, HB2.out⟩
  case round =>
    obtain ⟨j, hj0, hj, hown, hbel⟩ := hrel
    have hszr := hbel.size
    obtain ⟨A5, c5, hv5⟩ := hown.shape
    rw [List.length_map, pad8_length _ _ hj0] at hv5
    by_cases hlt : j < 64
    · rw [hv5] at hown ⊢
      have Hown := Lib.hid hown
      have HN := Lib.hid (pad8_next j k0 hj0)
      have HL : Hid (((pad8 j k0).map V8).length + 1 ≤ 100000000) := by show _ ≤ _; rw [List.length_map, pad8_length _ _ hj0]; omega
      clear hown hv5
      go_wp2_with (at_builtin; refine wpList_app rfl (.tmp 23) (.tmp 24) 22 rfl w1.heap.size 5 Tryd.underlying22 info8 rfl (by decide) _ ((pad8 j k0).map V8) rfl (Hown.out.alloc _) _ [.int .u8 0] rfl (from_new wr 5 [.int .u8 0]) (oneC8 [0]) HL.out (by simp; omega) ?_; intro v' w3 hown3 hg3 _)
      obtain ⟨A6, c6, hv6⟩ := hown3.shape
      have Hl6 : Hid (lenOf v' = j + 1) := by
        show _ = _
        rw [hv6, lenOf, List.length_append, List.length_map, pad8_length _ _ hj0]
        rfl
      go_roundw
      case rel =>
        refine ⟨j + 1, by omega, by omega, ?_, ?_⟩
        · rw [HN.out, List.map_append]; exact hown3
        · exact below_app (hbel.alloc hszr _) (Hown.out.alloc _) hg3 (Nat.le_refl _) (by simp; omega)
      case measure => rw [Hl6.out]; simp only [lenOf]; omega
    · obtain rfl : j = 64 := by omega
      have hk5 := hown.form_cap (by rw [List.length_map, pad8_length _ _ hj0]; omega)
      rw [List.length_map, pad8_length _ _ hj0] at hk5
      obtain ⟨g5, cc5, hv, _, hgl, hcap, hsee⟩ := hk5
      rw [hv]
      have HS5 : Hid (Sees wr g5 0 ((fullK key).map V8)) := by rw [HF.out]; exact hsee
      have HSr : Hid (Sees wr gr 0 (R0.list.map V32)) := Hs1.out.below hbel hl1
      have HSc : Hid (Sees wr gc 0 (K0.map V32)) := Hs2.out.below hbel hl2
      have hbw : Below w.heap.size w wr := hb1.trans (hbel.mono hb1.size)
      have HBW : Hid (Below w.heap.size w (wr.alloc (.cells #[.slice (some ⟨g5, 0, none⟩) 64 cc5, .slice (some ⟨gr, 0, none⟩) 8 c1, .slice (some ⟨gc, 0, none⟩) 64 c2] 36))) := hbw.alloc hbw.size _
      clear hown hv hv5 hsee hbel hbw
      go_wp2
      go_ret
      exact ⟨_, rfl, key_new HS5.out hgl hcap HSr.out (by omega) HSc.out (by omega), HBW.out⟩

theorem New_any (v : Value) (key : List UInt8) (hn : key.length ≤ 1000000) (w : World) (h : Arg w v key) :
    Calls Tryd.prog 7 #[v] w fun e w' => ∃ p, e = .returned p ∧ KeyAt w' p key ∧ Below w.heap.size w w' := by
  obtain ⟨A, cap, rfl⟩ := h.form
  rcases Nat.lt_or_ge 64 key.length with hl | hl
  · exact New_long A _ cap key rfl ⟨hl, hn⟩ w h
  · exact New_short A _ cap key rfl hl w h
end Go.Proofs.YtcmledlghipcbaaDoor
