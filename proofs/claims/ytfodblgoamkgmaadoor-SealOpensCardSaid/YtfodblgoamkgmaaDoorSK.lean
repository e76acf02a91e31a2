/-
  THE WALK of the reference's Derive.
-/
import Derived.Test.YtfodblgoamkgmaaDoorSJ
namespace Go.Proofs.YtfodblgoamkgmaaDoor
open Go.RowKit Aes Ctr Sl

theorem Arg.first {w : World} {b o c n : Nat} {bs : List UInt8} (h : Arg w (.slice (some ⟨b, o, none⟩) n c) bs) (m : Nat) (hm : m ≤ n) (hl : bs.length = n) (hp : 0 < n) : Arg w (.slice (some ⟨b, o, none⟩) m c) (bs.take m) := by
  rcases h with ⟨A, e, hn⟩ | ⟨b', o', c', e, hb, hc, hs⟩
  · rw [hn] at hl; simp at hl; omega
  · injection e with e1 e2 e3
    injection e1 with e1
    injection e1 with e1 e4 _
    subst e1 e3 e4
    have hlm : (bs.take m).length = m := by rw [List.length_take]; omega
    refine .inr ⟨b, o, c, by rw [hlm], hb, by rw [hlm]; omega, ?_⟩
    have := hs.piece 0 m
    rwa [List.drop_zero, Nat.add_zero, ← List.map_take] at this
/-- A literal of bytes as the one part. -/
theorem lit1 (w : World) (C : Array Value) (m : List UInt8) (hm : C = (m.map V8).toArray) (n : Nat) (hn : m.length = n) :
    Hm.Parts ((w.alloc (.cells C 5 (n, n + 1))).alloc (.cells #[.slice (some ⟨w.heap.size, 0, none⟩) n n] 22)) (.slice (some ⟨w.heap.size + 1, 0, none⟩) 1 1) [m] := by
  have h : Arg (w.alloc (.cells C 5 (n, n + 1))) (.slice (some ⟨w.heap.size, 0, none⟩) n n) m := by
    refine .inr ⟨w.heap.size, 0, n, by rw [hn], by simp, by omega, fun j u hu => ?_⟩
    rw [Nat.zero_add]
    refine (Joins.cell_alloc_mark_at w _ _ _ _ j rfl).trans ?_
    rw [hm, List.getElem?_toArray]
    exact hu
  have hp := parts1 h
  rwa [show (w.alloc (.cells C 5 (n, n + 1))).heap.size = w.heap.size + 1 by simp] at hp
theorem lit1_below (w : World) (o1 o2 : Obj) : Below w.heap.size w ((w.alloc o1).alloc o2) := Joins.below_alloc2 w o1 o2

set_option maxRecDepth 100000 in
set_option maxHeartbeats 1000000 in
theorem RSDerive_any (s : List UInt8) (hs : s.length ≤ 1000000) (x : Value) (w : World) (h : Arg w x s) :
    Calls Tryd.prog 8 #[x] w fun e w' => ∃ p, e = .returned (.pointer (some ⟨p, 0, none⟩)) ∧ Hid (MKeyAt w' p (encK s) (macK s)) ∧ Below w.heap.size w w' := by
  obtain ⟨A, cap, rfl⟩ := h.form
  obtain ⟨n, hnl⟩ : ∃ n, n = s.length := ⟨_, rfl⟩
  rw [← hnl] at h ⊢
  have HSl := Lib.hid hs
  have HA := Lib.hid h
  clear h hs hnl
  go_enter Tryd.func8, Tryd.ntmps8
  go_wp2_with fail
  refine (Hm.New_any _ s HSl.out w HA.out).mono ?_
  rintro e w1 ⟨pm, rfl, hk1, hb1⟩
  obtain ⟨g, rb, rc, cb, cc, rfl, hin⟩ := hk1.named
  have HK1 := Lib.hid hk1
  have HB1 := Lib.hid hb1
  clear hin hk1 hb1 HA
  have hc1 := Joins.run_convert_bytes_const_at (P := Tryd.prog) w1 22 5 #[.int .u8 101, .int .u8 110, .int .u8 99] 3 3 w1.heap.size rfl Tryd.underlying22 Tryd.underlying5
  go_wp2_with fail
  refine (Hm.Joined_any _ _ _ [encW] smallE _ (lit1 w1 _ encW rfl 3 rfl)).mono ?_
  rintro e w2 ⟨jv, rfl, hown2, hb2⟩
  have hb12 := (lit1_below w1 (.cells #[.int .u8 101, .int .u8 110, .int .u8 99] 5 (3, 4)) (.cells #[.slice (some ⟨w1.heap.size, 0, none⟩) 3 3] 22)).trans (hb2.mono (by simp; omega))
  have HK2 := Lib.hid (HK1.out.below hb12)
  have HB2 := Lib.hid (HB1.out.trans (hb12.mono HB1.out.size))
  have HJ2 := Lib.hid (hm_arg.1 (Hm.Own.arg hown2))
  clear hc1 hown2 hb2 hb12 HK1 HB1
  go_wp2_with fail
  refine (Hm.KSum_any _ s _ (Hm.joined [encW]) (by decide) w2 HK2.out HJ2.out).mono ?_
  rintro e w3 ⟨sv, rfl, hown3, hb3⟩
  obtain ⟨g3, c3, rfl, hg3, hl3, hc3, hs3⟩ := Hm.Own.form_cap hown3 (by rw [List.length_map, Hm.mac_length]; omega)
  rw [List.length_map, Hm.mac_length] at hc3 ⊢
  have HE3 : Hid (Arg w3 (.slice (some ⟨g3, 0, none⟩) 32 c3) (Hm.mac s (Hm.joined [encW]))) := by
    have := Hm.Own.arg hown3
    rw [List.length_map, Hm.mac_length] at this
    exact this
  have HK3 := Lib.hid (HK2.out.below hb3)
  have HB3 := Lib.hid (HB2.out.trans (hb3.mono HB2.out.size))
  have HE4 : Hid (Arg w3 (.slice (some ⟨g3, 0, none⟩) 16 c3) (encK s)) := HE3.out.first 16 (by omega) (Hm.mac_length _ _) (by omega)
  clear hown3 hs3 hb3 HE3 HK2 HB2 HJ2
  have hc1 := Joins.run_convert_bytes_const_at (P := Tryd.prog) w3 22 5 #[.int .u8 109, .int .u8 97, .int .u8 99] 3 3 w3.heap.size rfl Tryd.underlying22 Tryd.underlying5
  go_wp2_with fail
  refine (Hm.Joined_any _ _ _ [macW] smallM _ (lit1 w3 _ macW rfl 3 rfl)).mono ?_
  rintro e w4 ⟨jv2, rfl, hown4, hb4⟩
  have hb34 := (lit1_below w3 (.cells #[.int .u8 109, .int .u8 97, .int .u8 99] 5 (3, 4)) (.cells #[.slice (some ⟨w3.heap.size, 0, none⟩) 3 3] 22)).trans (hb4.mono (by simp; omega))
  have HK4 := Lib.hid (HK3.out.below hb34)
  have HB4 := Lib.hid (HB3.out.trans (hb34.mono HB3.out.size))
  have HJ4 := Lib.hid (hm_arg.1 (Hm.Own.arg hown4))
  have HE5 := Lib.hid (HE4.out.below hb34)
  clear hc1 hown4 hb4 hb34 HK3 HB3 HE4
  go_wp2_with fail
  refine (Hm.KSum_any _ s _ (Hm.joined [macW]) (by decide) w4 HK4.out HJ4.out).mono ?_
  rintro e w5 ⟨sv2, rfl, hown5, hb5⟩
  have HM5 : Hid (Arg w5 sv2 (macK s)) := hm_arg.1 (Hm.Own.arg hown5)
  have HE6 := Lib.hid (HE5.out.below hb5)
  have HB5 := Lib.hid (HB4.out.trans (hb5.mono HB4.out.size))
  clear hown5 hb5 HK4 HB4 HJ4 HE5
  go_wp2_with fail
  refine (RSOf_any (encK s) (macK s) (encK_length s) (by rw [macK_length]; omega) g3 c3 (by omega) _ w5 HE6.out HM5.out).mono ?_
  rintro e w6 ⟨p, rfl, HM, hb6⟩
  go_wp2
  go_ret
  exact ⟨p, rfl, HM, HB5.out.trans (hb6.mono HB5.out.size)⟩
end Go.Proofs.YtfodblgoamkgmaaDoor
