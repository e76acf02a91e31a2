/-
  THE WALK of the reference's Check.
-/
import Derived.Test.YtnlbhbacedbdoaaDoorMG
namespace Go.Proofs.YtnlbhbacedbdoaaDoor
open Go.RowKit Mk

theorem str_ne {a b : List UInt8} (h : a ≠ b) : ((strB a).toList == (strB b).toList) = false := by
  rw [ByteArray.toList_eq, ByteArray.toList_eq]
  exact beq_eq_false_iff_ne.2 h
theorem str_eq {a b : List UInt8} (h : a = b) : ((strB a).toList == (strB b).toList) = true := by
  rw [h]; simp
theorem leads_cons (key : Tg) (f : List Tg) (r : List (List Tg)) (p : Nat) (t rt : Tg) (h : f.getD (p % 4) [] = t) : leads key (f :: r) p t rt = leads key r (p / 4) (node key f) rt := by
  rw [leads, h]; simp
theorem leads_no (key : Tg) (f : List Tg) (r : List (List Tg)) (p : Nat) (t rt : Tg) (h : f.getD (p % 4) [] ≠ t) : leads key (f :: r) p t rt = false := by
  rw [leads, decide_eq_false h]; rfl

set_option maxRecDepth 100000 in
set_option maxHeartbeats 2000000 in
theorem RMCheck_any (pm : Value) (key : Tg) (ws : List (List Tg)) (h4 : ∀ f ∈ ws, f.length = 4) (hs : ∀ f ∈ ws, ∀ t ∈ f, t.length ≤ 1000) (hl : ws.length ≤ 100) (d : Int) (leaf rt : Tg) (x : Value) (w : World) (hK : Hm.KeyAt w pm key) (hx : RowsAt w x ws) (hd : d < 2 ^ 63) :
    Calls Tryd.prog 18 #[pm, x, .int .i64 d, .string (strB leaf), .string (strB rt)] w fun e w' => e = .returned (.bool (chk key ws d leaf rt)) ∧ Below w.heap.size w w' := by
  obtain ⟨gm, rb, rc, cb, cc, rfl, hin⟩ := hK.named
  obtain ⟨A, cap, rfl⟩ := hx.form
  obtain ⟨n, hnl⟩ : ∃ n, n = ws.length := ⟨_, rfl⟩
  rw [← hnl] at hl hx ⊢
  have HNl := Lib.hid hnl
  have HK := Lib.hid hK
  have HX := Lib.hid hx
  have H4 := Lib.hid h4
  have HS := Lib.hid hs
  clear hnl hin hK hx h4 hs
  rcases Int.lt_or_le d 0 with hneg | hpos
  · go_enter Tryd.func18, Tryd.ntmps18
    go_wp2
    go_ret
    rw [chk, decide_eq_false (by omega)]
    exact ⟨rfl, Below.refl _ _⟩
  obtain ⟨p, rfl⟩ : ∃ p : Nat, d = (p : Int) := ⟨d.toNat, by omega⟩
  have Hchk : Hid (n ≠ 0 → chk key ws p leaf rt = leads key ws p leaf rt) := fun h0 => by
    have hne : ws ≠ [] := fun e => h0 (by rw [HNl.out, e]; rfl)
    rw [chk, decide_eq_true hpos, decide_eq_true hne, Int.toNat_natCast]; rfl
  rcases Nat.eq_zero_or_pos n with h0 | h0
  · have he : ws = [] := List.eq_nil_of_length_eq_zero (by rw [← HNl.out]; exact h0)
    subst h0
    go_enter Tryd.func18, Tryd.ntmps18
    go_wp2
    go_ret
    rw [he, chk]
    simp
    exact Below.refl _ _
  have HC : Hid (∃ g, A = some ⟨g, 0, none⟩ ∧ g < w.heap.size ∧ ∀ j f, ws[j]? = some f → ∃ b o c, w.cell? ⟨g, j, none⟩ = some (.slice (some ⟨b, o, none⟩) 4 c) ∧ b < w.heap.size ∧ Sees w b o (f.map VS)) := by
    rcases HX.out with ⟨e, _⟩ | ⟨g, cap', e, hg, hr⟩
    · rw [HNl.out, e] at h0; simp at h0
    · injection e with e1 _ _
      refine ⟨g, e1, hg, fun j f hf => ?_⟩
      obtain ⟨b, o, c, hc, _, hb, hse⟩ := hr j f hf
      rw [H4.out f (List.mem_of_getElem? hf)] at hc
      exact ⟨b, o, c, hc, hb, hse⟩
  obtain ⟨g, rfl, hg, hr⟩ := HC.out
  have HR := Lib.hid hr
  have HD := Lib.hid hd
  have H0 := Lib.hid h0
  have hn0 : ((n : Int) == 0) = false := by simp; omega
  have hp0 : decide ((p : Int) < 0) = false := by simp
  clear HC HX hr hd hpos h0
  go_enter Tryd.func18, Tryd.ntmps18
  go_wp2
  go_loopw [2, 3, 11] (fun pl lf i wr => ∃ (k P : Nat) (t : Tg), k ≤ n ∧ i = .int .i64 k ∧ pl = .int .i64 P ∧ P < 2 ^ 63 ∧ lf = .string (strB t) ∧ Hid (leads key ws p leaf rt = leads key (ws.drop k) P t rt) ∧ Hid (Below w.heap.size w wr)) (fun _ _ i _ => n - (intOf i).toNat)
  case atStart => exact ⟨0, p, leaf, by omega, rfl, rfl, by have := HD.out; omega, rfl, by show _ = _; rfl, Below.refl _ _⟩
  case round =>
    obtain ⟨k, P, t, hk, rfl, rfl, hP, rfl, HL, HB⟩ := hrel
    have hsr := HB.out.size
    by_cases hlt : k < n
    · obtain ⟨f, hf⟩ : ∃ f, ws[k]? = some f := ⟨_, List.getElem?_eq_getElem (by rw [← HNl.out]; exact hlt)⟩
      obtain ⟨b, o, c, hc, hb, hse⟩ := HR.out k f hf
      have hf4 := H4.out f (List.mem_of_getElem? hf)
      have Hfs : Hid (∀ u ∈ f, u.length ≤ 1000) := HS.out f (List.mem_of_getElem? hf)
      have Hdr : Hid (ws.drop k = f :: ws.drop (k + 1)) := by
        show _ = _
        have hkl : k < ws.length := by rw [← HNl.out]; exact hlt
        rw [List.drop_eq_getElem_cons hkl]
        have := List.getElem?_eq_getElem hkl
        rw [hf] at this
        injection this with this
        rw [← this]
      have hcr : wr.cell? ⟨g, k, none⟩ = some (.slice (some ⟨b, o, none⟩) 4 c) := (World.cell?_of_block (w := w) (HB.out.block g hg)).trans hc
      have HSe : Hid (Sees wr b o (f.map VS)) := hse.below HB.out hb
      have hbr : b < wr.heap.size := by omega
      have hcx : wr.cell? ⟨b, o + P % 4, none⟩ = some (.string (strB (f.getD (P % 4) []))) := by
        have hlt4 : P % 4 < f.length := by omega
        have h1 := HSe.out (P % 4) (VS (f.getD (P % 4) [])) (by
          rw [List.getElem?_map, List.getElem?_eq_getElem hlt4, List.getD_eq_getElem?_getD, List.getElem?_eq_getElem hlt4]; rfl)
        exact h1
      have HF4 := Lib.hid hf4
      have HKr := Lib.hid (HK.out.below HB.out)
      obtain ⟨u, Hu⟩ : ∃ u, Hid (u = f.getD (P % 4) []) := ⟨_, rfl⟩
      rw [← Hu.out] at hcx
      obtain ⟨q, Hq⟩ : ∃ q, Hid (q = P % 4) := ⟨_, rfl⟩
      rw [← Hq.out] at hcx
      have hq4 : q < 4 := by have := Hq.out; omega
      have eq1 : (P : Int) % 4 = (q : Int) := by have := Hq.out; omega
      clear hc hse hf hf4
      rcases Classical.em (u = t) with hut | hut
      · subst hut
        have HL2 : Hid (leads key ws p leaf rt = leads key (ws.drop (k + 1)) (P / 4) (node key f) rt) := by
          show _ = _
          rw [HL.out, Hdr.out, leads_cons key f _ P u rt (by rw [Hu.out])]
        go_wp2_with fail
        refine (RMNode_any _ key f HF4.out Hfs.out b o c wr hbr HSe.out HKr.out).mono ?_
        rintro e w6 ⟨rfl, hb6⟩
        generalize node key f = T at *
        clear HSe hcx
        go_wp2
        go_roundw
        case rel => exact ⟨k + 1, P / 4, T, by omega, by go_num, by go_num, by omega, rfl, HL2, HB.out.trans (hb6.mono hsr)⟩
        case measure => simp [intOf]; omega
      · have hx := str_ne hut
        have hfin : Hid (chk key ws p leaf rt = false) := by
          show _ = _
          rw [Hchk.out (by have := H0.out; omega), HL.out, Hdr.out, leads_no key f _ P t rt (by rw [← Hu.out]; exact hut)]
        go_wp2
        go_ret
        rw [hfin.out]
        exact ⟨rfl, HB.out⟩
    · obtain rfl : k = n := by omega
      have hfin : Hid (chk key ws p leaf rt = (decide (P = 0) && decide (t = rt))) := by
        show _ = _
        rw [Hchk.out (by have := H0.out; omega), HL.out, List.drop_of_length_le (by rw [← HNl.out]; omega), leads]
      rcases Nat.eq_zero_or_pos P with hP0 | hP0
      · subst hP0
        rcases Classical.em (t = rt) with hut | hut
        · have hx := str_eq hut
          go_wp2
          go_ret
          rw [hfin.out, hut]
          simp
          exact HB.out
        · have hx := str_ne hut
          go_wp2
          go_ret
          rw [hfin.out, decide_eq_false hut]
          simp
          exact HB.out
      · have hPn : ((P : Int) == 0) = false := by simp; omega
        have HP0 := Lib.hid hP0
        clear hP0
        go_wp2
        go_ret
        rw [hfin.out, decide_eq_false (by have := HP0.out; omega)]
        exact ⟨rfl, HB.out⟩
end Go.Proofs.YtnlbhbacedbdoaaDoor
