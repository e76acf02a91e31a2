/-
  THE REFERENCE'S TREE: how it lies in memory; THE WALK of its Stale.
-/
import Derived.Test.YtepbnimheedodaaDoorNA
import Derived.Test.YtepbnimheedodaaDoorDA
namespace Go.Proofs.YtepbnimheedodaaDoor
open Go.RowKit Mk Mt

theorem iO9 (x : Int) : intOf (.int .i64 x) = x := rfl
abbrev VB (b : Bool) : Value := .bool b
/-- The reference's tree: its head at M, its rows at a and b. -/
structure RefT (w : World) (G : Nat → Prop) (M a b ca cb : Nat) (L : List Tg) (S : List Bool) (W : Nat) : Prop where
  head : Here w M 0 [.slice (some ⟨a, 0, none⟩) L.length ca, .slice (some ⟨b, 0, none⟩) L.length cb, .int .i64 (W : Int)]
  tags : Here w a 0 (L.map VS)
  sets : Here w b 0 (S.map VB)
  len : S.length = L.length
  t32 : ∀ t ∈ L, t.length = 32
  Ma : M ≠ a
  Mb : M ≠ b
  ab : a ≠ b
  gM : G M
  ga : G a
  gb : G b
  lt : ∀ k, G k → k < w.heap.size
  few : L.length ≤ 512
  pos : 0 < L.length
def RefAt (w : World) (G : Nat → Prop) (M : Nat) (L : List Tg) (S : List Bool) (W : Nat) : Prop := ∃ a b ca cb, RefT w G M a b ca cb L S W
section
variable {w w' : World} {G : Nat → Prop} {M a b ca cb : Nat} {L : List Tg} {S : List Bool} {W : Nat}
theorem RefT.stay {X : Nat → Nat → Prop} (h : RefT w G M a b ca cb L S W) (hc : Chg X w w') (hX : ∀ k o, G k → ¬ X k o) : RefT w' G M a b ca cb L S W :=
  ⟨h.head.chg hc fun _ _ => hX _ _ h.gM, h.tags.chg hc fun _ _ => hX _ _ h.ga, h.sets.chg hc fun _ _ => hX _ _ h.gb, h.len, h.t32, h.Ma, h.Mb, h.ab, h.gM, h.ga, h.gb, fun k hk => Nat.lt_of_lt_of_le (h.lt k hk) hc.size, h.few, h.pos⟩
theorem RefAt.stay {X : Nat → Nat → Prop} (h : RefAt w G M L S W) (hc : Chg X w w') (hX : ∀ k o, G k → ¬ X k o) : RefAt w' G M L S W := by
  obtain ⟨a, b, ca, cb, h⟩ := h
  exact ⟨a, b, ca, cb, h.stay hc hX⟩
theorem RefAt.below (h : RefAt w G M L S W) (hc : Below w.heap.size w w') : RefAt w' G M L S W := h.stay (Chg.below hc fun _ _ => False) fun _ _ _ x => x
end

theorem infoB : (Tryd.prog.info? 4).map (fun i => (i.zero, i.size, i.bytes)) = some (some (.bool false), 1, 1) := by kernel_rfl
theorem madeB (n : Nat) (hn : n ≤ 1000000) (W : World) : (Instr.makeSlice 39 (.int .i64 (n : Int)) (.int .i64 (n : Int))).run Tryd.prog W = .ok (.slice (some ⟨W.heap.size, 0, none⟩) n n) (W.alloc (.cells ((List.replicate n false).map VB).toArray 4)) := by
  have h := run_make_row' (P := Tryd.prog) 39 4 (.bool false) 1 Tryd.underlying39 infoB rfl .i64 .i64 n (by omega) (by omega) W
  rw [show madeCells #[Value.bool false] n = ((List.replicate n false).map VB).toArray from by
    unfold madeCells
    apply Array.ext
    · simp
    · intro i h1 h2
      simp [Nat.mod_one]] at h
  exact h
theorem cellB {w : World} {g : Nat} {s : List Bool} (h : w.rangeAt g 0 (s.map VB)) (k : Nat) (hk : k < s.length) : w.cell? ⟨g, k, none⟩ = some (.bool (s.getD k false)) := by
  have := h k (VB (s.getD k false)) (by rw [List.getElem?_map, List.getElem?_eq_getElem hk, List.getD_eq_getElem?_getD, List.getElem?_eq_getElem hk]; rfl)
  rwa [Nat.zero_add] at this
theorem rowB {w : World} {g : Nat} {t : TypeId} {s : List Bool} (h : Row w g t (s.map VB)) : w.rangeAt g 0 (s.map VB) := h.sees
theorem setB {s : List Bool} (k : Nat) : (s.map VB).set k (.bool true) = (s.set k true).map VB := by rw [List.map_set]
def upn (s : List Bool) : Nat → List Bool
  | 0 => s
  | i + 1 => upB (upn s i)
theorem st_upn (s : List Bool) (h i : Nat) : st (h + 1) (upn s i) = cnt (upn s (i + 1)) + st h (upn s (i + 1)) := rfl

set_option maxRecDepth 100000 in
set_option maxHeartbeats 1000000 in
theorem RQStale_any {w : World} {G : Nat → Prop} {M : Nat} {L : List Tg} {S : List Bool} {W : Nat} (hR : RefAt w G M L S W) (h : Nat) (hh : IsH L.length h) :
    Calls Tryd.prog 15 #[.pointer (some ⟨M, 0, none⟩)] w fun e w' => e = .returned (.int .i64 ((st h S : Nat) : Int)) ∧ Below w.heap.size w w' := by
  obtain ⟨a, b, ca, cb, hR⟩ := hR
  have c0 := hR.head.head (j := 0) rfl
  have c1 := hR.head.head (j := 1) rfl
  have hbl := hR.lt _ hR.gb
  have HS : Hid (w.rangeAt b 0 (S.map VB)) := hR.sets.1
  have hfew := hR.few
  have hpos := hR.pos
  obtain ⟨n, hn⟩ : ∃ n, n = L.length := ⟨_, rfl⟩
  rw [← hn] at c0 c1 hfew hpos hh
  have HSl : Hid (S.length = n) := by show _ = _; rw [hR.len, ← hn]
  have Hh := Lib.hid hh
  have hmk := madeB
  have HMK := Lib.hid hmk
  clear hR hh hn hmk
  go_enter Tryd.func15, Tryd.ntmps15
  go_wp2_with fail
  refine (RMWhole_any (n : Int) (by omega) w).mono ?_
  rintro e w1 ⟨⟨h2, N, Hh2, h9, _, rfl⟩, hb1⟩
  obtain rfl : h2 = h := Hh2.out.unique Hh.out
  have HB1 := Lib.hid hb1
  have Hst : Hid (st h2 S = 0 + st (h2 - 0) (upn S 0)) := by show _ = _; rw [Nat.zero_add]; rfl
  clear c0 c1 hb1 Hh2
  go_wp2
  go_loopw [3, 4, 7] (fun c r i wr => ∃ (j m C g cap : Nat), j ≤ h2 ∧ i = .int .i64 j ∧ c = .int .i64 C ∧ r = .slice (some ⟨g, 0, none⟩) m cap ∧ 0 < m ∧ m ≤ 512 ∧ C ≤ j * 600 ∧ Hid (st h2 S = C + st (h2 - j) (upn S j)) ∧ Hid ((upn S j).length = m) ∧ Hid (wr.rangeAt g 0 ((upn S j).map VB)) ∧ Hid (g < wr.heap.size) ∧ Hid (Below w.heap.size w wr)) (fun _ _ i _ => h2 - (intOf i).toNat)
  case atStart =>
    exact ⟨0, n, 0, b, cb, by omega, rfl, rfl, rfl, hpos, hfew, by omega, Hst, HSl, fun j v hv => (World.cell?_of_block (w := w) (HB1.out.block b hbl)).trans (HS.out j v hv), Nat.lt_of_lt_of_le hbl HB1.out.size, HB1⟩
  case round =>
    obtain ⟨j, m, C, g, cap, hj, rfl, rfl, rfl, hm0, hm5, hC, HC, Hl, HR, Hg, HB⟩ := hrel
    clear Hst HB1 HS HSl hpos hfew hbl
    by_cases hlt : j < h2
    · obtain ⟨m4, hm4⟩ : ∃ m4, m4 = (m + 3) / 4 := ⟨_, rfl⟩
      have hmk := HMK.out m4 (by omega) wr
      have e4 : ((m : Int) + 3) / 4 = (m4 : Int) := by omega
      obtain ⟨s, hs⟩ : ∃ s, s = upn S j := ⟨_, rfl⟩
      have Hs := Lib.hid hs
      rw [← hs] at Hl HR
      have HR0 : Hid (Row (wr.alloc (.cells ((List.replicate m4 false).map VB).toArray 4)) wr.heap.size 4 ((upF s 0).map VB)) := by
        show Row _ _ _ _
        rw [upF, Hl.out, ← hm4]
        exact Row.new wr 4 _
      have HRr : Hid ((wr.alloc (.cells ((List.replicate m4 false).map VB).toArray 4)).rangeAt g 0 (s.map VB)) := fun i v hv => (World.cell?_of_block (w := wr) (Below.heap_alloc wr _ g Hg.out)).trans (HR.out i v hv)
      have HBa : Hid (Below w.heap.size w (wr.alloc (.cells ((List.replicate m4 false).map VB).toArray 4))) := HB.out.alloc HB.out.size _
      have Hsz : Hid ((wr.alloc (.cells ((List.replicate m4 false).map VB).toArray 4)).heap.size = wr.heap.size + 1) := by show _ = _; simp
      have hlow := HB.out.size
      obtain ⟨g2, hg2⟩ : ∃ g2, g2 = wr.heap.size := ⟨_, rfl⟩
      have Hgg : Hid (g < g2) := by show _ < _; rw [hg2]; exact Hg.out
      have Hlow : Hid (w.heap.size ≤ g2) := by show _ ≤ _; rw [hg2]; exact hlow
      rw [← hg2] at HR0 hmk Hsz
      generalize wr.alloc (.cells ((List.replicate m4 false).map VB).toArray 4) = wa at *
      clear hs hg2 hlow HR Hg HB
      have Hm4 := Lib.hid hm4
      have Hc0 : Hid (cnt (upF s 0) = 0) := by show _ = _; rw [upF]; exact cnt_no _
      clear hm4
      go_wp2
      clear hmk e4
      go_loopw [3, 9] (fun c i wq => ∃ (k E : Nat), k ≤ m ∧ i = .int .i64 k ∧ c = .int .i64 E ∧ E ≤ C + 600 ∧ Hid (E = C + cnt (upF s k)) ∧ Hid (Row wq g2 4 ((upF s k).map VB)) ∧ Hid (wq.rangeAt g 0 (s.map VB)) ∧ Hid (Below w.heap.size w wq)) (fun _ i _ => m - (intOf i).toNat)
      case atStart => exact ⟨0, C, by omega, rfl, rfl, by omega, by show _ = _; rw [Hc0.out]; rfl, HR0, HRr, HBa⟩
      case round =>
        obtain ⟨k, E, hk, rfl, rfl, hE, HE, HQ, HRq, HBq⟩ := hrel
        clear HR0 HRr HBa Hc0
        by_cases hlt2 : k < m
        · have cs := cellB HRq.out k (by rw [Hl.out]; exact hlt2)
          have hk4 : k / 4 < m4 := by have := Hm4.out; omega
          have Hul : Hid ((upF s k).length = m4) := by show _ = _; rw [upF_length, Hl.out]; exact Hm4.out.symm
          have cu := cellB (rowB HQ.out) (k / 4) (by rw [Hul.out]; exact hk4)
          have hst := upF_step s k (by rw [Hl.out]; exact hlt2)
          have hle : cnt (upF s (k + 1)) ≤ 512 := by
            have := cnt_le (upF s (k + 1))
            rw [upF_length, Hl.out] at this; omega
          obtain ⟨q, hq⟩ : ∃ q, q = k / 4 := ⟨_, rfl⟩
          have eq4 : (k : Int) / 4 = (q : Int) := by omega
          have hup : upF s (k + 1) = if s.getD k false then (upF s k).set q true else upF s k := by rw [upF, hq]
          rw [← hq] at cu hst hk4
          have Hup := Lib.hid hup
          have Hst := Lib.hid hst
          have Hle := Lib.hid hle
          have hng : g ≠ g2 := by have := Hgg.out; omega
          clear hup hst hle hq
          cases hs1 : s.getD k false with
          | false =>
            rw [hs1] at cs Hup Hst
            have hn1 : Hid (upF s (k + 1) = upF s k) := Hup.out
            go_wp2
            go_roundw
            case rel =>
              exact ⟨k + 1, E, by omega, by go_num, rfl, hE, by show _ = _; rw [hn1.out]; exact HE.out, by rw [hn1.out]; exact HQ, HRq, HBq⟩
            case measure => rw [iO9, show intOf (.int .i64 (k : Int)) = (k : Int) from rfl]; omega
          | true =>
            rw [hs1] at cs Hup Hst
            cases hu1 : (upF s k).getD q false with
            | true =>
              rw [hu1] at cu Hst
              have hn1 : Hid (upF s (k + 1) = upF s k) := by show _ = _; rw [Hup.out, if_pos rfl, set_same _ _ hu1]
              go_wp2
              go_roundw
              case rel =>
                exact ⟨k + 1, E, by omega, by go_num, rfl, hE, by show _ = _; rw [hn1.out]; exact HE.out, by rw [hn1.out]; exact HQ, HRq, HBq⟩
              case measure => rw [iO9, show intOf (.int .i64 (k : Int)) = (k : Int) from rfl]; omega
            | false =>
              rw [hu1] at cu Hst
              have hn1 : Hid (upF s (k + 1) = (upF s k).set q true) := by show _ = _; rw [Hup.out, if_pos rfl]
              have HE2 : Hid (E + 1 = C + cnt (upF s (k + 1))) := by
                show _ = _
                have h1 : cnt (upF s (k + 1)) = cnt (upF s k) + 1 := Hst.out
                have := HE.out; omega
              have fr := HQ.out.free q
              have HQn : Hid (Row (wr.setCell ⟨g2, q, none⟩ (.bool true)) g2 4 ((upF s (k + 1)).map VB)) := by
                have := HQ.out.set q (.bool true)
                rwa [setB, ← hn1.out] at this
              have HRn : Hid ((wr.setCell ⟨g2, q, none⟩ (.bool true)).rangeAt g 0 (s.map VB)) := fun i v hv => by
                rw [World.cell?_setCell_other _ _ _ _ (fun e => by injection e with e1 _; exact hng e1.symm)]
                exact HRq.out i v hv
              have HBn : Hid (Below w.heap.size w (wr.setCell ⟨g2, q, none⟩ (.bool true))) := HBq.out.setCell (p := ⟨g2, q, none⟩) Hlow.out _
              have hE2 : E + 1 ≤ C + 600 := by have := HE2.out; have := Hle.out; omega
              go_wp2
              go_roundw
              case rel => exact ⟨k + 1, E + 1, by omega, by go_num, by go_num, hE2, HE2, HQn, HRn, HBn⟩
              case measure => rw [iO9, show intOf (.int .i64 (k : Int)) = (k : Int) from rfl]; omega
        · obtain rfl : k = m := by omega
          have Hall : Hid (upF s k = upn S (j + 1)) := by show _ = _; rw [← Hl.out, upF_all, Hs.out]; rfl
          rw [Hall.out] at HE HQ
          have HC2 : Hid (st h2 S = E + st (h2 - (j + 1)) (upn S (j + 1))) := by
            show _ = _
            have h1 := HC.out
            rw [show h2 - j = (h2 - (j + 1)) + 1 by omega, st_upn] at h1
            have := HE.out; omega
          have Hl2 : Hid ((upn S (j + 1)).length = m4) := by show _ = _; rw [← Hall.out, upF_length, Hl.out]; exact Hm4.out.symm
          have hm0' : 0 < m4 := by have := Hm4.out; omega
          have hm5' : m4 ≤ 512 := by have := Hm4.out; omega
          have hE6 : E ≤ (j + 1) * 600 := by rw [Nat.succ_mul]; omega
          go_wp2
          go_roundw
          case rel => exact ⟨j + 1, m4, E, g2, m4, by omega, by go_num, rfl, rfl, hm0', hm5', hE6, HC2, Hl2, HQ.out.sees, HQ.out.lt, HBq⟩
          case measure => rw [iO9, show intOf (.int .i64 (j : Int)) = (j : Int) from rfl]; omega
    · obtain rfl : j = h2 := by omega
      have HF : Hid (C = st j S) := by
        show _ = _
        have h1 := HC.out
        rw [Nat.sub_self] at h1
        exact h1.symm
      go_wp2
      go_ret
      rw [← HF.out]
      exact ⟨rfl, HB.out⟩
end Go.Proofs.YtepbnimheedodaaDoor
