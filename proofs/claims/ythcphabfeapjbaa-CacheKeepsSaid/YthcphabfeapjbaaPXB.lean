/-
  THE WALKS of Get and Put.
-/
import Derived.Test.YthcphabfeapjbaaPXA
namespace Go.Proofs.Ythcphabfeapjbaa
open Go.RowKit Ca

theorem own_formC {W : World} {B : Nat} {e : TypeId} {v : Value} {l : List Value} (h : Own W B e v l) : ∃ A n c, v = .slice A n c := by
  rcases h.2 with ⟨rfl, h0⟩ | ⟨g, cap, cur, rfl, _⟩
  · exact ⟨none, 0, 0, rfl⟩
  · exact ⟨_, _, cap, rfl⟩
section
variable {w w3 : World} {ro : Nat → Nat} {D a ca sh room q : Nat} {ps rs : Nat → Nat} {vs : Nat → Value} {s : St}
/-- An entry gets new bytes, and its flag. -/
theorem CacL.fill (h : CacL w ro D a ca sh room q ps rs vs s) (hb : Below w.heap.size w w3) {v3 : Value} {bs : List UInt8} (hO : Own w3 w.heap.size 5 v3 (bs.map V8)) (hl : bs.length ≤ 1000) {t j : Nat} (ht : t < sh) (hj : j < room) :
    There5 w3 (ps t) (j * 5) ∧ Leaves w ro ((w3.setCell ⟨ps t, j * 5 + 2, none⟩ v3).setCell ⟨ps t, j * 5 + 3, none⟩ (.bool true)) D a ca sh room q ps rs { s with L := s.L.set (t * room + j) { s.L.getD (t * room + j) Ent.free with b := bs, flag := true } } := by
  have h3 := h.below hb
  refine ⟨h3.there5 ht hj, ?_⟩
  obtain ⟨ro', hc, hk, hn⟩ := cont_own hO h.lt
  have h4 := h3.role hk (fun k hk' => (hn k hk').elim (h3.lt k) (·.2))
  have hkl : t * room + j < s.L.length := h.fit.lt ht (by omega)
  obtain ⟨e, he⟩ : ∃ e, e = s.L.getD (t * room + j) Ent.free := ⟨_, rfl⟩
  obtain ⟨g1, g2⟩ := h4.put1 ht hj { e with b := bs } v3 v3 2 (by omega) (by rw [he]; rfl) hc q (Nat.le_refl _) (by rw [he]; exact h4.pq _) hl (by rw [he])
  have hg : (s.L.set (t * room + j) { e with b := bs }).getD (t * room + j) Ent.free = { e with b := bs } := by rw [getD_set _ _ _ _ hkl, if_pos rfl]
  have hcn := g1.cnt (t * room + j)
  rw [show (if t * room + j = t * room + j then v3 else vs (t * room + j)) = v3 from if_pos rfl] at hcn
  obtain ⟨g3, g4⟩ := g1.put1 ht hj { e with b := bs, flag := true } v3 (.bool true) 3 (by omega) (by
      show _ = (cellsE ((s.L.set (t * room + j) { e with b := bs }).getD (t * room + j) Ent.free) (if t * room + j = t * room + j then v3 else vs (t * room + j))).set 3 _
      rw [hg, if_pos rfl]; rfl) (by
      have := hcn
      rw [show (({ s with L := s.L.set (t * room + j) { e with b := bs } } : St).L.getD (t * room + j) Ent.free) = { e with b := bs } from hg] at this
      exact this) q (Nat.le_refl _) (by rw [he]; exact h4.pq _) hl (by
      show e.block = ((s.L.set (t * room + j) { e with b := bs }).getD (t * room + j) Ent.free).block
      rw [hg])
  have hst : ({ s with L := s.L.set (t * room + j) { s.L.getD (t * room + j) Ent.free with b := bs, flag := true } } : St) = { s with L := (s.L.set (t * room + j) { e with b := bs }).set (t * room + j) { e with b := bs, flag := true } } := by rw [List.set_set, he]
  rw [hst]
  refine ⟨ro', _, g3, hk, fun k hk' => (hn k hk').imp id (·.1), (Chg.below hb _).trans (g2.then g4) fun b o hbl hx => (hn b hx).elim id (fun h9 => by omega)⟩
end

set_option maxRecDepth 100000 in
set_option maxHeartbeats 2000000 in
theorem CGet_any {w0 : World} {F : Nat → Prop} {D sh room q : Nat} {s : St} (h : Lies w0 F D sh room q s) (hq : q ≤ 1000000) (i : Int) : Calls Try.prog 11 #[.pointer (some ⟨D, 0, none⟩), .int .i64 i] w0 fun e w' =>
    ∃ v F', e = .returned (.tuple #[v, .bool (getC s i).2.2]) ∧ Own w' w0.heap.size 5 v ((getC s i).2.1.map V8) ∧ (∀ k, v.ownBlock = some k → ¬ F' k) ∧ Lies w' F' D sh room (q + 1) (getC s i).1 ∧ (∀ k, F' k → F k ∨ w0.heap.size ≤ k) ∧ Chg (fun k _ => F k) w0 w' := by
  obtain ⟨ro, a, ca, ps, rs, vs, hF, hR⟩ := h
  have hgq := hR.gq
  have c1 := hR.c1
  have f1 := hR.head.headFree (j := 1) (by simp)
  obtain ⟨g, hg⟩ : ∃ g, g = s.gets := ⟨_, rfl⟩
  obtain ⟨hR1, hC1⟩ := hR.putHead 1 (g + 1) s.hits (.int .i64 ((g : Int) + 1)) (.inl rfl) rfl (q + 1) (Nat.le_succ _) ⟨by omega, by omega⟩
  obtain ⟨w1, hw1⟩ : ∃ w1, w1 = w0.setCell ⟨D, 1, none⟩ (.int .i64 ((g : Int) + 1)) := ⟨_, rfl⟩
  rw [← hw1] at hR1 hC1
  rw [← hg] at c1 hgq
  have hgl : g ≤ 1000000 := by omega
  obtain ⟨p, r, hr, HS, HFd, -, -⟩ := Cat_any hR1 i
  have hlt : Hid (∀ k, F k → k < w0.heap.size) := fun k hk => hR.lt k ((hF k).1 hk)
  have HR1 := Lib.hid hR1
  have HC1 := Lib.hid hC1
  have HW1 := Lib.hid hw1
  have HFF := Lib.hid hF
  have HG := Lib.hid hg
  have HGQ := Lib.hid hgq
  clear hR hF hR1 hC1 hw1 hg hgq
  change (r = none ∧ find s.L i = none) ∨ ∃ t j, t < sh ∧ j < room ∧ r = some ⟨ps t, j * 5, none⟩ ∧ find s.L i = some (t * room + j) at hr
  rcases hr with ⟨rfl, hf⟩ | ⟨t, j, ht, hj, rfl, hf⟩
  · have HP : Hid (getC s i = ({ s with gets := g + 1 }, [], false)) := by show _ = _; unfold getC; rw [hf, HG.out]
    clear hf
    go_enter Try.func11, Try.ntmps11
    go_wp2_with (first
      | (rw [← HW1.out]; refine (HS.out _ (Below.refl _ _)).mono ?_; rintro e w2 ⟨rfl, hb1⟩; have HB1 := Lib.hid hb1; have HF1 := Lib.hid (HFd.out w2 hb1); clear hb1 HS HFd HW1)
      | (refine HF1.out.mono ?_; rintro e w3 ⟨rfl, hb2⟩; have HB2 := Lib.hid (HB1.out.trans (hb2.mono HB1.out.size)); clear hb2 HF1))
    go_ret2
    rw [HP.out]
    refine ⟨_, F, rfl, Own.nil _ _ _, (fun k e => by cases e), ⟨ro, a, ca, ps, rs, vs, HFF.out, HR1.out.below HB2.out⟩, fun k hk => .inl hk, (HC1.out.then (Chg.below HB2.out _)).mono fun k o _ hk => (HFF.out k).2 hk⟩
  · obtain ⟨m, hm⟩ : ∃ m, m = s.hits := ⟨_, rfl⟩
    obtain ⟨e, he⟩ : ∃ e, e = s.L.getD (t * room + j) Ent.free := ⟨_, rfl⟩
    obtain ⟨A, n, c, hcv⟩ : ∃ A n c, vs (t * room + j) = .slice A n c := by
      rcases HR1.out.cnt (t * room + j) with ⟨e, _⟩ | ⟨b, cap, e, _⟩
      · exact ⟨_, _, _, e⟩
      · exact ⟨_, _, _, e⟩
    have HP : Hid (getC s i = ({ s with L := s.L.set (t * room + j) { e with flag := true }, gets := g + 1, hits := m + 1 }, e.b, true)) := by show _ = _; unfold getC; rw [hf, HG.out, hm, he]
    have hml : m ≤ 1000000 := by have := HGQ.out; omega
    obtain ⟨pt, hpt⟩ : ∃ pt, pt = ps t := ⟨_, rfl⟩
    have hDp : D ≠ pt := ne_role (ro := ro) (by rw [hpt, HR1.out.rD, HR1.out.rp t ht]; omega)
    have hbl : e.b.length ≤ 1000 := by rw [he]; exact (HR1.out.big _).1
    have HBL := Lib.hid hbl
    have HC : Hid (∀ w2, Below w1.heap.size w1 w2 → w2.cell? ⟨D, 2, none⟩ = some (.int .i64 (m : Int)) ∧ w2.frozen? ⟨D, 2, none⟩ = false ∧ There5 w2 pt (j * 5) ∧ w2.cell? ⟨pt, j * 5 + 2, none⟩ = some (.slice A n c)
        ∧ CacL ((w2.setCell ⟨D, 2, none⟩ (.int .i64 ((m : Int) + 1))).setCell ⟨pt, j * 5 + 3, none⟩ (.bool true)) ro D a ca sh room (q + 1) ps rs vs (getC s i).1 ∧ Chg (fun k _ => ro k ≠ 0) w0 ((w2.setCell ⟨D, 2, none⟩ (.int .i64 ((m : Int) + 1))).setCell ⟨pt, j * 5 + 3, none⟩ (.bool true))
        ∧ Arg ((w2.setCell ⟨D, 2, none⟩ (.int .i64 ((m : Int) + 1))).setCell ⟨pt, j * 5 + 3, none⟩ (.bool true)) (.slice A n c) e.b) := fun w2 hb => by
      have hR2 := HR1.out.below hb
      have hc2 := hR2.c2
      obtain ⟨g1, g2⟩ := hR2.putHead 2 (g + 1) (m + 1) (.int .i64 ((m : Int) + 1)) (.inr rfl) rfl (q + 1) (Nat.le_refl _) ⟨by have := HGQ.out; omega, by have := HGQ.out; omega⟩
      obtain ⟨g3, g4⟩ := g1.put1 ht hj { e with flag := true } (vs (t * room + j)) (.bool true) 3 (by omega) (by rw [he]; rfl) (by rw [he]; exact g1.cnt (t * room + j)) (q + 1) (Nat.le_refl _) (by rw [he]; exact g1.pq (t * room + j)) (by rw [he]; exact (g1.big (t * room + j)).1) (by rw [he])
      have hvs : (fun k => if k = t * room + j then vs (t * room + j) else vs k) = vs := by
        funext k
        split
        · rename_i h; rw [h]
        · rfl
      rw [hvs, ← hpt] at g3
      rw [← hpt] at g4
      have hcc : w2.cell? ⟨pt, j * 5 + 2, none⟩ = some (.slice A n c) := by rw [hpt, ← hcv]; exact hR2.ent ht hj 2 _ rfl
      have hct := g3.cnt (t * room + j)
      rw [hcv, show (({ s with L := s.L.set (t * room + j) { e with flag := true }, gets := g + 1, hits := m + 1 } : St).L.getD (t * room + j) Ent.free) = { e with flag := true } from by
        show (s.L.set (t * room + j) { e with flag := true }).getD (t * room + j) Ent.free = _
        rw [getD_set _ _ _ _ (hR2.fit.lt ht (by omega)), if_pos rfl]] at hct
      refine ⟨by rw [hm]; exact hc2, hR2.head.headFree (j := 2) (by simp), by rw [hpt]; exact hR2.there5 ht hj, hcc, ?_, (HC1.out.then (Chg.below hb _)).then (g2.then g4), hct.arg⟩
      rw [HP.out]
      exact g3
    have Hpt := Lib.hid hpt
    rw [← hpt] at HFd
    clear hf hm he hcv hpt hbl
    go_enter Try.func11, Try.ntmps11
    go_wp2_with (first
      | (rw [← HW1.out]; refine (HS.out _ (Below.refl _ _)).mono ?_; rintro e9 w2 ⟨rfl, hb1⟩; have HB1 := Lib.hid hb1; have HF1 := Lib.hid (HFd.out w2 hb1); clear hb1 HS HFd HW1)
      | (refine HF1.out.mono ?_; rintro e9 w3 ⟨rfl, hb2⟩; obtain ⟨d2, d3, ⟨⟨v0, v1, v2, v3, v4, c0, c1, c2, c3, c4⟩, f0, f1, f2, f3, f4⟩, d4, hL, hCC, hAA⟩ := HC.out w3 (HB1.out.trans (hb2.mono HB1.out.size)); rw [d4] at c2; injection c2 with c2; subst c2; have c2 := d4; clear d4; have HL := Lib.hid hL; have HCC := Lib.hid hCC; have HAA := Lib.hid hAA; clear hb2 HF1 HC hL hCC hAA)
      | (refine (Cclone_any _ e.b _ HBL.out HAA.out).mono ?_; rintro e9 w4 ⟨vc, rfl, HO, hb4⟩; have HB4 := Lib.hid hb4; clear hb4))
    go_ret2
    rw [HP.out] at HL ⊢
    refine ⟨_, F, rfl, HO.out.base (HCC.out.size), fun k e hk => ?_, ⟨ro, a, ca, ps, rs, vs, HFF.out, HL.out.below HB4.out⟩, fun k hk => .inl hk, (HCC.out.then (Chg.below HB4.out _)).mono fun k o _ hk => (HFF.out k).2 hk⟩
    have h1 := (HO.out.lt e).1
    have h2 := hlt.out k hk
    have h3 := HCC.out.size
    omega
end Go.Proofs.Ythcphabfeapjbaa
