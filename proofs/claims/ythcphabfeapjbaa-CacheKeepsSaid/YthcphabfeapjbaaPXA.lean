/-
  THE WALKS of the copy of bytes; Pin, Unpin, Drop.
-/
import Derived.Test.YthcphabfeapjbaaPX
namespace Go.Proofs.Ythcphabfeapjbaa
open Go.RowKit Ca

set_option maxRecDepth 100000 in
set_option maxHeartbeats 1000000 in
theorem Cclone_any (v : Value) (bs : List UInt8) (w : World) (hk : bs.length ≤ 1000) (hA : Arg w v bs) : Calls Try.prog 26 #[v] w fun e w' => ∃ v', e = .returned v' ∧ Hid (Own w' w.heap.size 5 v' (bs.map V8)) ∧ Below w.heap.size w w' := by
  obtain ⟨A, cap, rfl⟩ := hA.form
  cases A with
  | none =>
    have hn : bs = [] := by
      rcases hA with ⟨A, _, h⟩ | ⟨b, o, c, h, _⟩
      · exact h
      · injection h with h; cases h
    subst hn
    clear hA
    have he : ∀ W : World, (binOp .eql 30 (.slice none 0 cap) (.slice none 0 0)).run Try.prog W = .ok (.bool true) W := fun _ => rfl
    rw [List.length_nil]
    go_enter Try.func26, Try.ntmps26
    go_wp2
    go_ret
    exact ⟨_, rfl, Own.nil _ _ _, Below.refl _ _⟩
  | some ad =>
    obtain ⟨w1, hw1⟩ : ∃ W, W = w.alloc (.cells #[] 5) := ⟨_, rfl⟩
    have HFr : Hid (From w1 (.slice (some ad) bs.length cap) (bs.map V8)) := by rw [hw1]; exact (arg_from hA).alloc _
    have HO : Hid (Own w1 w.heap.size 5 (.slice (some ⟨w.heap.size, 0, none⟩) 0 0) []) := by rw [hw1]; exact Own.lit w w.heap.size 5 [] (Nat.le_refl _) (Nat.zero_le _)
    have HB : Hid (Below w.heap.size w w1) := by rw [hw1]; exact (Below.refl _ _).alloc (Nat.le_refl _) _
    have HLn : Hid (([] : List Value).length + (bs.map V8).length ≤ 100000000) := by show _ ≤ _; simp; omega
    have H1 := Lib.hid (oneC8 bs)
    have Hsz : Hid (w.heap.size ≤ w1.heap.size) := HB.out.size
    obtain ⟨n, hn⟩ : ∃ n, n = bs.length := ⟨_, rfl⟩
    rw [← hn] at HFr ⊢
    clear hA hk hn
    have he : ∀ W : World, (binOp .eql 30 (.slice (some ad) n cap) (.slice none 0 0)).run Try.prog W = .ok (.bool false) W := fun _ => rfl
    go_enter Try.func26, Try.ntmps26
    go_wp2_with (at_builtin; rw [← hw1]; refine wpList_app rfl (.tmp 5) (.tmp 6) 30 rfl w.heap.size 5 Try.underlying30 info8 rfl (by decide) _ [] rfl HO.out _ (bs.map V8) rfl HFr.out H1.out HLn.out Hsz.out ?_; intro v2 w2 hown2 hg2 _; rw [List.nil_append] at hown2; have HO2 := Lib.hid hown2; have HB2 : Hid (Below w.heap.size w w2) := below_app HB.out HO.out hg2 (Nat.le_refl _) HB.out.size; clear hown2 hg2)
    go_ret
    exact ⟨v2, rfl, HO2.out, HB2.out⟩

section
variable {w : World} {ro : Nat → Nat} {D a ca sh room q : Nat} {ps rs : Nat → Nat} {vs : Nat → Value} {s : St}
/-- The shard of a block, and its entry there. -/
theorem Cat_any (h : CacL w ro D a ca sh room q ps rs vs s) (i : Int) : ∃ (p r : Option Addr), ((r = none ∧ find s.L i = none) ∨ ∃ t j, t < sh ∧ j < room ∧ r = some ⟨ps t, j * 5, none⟩ ∧ find s.L i = some (t * room + j))
    ∧ Hid (∀ W, Below w.heap.size w W → Calls Try.prog 23 #[.pointer (some ⟨D, 0, none⟩), .int .i64 i] W fun e w' => e = .returned (.pointer p) ∧ Below W.heap.size W w')
    ∧ Hid (∀ W, Below w.heap.size w W → Calls Try.prog 24 #[.pointer p, .int .i64 i] W fun e w' => e = .returned (.pointer r) ∧ Below W.heap.size W w')
    ∧ (0 ≤ i → p = some ⟨a, i.toNat % sh * 2, none⟩) ∧ (i < 0 → p = none) := by
  by_cases h0 : i < 0
  · exact ⟨none, none, .inl ⟨rfl, by unfold find; rw [if_neg (by omega)]⟩, fun W hW => Cshard_neg W D i h0, fun W hW => Cfind_nil i W, fun h => by omega, fun _ => rfl⟩
  · have h1 : 0 ≤ i := by omega
    refine ⟨some ⟨a, i.toNat % sh * 2, none⟩, ((find s.L i).map (· - i.toNat % sh * room)).map (fun j => ⟨ps (i.toNat % sh), j * 5, none⟩), ?_, fun W hW => Cshard_pos (h.below hW) i h1, fun W hW => Cfind_any (h.below hW) i h1, fun _ => rfl, fun h => by omega⟩
    cases hf : find s.L i with
    | none => exact .inl ⟨rfl, rfl⟩
    | some k =>
      have hk := fit_find_at h.fit hf
      refine .inr ⟨i.toNat % sh, k - i.toNat % sh * room, Nat.mod_lt _ h.sh1.1, by omega, rfl, ?_⟩
      rw [show i.toNat % sh * room + (k - i.toNat % sh * room) = k by omega]
end

set_option maxRecDepth 100000 in
set_option maxHeartbeats 1000000 in
theorem CPin_any {w0 : World} {F : Nat → Prop} {D sh room q : Nat} {s : St} (h : Lies w0 F D sh room q s) (hq : q ≤ 1000000) (i : Int) : Calls Try.prog 13 #[.pointer (some ⟨D, 0, none⟩), .int .i64 i] w0 fun e w' => e = .returned (.bool (pin s i).2) ∧ AfterC Lies w0 F w' D sh room (q + 1) (pin s i).1 := by
  obtain ⟨ro, a, ca, ps, rs, vs, hF, hR⟩ := h
  obtain ⟨p, r, hr, HS, HFd, -, -⟩ := Cat_any hR i
  have HR := Lib.hid hR
  have HFF := Lib.hid hF
  clear hR hF
  rcases hr with ⟨rfl, hf⟩ | ⟨t, j, ht, hj, rfl, hf⟩
  · have HP : Hid (pin s i = (s, false)) := by show _ = _; unfold pin; rw [hf]
    clear hf
    go_enter Try.func13, Try.ntmps13
    go_wp2_with (first
      | (refine (HS.out _ (Below.refl _ _)).mono ?_; rintro e w1 ⟨rfl, hb1⟩; have HB1 := Lib.hid hb1; have HF1 := Lib.hid (HFd.out w1 hb1); clear hb1 HS HFd)
      | (refine HF1.out.mono ?_; rintro e w2 ⟨rfl, hb2⟩; have HB2 := Lib.hid (HB1.out.trans (hb2.mono HB1.out.size)); clear hb2 HF1))
    go_ret
    rw [HP.out]
    exact ⟨rfl, Leaves.after (Leaves.here (HR.out.below HB2.out) (Chg.below HB2.out _) (Nat.le_succ _)) HFF.out⟩
  · have hpq := HR.out.pq (t * room + j)
    obtain ⟨pn, hpn⟩ : ∃ pn, pn = (s.L.getD (t * room + j) Ent.free).pins := ⟨_, rfl⟩
    have HP : Hid (pin s i = ({ s with L := s.L.set (t * room + j) { s.L.getD (t * room + j) Ent.free with pins := pn + 1 } }, true)) := by show _ = _; unfold pin; rw [hf, hpn]
    have HC : Hid (∀ w1, Below w0.heap.size w0 w1 → w1.cell? ⟨ps t, j * 5 + 4, none⟩ = some (.int .i64 (pn : Int)) ∧ w1.frozen? ⟨ps t, j * 5 + 4, none⟩ = false ∧ Leaves w0 ro (w1.setCell ⟨ps t, j * 5 + 4, none⟩ (.int .i64 ((pn : Int) + 1))) D a ca sh room (q + 1) ps rs (pin s i).1) := fun w1 hb => by
      have hR1 := HR.out.below hb
      obtain ⟨g1, g2⟩ := hR1.put1 ht hj { s.L.getD (t * room + j) Ent.free with pins := pn + 1 } (vs (t * room + j)) (.int .i64 ((pn : Int) + 1)) 4 (by omega) rfl (hR1.cnt _) (q + 1) (Nat.le_succ _) (by show pn + 1 ≤ q + 1; omega) (hR1.big _).1 rfl
      refine ⟨by rw [hpn]; exact hR1.ent ht hj 4 _ rfl, hR1.entFree ht hj 4 (by omega), ?_⟩
      rw [HP.out]
      exact Leaves.here g1 ((Chg.below hb _).then g2) (Nat.le_refl _)
    have hpl : pn ≤ 1000000 := by omega
    clear hf hpn hpq
    go_enter Try.func13, Try.ntmps13
    go_wp2_with (first
      | (refine (HS.out _ (Below.refl _ _)).mono ?_; rintro e w1 ⟨rfl, hb1⟩; have HB1 := Lib.hid hb1; have HF1 := Lib.hid (HFd.out w1 hb1); clear hb1 HS HFd)
      | (refine HF1.out.mono ?_; rintro e w2 ⟨rfl, hb2⟩; obtain ⟨c4, f4, hL⟩ := HC.out w2 (HB1.out.trans (hb2.mono HB1.out.size)); have HL := Lib.hid hL; clear hb2 HF1 hL HC))
    go_ret
    refine ⟨?_, Leaves.after HL.out HFF.out⟩
    rw [HP.out]
    rfl
set_option maxRecDepth 100000 in
set_option maxHeartbeats 1000000 in
theorem CUnpin_any {w0 : World} {F : Nat → Prop} {D sh room q : Nat} {s : St} (h : Lies w0 F D sh room q s) (hq : q ≤ 1000000) (i : Int) : Calls Try.prog 15 #[.pointer (some ⟨D, 0, none⟩), .int .i64 i] w0 fun e w' => e = .returned (.bool (unpin s i).2) ∧ AfterC Lies w0 F w' D sh room q (unpin s i).1 := by
  obtain ⟨ro, a, ca, ps, rs, vs, hF, hR⟩ := h
  obtain ⟨p, r, hr, HS, HFd, -, -⟩ := Cat_any hR i
  have HR := Lib.hid hR
  have HFF := Lib.hid hF
  clear hR hF
  rcases hr with ⟨rfl, hf⟩ | ⟨t, j, ht, hj, rfl, hf⟩
  · have HP : Hid (unpin s i = (s, false)) := by show _ = _; unfold unpin; rw [hf]
    clear hf
    go_enter Try.func15, Try.ntmps15
    go_wp2_with (first
      | (refine (HS.out _ (Below.refl _ _)).mono ?_; rintro e w1 ⟨rfl, hb1⟩; have HB1 := Lib.hid hb1; have HF1 := Lib.hid (HFd.out w1 hb1); clear hb1 HS HFd)
      | (refine HF1.out.mono ?_; rintro e w2 ⟨rfl, hb2⟩; have HB2 := Lib.hid (HB1.out.trans (hb2.mono HB1.out.size)); clear hb2 HF1))
    go_ret
    rw [HP.out]
    exact ⟨rfl, Leaves.after (Leaves.here (HR.out.below HB2.out) (Chg.below HB2.out _) (Nat.le_refl _)) HFF.out⟩
  · have hpq := HR.out.pq (t * room + j)
    obtain ⟨pn, hpn⟩ : ∃ pn, pn = (s.L.getD (t * room + j) Ent.free).pins := ⟨_, rfl⟩
    have hpl : pn ≤ 1000000 := by omega
    have HC4 : Hid (∀ w1, Below w0.heap.size w0 w1 → w1.cell? ⟨ps t, j * 5 + 4, none⟩ = some (.int .i64 (pn : Int)) ∧ w1.frozen? ⟨ps t, j * 5 + 4, none⟩ = false) := fun w1 hb => by
      have hR1 := HR.out.below hb
      exact ⟨by rw [hpn]; exact hR1.ent ht hj 4 _ rfl, hR1.entFree ht hj 4 (by omega)⟩
    cases pn with
    | zero =>
      have HP : Hid (unpin s i = (s, false)) := by show _ = _; unfold unpin; rw [hf]; simp only [← hpn, if_pos]
      clear hf hpn hpq
      go_enter Try.func15, Try.ntmps15
      go_wp2_with (first
        | (refine (HS.out _ (Below.refl _ _)).mono ?_; rintro e w1 ⟨rfl, hb1⟩; have HB1 := Lib.hid hb1; have HF1 := Lib.hid (HFd.out w1 hb1); clear hb1 HS HFd)
        | (refine HF1.out.mono ?_; rintro e w2 ⟨rfl, hb2⟩; have HB2 := Lib.hid (HB1.out.trans (hb2.mono HB1.out.size)); obtain ⟨c4, f4⟩ := HC4.out w2 HB2.out; clear hb2 HF1 HC4))
      go_ret
      rw [HP.out]
      exact ⟨rfl, Leaves.after (Leaves.here (HR.out.below HB2.out) (Chg.below HB2.out _) (Nat.le_refl _)) HFF.out⟩
    | succ m =>
      have HP : Hid (unpin s i = ({ s with L := s.L.set (t * room + j) { s.L.getD (t * room + j) Ent.free with pins := m } }, true)) := by
        show _ = _; unfold unpin; rw [hf]; simp only [← hpn, if_neg (Nat.succ_ne_zero m), Nat.add_sub_cancel]
      have HC : Hid (∀ w1, Below w0.heap.size w0 w1 → Leaves w0 ro (w1.setCell ⟨ps t, j * 5 + 4, none⟩ (.int .i64 (m : Int))) D a ca sh room q ps rs (unpin s i).1) := fun w1 hb => by
        have hR1 := HR.out.below hb
        obtain ⟨g1, g2⟩ := hR1.put1 ht hj { s.L.getD (t * room + j) Ent.free with pins := m } (vs (t * room + j)) (.int .i64 (m : Int)) 4 (by omega) rfl (hR1.cnt _) q (Nat.le_refl _) (by show m ≤ q; omega) (hR1.big _).1 rfl
        rw [HP.out]
        exact Leaves.here g1 ((Chg.below hb _).then g2) (Nat.le_refl _)
      obtain ⟨z, hz⟩ : ∃ z : Int, z = ((m + 1 : Nat) : Int) := ⟨_, rfl⟩
      rw [← hz] at HC4
      have hz0 : ¬ z = 0 := by omega
      have hzm : z - 1 = (m : Int) := by omega
      have hzl : z ≤ 1000000 := by omega
      have hz1 : 1 ≤ z := by omega
      have HZM := Lib.hid hzm
      clear hf hpn hpq hz hzm
      go_enter Try.func15, Try.ntmps15
      go_wp2_with (first
        | (refine (HS.out _ (Below.refl _ _)).mono ?_; rintro e w1 ⟨rfl, hb1⟩; have HB1 := Lib.hid hb1; have HF1 := Lib.hid (HFd.out w1 hb1); clear hb1 HS HFd)
        | (refine HF1.out.mono ?_; rintro e w2 ⟨rfl, hb2⟩; have HB2 := Lib.hid (HB1.out.trans (hb2.mono HB1.out.size)); obtain ⟨c4, f4⟩ := HC4.out w2 HB2.out; have hL := HC.out w2 HB2.out; rw [← HZM.out] at hL; have HL := Lib.hid hL; clear hb2 HF1 hL HC HC4))
      go_ret
      refine ⟨?_, Leaves.after HL.out HFF.out⟩
      rw [HP.out]
      rfl
set_option maxRecDepth 100000 in
set_option maxHeartbeats 1000000 in
theorem CDrop_any {w0 : World} {F : Nat → Prop} {D sh room q : Nat} {s : St} (h : Lies w0 F D sh room q s) (hq : q ≤ 1000000) (i : Int) : Calls Try.prog 16 #[.pointer (some ⟨D, 0, none⟩), .int .i64 i] w0 fun e w' => e = .returned (.bool (drop s i).2) ∧ AfterC Lies w0 F w' D sh room q (drop s i).1 := by
  obtain ⟨ro, a, ca, ps, rs, vs, hF, hR⟩ := h
  obtain ⟨p, r, hr, HS, HFd, -, -⟩ := Cat_any hR i
  have HR := Lib.hid hR
  have HFF := Lib.hid hF
  clear hR hF
  rcases hr with ⟨rfl, hf⟩ | ⟨t, j, ht, hj, rfl, hf⟩
  · have HP : Hid (drop s i = (s, false)) := by show _ = _; unfold drop; rw [hf]
    clear hf
    go_enter Try.func16, Try.ntmps16
    go_wp2_with (first
      | (refine (HS.out _ (Below.refl _ _)).mono ?_; rintro e w1 ⟨rfl, hb1⟩; have HB1 := Lib.hid hb1; have HF1 := Lib.hid (HFd.out w1 hb1); clear hb1 HS HFd)
      | (refine HF1.out.mono ?_; rintro e w2 ⟨rfl, hb2⟩; have HB2 := Lib.hid (HB1.out.trans (hb2.mono HB1.out.size)); clear hb2 HF1))
    go_ret
    rw [HP.out]
    exact ⟨rfl, Leaves.after (Leaves.here (HR.out.below HB2.out) (Chg.below HB2.out _) (Nat.le_refl _)) HFF.out⟩
  · have hpq := HR.out.pq (t * room + j)
    obtain ⟨pn, hpn⟩ : ∃ pn, pn = (s.L.getD (t * room + j) Ent.free).pins := ⟨_, rfl⟩
    have hpl : pn ≤ 1000000 := by omega
    have HC4 : Hid (∀ w1, Below w0.heap.size w0 w1 → w1.cell? ⟨ps t, j * 5 + 4, none⟩ = some (.int .i64 (pn : Int))) := fun w1 hb => by
      have hR1 := HR.out.below hb
      rw [hpn]; exact hR1.ent ht hj 4 _ rfl
    by_cases hp0 : 0 < pn
    · have HP : Hid (drop s i = (s, false)) := by show _ = _; unfold drop; rw [hf]; simp only [← hpn, if_pos hp0]
      have hp1 : (0 : Int) < (pn : Int) := by omega
      clear hf hpn hpq
      go_enter Try.func16, Try.ntmps16
      go_wp2_with (first
        | (refine (HS.out _ (Below.refl _ _)).mono ?_; rintro e w1 ⟨rfl, hb1⟩; have HB1 := Lib.hid hb1; have HF1 := Lib.hid (HFd.out w1 hb1); clear hb1 HS HFd)
        | (refine HF1.out.mono ?_; rintro e w2 ⟨rfl, hb2⟩; have HB2 := Lib.hid (HB1.out.trans (hb2.mono HB1.out.size)); have c4 := HC4.out w2 HB2.out; clear hb2 HF1 HC4))
      go_ret
      rw [HP.out]
      exact ⟨rfl, Leaves.after (Leaves.here (HR.out.below HB2.out) (Chg.below HB2.out _) (Nat.le_refl _)) HFF.out⟩
    · have HP : Hid (drop s i = ({ s with L := s.L.set (t * room + j) Ent.free }, true)) := by show _ = _; unfold drop; rw [hf]; simp only [← hpn, if_neg hp0]
      obtain rfl : pn = 0 := by omega
      have HC : Hid (∀ w1, Below w0.heap.size w0 w1 → There5 w1 (ps t) (j * 5) ∧ Leaves w0 ro (cells5 w1 (ps t) (j * 5) (.bool false) (.int .i64 0) (.slice none 0 0) (.bool false) (.int .i64 0)) D a ca sh room q ps rs (drop s i).1) := fun w1 hb => by
        have hR1 := HR.out.below hb
        obtain ⟨g1, g2⟩ := hR1.free ht hj
        rw [HP.out]
        exact ⟨hR1.there5 ht hj, Leaves.here g1 ((Chg.below hb _).then g2) (Nat.le_refl _)⟩
      clear hf hpn hpq hp0 hpl
      go_enter Try.func16, Try.ntmps16
      go_wp2_with (first
        | (refine (HS.out _ (Below.refl _ _)).mono ?_; rintro e w1 ⟨rfl, hb1⟩; have HB1 := Lib.hid hb1; have HF1 := Lib.hid (HFd.out w1 hb1); clear hb1 HS HFd)
        | (refine HF1.out.mono ?_; rintro e w2 ⟨rfl, hb2⟩; have HB2 := Lib.hid (HB1.out.trans (hb2.mono HB1.out.size)); have d4 := HC4.out w2 HB2.out; obtain ⟨⟨⟨v0, v1, v2, v3, v4, c0, c1, c2, c3, c4⟩, f0, f1, f2, f3, f4⟩, hL⟩ := HC.out w2 HB2.out; rw [d4] at c4; injection c4 with c4; subst c4; have c4 := d4; clear d4; have HL := Lib.hid hL; clear hb2 HF1 hL HC HC4))
      go_ret
      refine ⟨?_, Leaves.after HL.out HFF.out⟩
      rw [HP.out]
      rfl
end Go.Proofs.Ythcphabfeapjbaa
