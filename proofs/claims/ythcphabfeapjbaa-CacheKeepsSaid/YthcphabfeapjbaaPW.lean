/-
  THE WALKS of the cache's evict and add (evict's region that draws its order by wip/mkevict.py).
-/
import Derived.Test.YthcphabfeapjbaaPV
namespace Go.Proofs.Ythcphabfeapjbaa
open Go.RowKit Ca

section
variable {w : World} {ro : Nat → Nat} {D a ca sh room q : Nat} {ps rs : Nat → Nat} {vs : Nat → Value} {s : St}
theorem set_getD_self (L : List Ent) (k : Nat) : L.set k (L.getD k Ent.free) = L := by
  by_cases hk : k < L.length
  · rw [List.getD_eq_getElem?_getD, List.getElem?_eq_getElem hk]
    exact List.set_getElem_self _
  · exact List.set_eq_of_length_le (by omega)
theorem hands_self (l : List Nat) (t h0 : Nat) (hh : h0 = l.getD t 0) (ht : t < l.length) : l.set t h0 = l := by
  rw [hh, List.getD_eq_getElem?_getD, List.getElem?_eq_getElem ht]
  exact List.set_getElem_self _
/-- Rows of bytes are as they were. -/
def Args (w w' : World) : Prop := ∀ v bs, Arg w v bs → Arg w' v bs
theorem Args.refl (w : World) : Args w w := fun _ _ h => h
theorem Args.trans {w w1 w2 : World} (h : Args w w1) (k : Args w1 w2) : Args w w2 := fun v bs x => k v bs (h v bs x)
theorem Args.below {w w1 : World} (h : Below w.heap.size w w1) : Args w w1 := fun _ _ x => x.below h
/-- What was written was no byte. -/
theorem Args.chg {S : Nat → Nat → Prop} {w w1 : World} (hc : Chg S w w1) (hS : ∀ k o, S k o → ∃ y, w.cell? ⟨k, o, none⟩ = some y ∧ ∀ u, y ≠ V8 u) : Args w w1 := fun v bs h => by
  rcases h with h | ⟨b, o, cap, e, hl, hk, hs⟩
  · exact .inl h
  · refine .inr ⟨b, o, cap, e, Nat.lt_of_lt_of_le hl hc.size, hk, fun j x hx => ?_⟩
    have h1 := hs j x hx
    rw [List.getElem?_map] at hx
    obtain ⟨u, hu⟩ : ∃ u, bs[j]? = some u := by
      cases h2 : bs[j]? with
      | none => rw [h2] at hx; cases hx
      | some u => exact ⟨u, rfl⟩
    rw [hu] at hx
    injection hx with hx
    rw [hc.cell b _ hl (fun hn => by
      obtain ⟨y, hy, hy2⟩ := hS _ _ hn
      rw [h1] at hy
      injection hy with hy
      exact hy2 u (by rw [← hy, ← hx]))]
    exact h1
theorem Args.setCell {w : World} {k o : Nat} {y : Value} (hc : w.cell? ⟨k, o, none⟩ = some y) (hy : ∀ u, y ≠ V8 u) (x : Value) : Args w (w.setCell ⟨k, o, none⟩ x) :=
  Args.chg (S := fun k' o' => k' = k ∧ o' = o) ((Chg.refl _ w).setCell (p := ⟨k, o, none⟩) rfl (fun _ => ⟨rfl, rfl⟩) (by rw [hc]; rfl) x) fun k' o' ⟨e1, e2⟩ => by rw [e1, e2]; exact ⟨y, hc, hy⟩
theorem cont_not8 {v : Value} {bs : List UInt8} (h : Cont w ro v bs) : ∀ u, v ≠ V8 u := by
  rcases h with ⟨rfl, _⟩ | ⟨b, cap, rfl, _⟩
  · exact fun u e => by cases e
  · exact fun u e => by cases e
/-- No cell of an entry is a byte. -/
theorem ent_not8 (e : Ent) (v : Value) (hv : ∀ u, v ≠ V8 u) (i : Nat) (x : Value) (hx : (cellsE e v)[i]? = some x) : ∀ u, x ≠ V8 u := by
  have hm := List.mem_of_getElem? hx
  unfold cellsE at hm
  simp only [List.mem_cons, List.not_mem_nil, or_false] at hm
  rcases hm with rfl | rfl | rfl | rfl | rfl
  · exact fun u e => by cases e
  · exact fun u e => by cases e
  · exact hv
  · exact fun u e => by cases e
  · exact fun u e => by cases e
/-- What stays does to the cache. -/
theorem Cstays_goes (h : CacL w ro D a ca sh room q ps rs vs s) {t j : Nat} (ht : t < sh) (hj : j < room) (e : Ent) (he : s.L.getD (t * room + j) Ent.free = e) :
    Calls Try.prog 38 #[.pointer (some ⟨ps t, j * 5, none⟩)] w fun x w' => x = .returned (.bool (decide (0 < e.pins) || e.flag)) ∧ ∃ vs', CacL w' ro D a ca sh room q ps rs vs' { s with L := if 0 < e.pins then s.L else s.L.set (t * room + j) { e with flag := false } } ∧ Chg (fun k _ => ro k ≠ 0) w w' ∧ Args w w' := by
  subst he
  by_cases hp : 0 < (s.L.getD (t * room + j) Ent.free).pins
  · refine (Cstays_pins h ht hj hp).mono ?_
    rintro x w' ⟨rfl, rfl⟩
    rw [if_pos hp, decide_eq_true hp, Bool.true_or]
    exact ⟨rfl, vs, h, Chg.refl _ _, Args.refl _⟩
  · refine (Cstays_flag h ht hj (by omega) _ rfl).mono ?_
    rintro x w' ⟨rfl, rfl⟩
    rw [if_neg hp, decide_eq_false hp, Bool.false_or]
    obtain ⟨h1, h2⟩ := h.put1 ht hj { s.L.getD (t * room + j) Ent.free with flag := false } (vs (t * room + j)) (.bool false) 3 (by omega) rfl (h.cnt _) q (Nat.le_refl _) (h.pq _) (h.big _).1 rfl
    exact ⟨rfl, _, h1, h2, Args.setCell (h.ent ht hj 3 _ rfl) (fun u e => by cases e) _⟩
end

set_option maxRecDepth 100000 in
set_option maxHeartbeats 4000000 in
theorem Cevict_any {w0 : World} {ro : Nat → Nat} {D a ca sh room q : Nat} {ps rs : Nat → Nat} {vs : Nat → Value} {s : St} (h : CacL w0 ro D a ca sh room q ps rs vs s) {t : Nat} (ht : t < sh) :
    Calls Try.prog 34 #[.pointer (some ⟨a, t * 2, none⟩)] w0 fun e w' => e = .returned (placeP ps t ((sweep (t * room) room (2 * room) s.L (s.hands.getD t 0)).2.2.map (· - t * room)))
      ∧ Leaves w0 ro w' D a ca sh room q ps rs { s with L := (sweep (t * room) room (2 * room) s.L (s.hands.getD t 0)).1, hands := s.hands.set t (sweep (t * room) room (2 * room) s.L (s.hands.getD t 0)).2.1 } ∧ Args w0 w' := by
  have HR := Lib.hid h
  have hrm := h.rm1
  have s0 := h.s0 ht
  obtain ⟨h0, hh⟩ : ∃ x, x = s.hands.getD t 0 := ⟨_, rfl⟩
  obtain ⟨lo, hlo⟩ : ∃ x, x = t * room := ⟨_, rfl⟩
  have HLO := Lib.hid hlo
  have hh0 : h0 < room := by rw [hh]; exact h.fit.handLt hrm.1 t
  have htl : t < s.hands.length := by rw [h.fit.hlen]; exact ht
  have hset := hands_self s.hands t h0 hh htl
  have HSET := Lib.hid hset
  have HTL := Lib.hid htl
  rw [← hh, ← hlo]
  clear h hh hlo hset htl
  go_enter Try.func34, Try.ntmps34
  go_wp2
  go_loopw [10] (fun i wr => ∃ (k hd : Nat) (L' : List Ent), k ≤ 2 * room ∧ i = .int .i64 (k : Int) ∧ hd < room ∧ Hid (∃ vs', CacL wr ro D a ca sh room q ps rs vs' { s with L := L', hands := s.hands.set t hd } ∧ Chg (fun k _ => ro k ≠ 0) w0 wr ∧ Args w0 wr ∧ sweep lo room (2 * room) s.L h0 = sweep lo room (2 * room - k) L' hd)) (fun i _ => 2 * room - (intOf i).toNat)
  case atStart => exact ⟨0, h0, s.L, by omega, rfl, hh0, vs, by rw [HSET.out]; exact HR.out, Chg.refl _ _, Args.refl _, rfl⟩
  case round =>
    obtain ⟨k, hd, L', hk, rfl, hhd, HJ⟩ := hrel
    clear s0
    obtain ⟨vs', hJ1, hJ2, hJA, hJ3⟩ := HJ.out
    have HR1 := Lib.hid hJ1
    have HC1 := Lib.hid hJ2
    have HA1 := Lib.hid hJA
    have HS1 := Lib.hid hJ3
    clear HJ hJ1 hJ2 hJ3 hJA
    by_cases hlt : k < 2 * room
    · have hgd : (s.hands.set t hd).getD t 0 = hd := by rw [List.getD_eq_getElem?_getD, List.getElem?_set_self HTL.out]; rfl
      obtain ⟨h1, hh1⟩ : ∃ x, x = (hd + 1) % room := ⟨_, rfl⟩
      have Hh1 : Hid (h1 < room) := by show _ < _; rw [hh1]; exact Nat.mod_lt _ (by omega)
      have HNX : Hid (∀ W, Below wr.heap.size wr W → Calls Try.prog 30 #[.pointer (some ⟨rs t, 0, none⟩)] W fun e w' => e = .returned (.int .i64 (hd : Int)) ∧ w' = W.setCell ⟨rs t, 0, none⟩ (.int .i64 (h1 : Int))) := fun W hW => by rw [hh1]; exact Cnext_any (HR1.out.below hW) ht hd hgd
      obtain ⟨e, he⟩ : ∃ e, e = L'.getD (lo + hd) Ent.free := ⟨_, rfl⟩
      have HE := Lib.hid he
      have Hst : Hid (sweep lo room (2 * room - k) L' hd = if 0 < e.pins then sweep lo room (2 * room - (k + 1)) L' h1 else if e.flag = false then (L', h1, some (lo + hd)) else sweep lo room (2 * room - (k + 1)) (L'.set (lo + hd) { e with flag := false }) h1) := by
        show _ = _
        rw [show 2 * room - k = (2 * room - (k + 1)) + 1 by omega, sweep, ← he, ← hh1]
      have HKeep : Hid (∀ X, Below wr.heap.size wr X → X.cell? ⟨a, t * 2, none⟩ = some (.slice (some ⟨ps t, 0, none⟩) room room) ∧ X.cell? ⟨a, t * 2 + 1, none⟩ = some (handV (rs t))) := fun X hX => ⟨(HR1.out.below hX).s0 ht, (HR1.out.below hX).s1 ht⟩
      clear he hh1 hgd
      go_wp2_with fail
      have hC : Below wr.heap.size wr wr.drew := below_drewN (Below.refl _ _) 1
      refine wp_region_held_drew (S := (fun X => X.cell? ⟨a, t * 2, none⟩ = some (.slice (some ⟨ps t, 0, none⟩) room room) ∧ X.cell? ⟨a, t * 2 + 1, none⟩ = some (handV (rs t)))) (by kernel_rfl) (HKeep.out _ hC) (fun hHeld => ?_)
      generalize wr.drew = wrd at *
      refine wpAnyH_take (i := 0) (oi := ⟨some 12, _, _, _, _, _⟩) (v := ?_) rfl (by kernel_rfl) (by kernel_rfl) (by kernel_rfl) (fun _ _ _ h => h) (Or.inl ⟨by rfl, ?_⟩) hHeld ?_
      rotate_left
      · intro w hSw
        go_simp
        with_reducible rfl
      try go_frame
      refine wpAnyH_take (i := 1) (oi := ⟨some 13, _, _, _, _, _⟩) (v := ?_) rfl (by kernel_rfl) (by kernel_rfl) (by kernel_rfl) (fun _ _ _ h => h) (Or.inl ⟨by rfl, ?_⟩) hHeld ?_
      rotate_left
      · intro w hSw
        go_simp
        with_reducible rfl
      try go_frame
      refine wpAnyH_take (i := 2) (oi := ⟨some 14, _, _, _, _, _⟩) (v := ?_) rfl (by kernel_rfl) (by kernel_rfl) (by kernel_rfl) (fun _ _ _ h => h) (Or.inl ⟨by rfl, ?_⟩) hHeld ?_
      rotate_left
      · intro w hSw
        go_simp
        with_reducible rfl
      try go_frame
      refine wpAnyH_take (i := 3) (oi := ⟨some 15, _, _, _, _, _⟩) (v := ?_) rfl (by kernel_rfl) (by kernel_rfl) (by kernel_rfl) (fun _ _ _ h => h) (Or.inl ⟨by rfl, ?_⟩) hHeld ?_
      rotate_left
      · intro w hSw
        have hc := hSw.1
        go_simp
        with_reducible rfl
      try go_frame
      refine wpAnyH_take (i := 4) (oi := ⟨some 16, _, _, _, _, _⟩) (v := ?_) rfl (by kernel_rfl) (by kernel_rfl) (by kernel_rfl) (fun _ _ _ h => h) (Or.inl ⟨by rfl, ?_⟩) hHeld ?_
      rotate_left
      · intro w hSw
        go_simp
        with_reducible rfl
      try go_frame
      refine wpAnyH_take (i := 5) (oi := ⟨some 17, _, _, _, _, _⟩) (v := ?_) rfl (by kernel_rfl) (by kernel_rfl) (by kernel_rfl) (fun _ _ _ h => h) (Or.inl ⟨by rfl, ?_⟩) hHeld ?_
      rotate_left
      · intro w hSw
        go_simp
        with_reducible rfl
      try go_frame
      refine wpAnyH_take (i := 6) (oi := ⟨some 18, _, _, _, _, _⟩) (v := ?_) rfl (by kernel_rfl) (by kernel_rfl) (by kernel_rfl) (fun _ _ _ h => h) (Or.inl ⟨by rfl, ?_⟩) hHeld ?_
      rotate_left
      · intro w hSw
        go_simp
        with_reducible rfl
      try go_frame
      refine wpAnyH_take (i := 7) (oi := ⟨some 19, _, _, _, _, _⟩) (v := ?_) rfl (by kernel_rfl) (by kernel_rfl) (by kernel_rfl) (fun _ _ _ h => h) (Or.inl ⟨by rfl, ?_⟩) hHeld ?_
      rotate_left
      · intro w hSw
        have hc := hSw.2
        go_simp
        with_reducible rfl
      try go_frame
      refine wpAnyH_ready (rs := [8]) (by kernel_rfl) (by simp) ?_
      refine AllReadyH.cons (o := ⟨some 20, _, _, _, _, _⟩) rfl (fun K hK => ?_) AllReadyH.nil
      go_simp
      refine (HNX.out _ hC).mono ?_
      rintro e9 w9 ⟨rfl, hw9⟩
      obtain ⟨hR2, hC2⟩ := (HR1.out.below hC).hand ht h1 Hh1.out
      have HA2 : Hid (Args w0 w9) := by rw [hw9]; exact (HA1.out.trans (Args.below hC)).trans (Args.setCell ((HR1.out.below hC).r0 ht) (fun u e => by cases e) _)
      rw [← hw9] at hR2 hC2
      have HR2 : Hid (CacL w9 ro D a ca sh room q ps rs vs' { s with L := L', hands := s.hands.set t h1 }) := by
        show CacL _ _ _ _ _ _ _ _ _ _ _ _
        simp only [List.set_set] at hR2
        exact hR2
      have HC2 : Hid (Chg (fun k _ => ro k ≠ 0) w0 w9) := (HC1.out.then (Chg.below hC _)).then hC2
      clear hR2 hC2 hw9
      refine hK.out _ _ ⟨HR2.out.s0 ht, HR2.out.s1 ht⟩ (fun hHeld => ?_)
      clear hK K
      try go_frame
      refine wpAnyH_take (i := 9) (oi := ⟨some 21, _, _, _, _, _⟩) (v := ?_) rfl (by kernel_rfl) (by kernel_rfl) (by kernel_rfl) (fun _ _ _ h => h) (Or.inl ⟨by rfl, ?_⟩) hHeld ?_
      rotate_left
      · intro w hSw
        have hi2 : 0 ≤ (hd : Int) ∧ (hd : Int) < (room : Int) := by omega
        go_simp
        with_reducible rfl
      try go_frame
      refine wpAnyH_take (i := 10) (oi := ⟨some 3, _, _, _, _, _⟩) (v := ?_) rfl (by kernel_rfl) (by kernel_rfl) (by kernel_rfl) (fun _ _ _ h => h) (Or.inl ⟨by rfl, ?_⟩) hHeld ?_
      rotate_left
      · intro w hSw
        go_simp
        with_reducible rfl
      try go_frame
      refine wpAnyH_done (by kernel_rfl) ?_ _
      clear hHeld hC HKeep HNX
      have HPL : Hid (w9.cell? ⟨a, t * 2, none⟩ = some (.slice (some ⟨ps t, 0, none⟩) room room)) := HR2.out.s0 ht
      have HST : Hid (Calls Try.prog 38 #[.pointer (some ⟨ps t, hd * 5, none⟩)] w9 fun x w' => x = .returned (.bool (decide (0 < e.pins) || e.flag)) ∧ ∃ vs', CacL w' ro D a ca sh room q ps rs vs' { s with L := if 0 < e.pins then L' else L'.set (lo + hd) { e with flag := false }, hands := s.hands.set t h1 } ∧ Chg (fun k _ => ro k ≠ 0) w9 w' ∧ Args w9 w') := by
        have := Cstays_goes HR2.out ht hhd e (by rw [HE.out, HLO.out])
        rw [← HLO.out] at this
        exact this
      obtain ⟨st, hst⟩ : ∃ b, b = (decide (0 < e.pins) || e.flag) := ⟨_, rfl⟩
      rw [← hst] at HST
      have HSTE := Lib.hid hst
      clear hst HPL
      cases st with
      | true =>
        go_wp2_with (refine HST.out.mono ?_; rintro x w10 ⟨rfl, vs2, hR3, hC3, hA3⟩; have HR3 := Lib.hid hR3; have HC3 := Lib.hid (HC2.out.then hC3); have HA3 := Lib.hid (HA2.out.trans hA3); clear hR3 hC3 hA3)
        all_goals try (rename_i hx; exact absurd hx (by decide))
        go_round
        case rel =>
          refine ⟨k + 1, h1, _, by omega, by go_num, Hh1.out, vs2, HR3.out, HC3.out, HA3.out, ?_⟩
          rw [HS1.out, Hst.out]
          by_cases hp0 : 0 < e.pins
          · rw [if_pos hp0, if_pos hp0]
          · have hf : e.flag = true := by have := HSTE.out; rw [decide_eq_false hp0, Bool.false_or] at this; exact this.symm
            rw [if_neg hp0, if_neg hp0, if_neg (by rw [hf]; simp)]
        case measure => show 2 * room - ((k : Int) + 1).toNat < 2 * room - ((k : Int)).toNat; omega
      | false =>
        go_wp2_with (refine HST.out.mono ?_; rintro x w10 ⟨rfl, vs2, hR3, hC3, hA3⟩; have HR3 := Lib.hid hR3; have HC3 := Lib.hid (HC2.out.then hC3); have HA3 := Lib.hid (HA2.out.trans hA3); clear hR3 hC3 hA3)
        all_goals try (rename_i hx; exact absurd rfl hx)
        have hpf : ¬ 0 < e.pins ∧ e.flag = false := by
          have := HSTE.out
          by_cases hp0 : 0 < e.pins
          · rw [decide_eq_true hp0, Bool.true_or] at this; cases this
          · rw [decide_eq_false hp0, Bool.false_or] at this; exact ⟨hp0, this.symm⟩
        have HF : Hid (sweep lo room (2 * room) s.L h0 = (L', h1, some (lo + hd))) := by show _ = _; rw [HS1.out, Hst.out, if_neg hpf.1, if_pos hpf.2]
        have HL3 : Hid ((if 0 < e.pins then L' else L'.set (lo + hd) { e with flag := false }) = L') := by
          show _ = _
          rw [if_neg hpf.1]
          have h9 : ({ e with flag := false } : Ent) = e := by rw [← hpf.2]
          rw [h9, HE.out]
          exact set_getD_self _ _
        have HR4 : Hid (CacL w10 ro D a ca sh room q ps rs vs2 { s with L := L', hands := s.hands.set t h1 }) := by
          have h9 := HR3.out
          rw [HL3.out] at h9
          exact h9
        clear hpf
        go_ret
        rw [HF.out]
        refine ⟨?_, Leaves.here HR4.out HC3.out (Nat.le_refl _), HA3.out⟩
        show _ = Ending.returned (placeP ps t (some (lo + hd - lo)))
        rw [Nat.add_sub_cancel_left]
        rfl
    · obtain rfl : k = 2 * room := by omega
      have HF : Hid (sweep lo room (2 * room) s.L h0 = (L', hd, none)) := by show _ = _; rw [HS1.out, Nat.sub_self]; rfl
      go_wp2
      go_ret
      rw [HF.out]
      exact ⟨rfl, Leaves.here HR1.out HC1.out (Nat.le_refl _), HA1.out⟩
end Go.Proofs.Ythcphabfeapjbaa
