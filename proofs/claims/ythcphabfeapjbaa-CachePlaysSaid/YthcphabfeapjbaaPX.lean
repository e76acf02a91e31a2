/-
  THE WALKS of the cache's add, the copy of bytes; Get, Put, Pin, Unpin, Drop.
-/
import Derived.Test.YthcphabfeapjbaaPW
namespace Go.Proofs.Ythcphabfeapjbaa
open Go.RowKit Ca

/-- A new entry, at the place that is found. -/
def added (room : Nat) (s : St) (t : Nat) (i : Int) : St := match (place room s t).2 with
  | some k => { (place room s t).1 with L := (place room s t).1.L.set k ⟨i, [], false, 0⟩ }
  | none => (place room s t).1
theorem infoCe : (Try.prog.info? 68).map (·.size) = some 5 := by kernel_rfl
theorem oneCe (e : Ent) (v : Value) (hv : v.oneCell' = true) : (cellsE e v).toArray.all (·.oneCell') = true := by
  refine all_oneCell_toArray fun x hx => ?_
  unfold cellsE at hx
  simp only [List.mem_cons, List.not_mem_nil, or_false] at hx
  rcases hx with rfl | rfl | rfl | rfl | rfl
  · rfl
  · rfl
  · exact hv
  · rfl
  · rfl
def cells5 (w : World) (b o : Nat) (v0 v1 v2 v3 v4 : Value) : World :=
  ((((w.setCell ⟨b, o, none⟩ v0).setCell ⟨b, o + 1, none⟩ v1).setCell ⟨b, o + 2, none⟩ v2).setCell ⟨b, o + 3, none⟩ v3).setCell ⟨b, o + 4, none⟩ v4
theorem cells5_eq (w : World) (b o : Nat) (v0 v1 v2 v3 v4 : Value) : w.setCells b o [v0, v1, v2, v3, v4] = cells5 w b o v0 v1 v2 v3 v4 := rfl
/-- Five cells lie there and may be written. -/
def There5 (w : World) (b o : Nat) : Prop := (∃ v0 v1 v2 v3 v4, w.cell? ⟨b, o, none⟩ = some v0 ∧ w.cell? ⟨b, o + 1, none⟩ = some v1 ∧ w.cell? ⟨b, o + 2, none⟩ = some v2 ∧ w.cell? ⟨b, o + 3, none⟩ = some v3 ∧ w.cell? ⟨b, o + 4, none⟩ = some v4)
  ∧ w.frozen? ⟨b, o, none⟩ = false ∧ w.frozen? ⟨b, o + 1, none⟩ = false ∧ w.frozen? ⟨b, o + 2, none⟩ = false ∧ w.frozen? ⟨b, o + 3, none⟩ = false ∧ w.frozen? ⟨b, o + 4, none⟩ = false
section
variable {w w' : World} {ro ro' : Nat → Nat} {D a ca sh room q : Nat} {ps rs : Nat → Nat} {vs : Nat → Value} {s : St}
/-- More blocks get roles. -/
theorem CacL.role (h : CacL w ro D a ca sh room q ps rs vs s) (hro : ∀ k, ro k ≠ 0 → ro' k = ro k) (hlt : ∀ k, ro' k ≠ 0 → k < w.heap.size) : CacL w ro' D a ca sh room q ps rs vs s :=
  ⟨h.head, h.shd, h.plc, h.rng, fun k => (h.cnt k).chg (Chg.refl (fun _ _ => False) w) (fun _ _ _ x => x) hro, h.fit, h.gq, h.pq, h.big, h.sh1, h.rm1,
    by rw [hro _ (by rw [h.rD]; decide)]; exact h.rD, by rw [hro _ (by rw [h.ra]; decide)]; exact h.ra, fun t ht => by rw [hro _ (by rw [h.rp t ht]; omega)]; exact h.rp t ht, fun t ht => by rw [hro _ (by rw [h.rr t ht]; omega)]; exact h.rr t ht, hlt⟩
theorem CacL.there5 (h : CacL w ro D a ca sh room q ps rs vs s) {t j : Nat} (ht : t < sh) (hj : j < room) : There5 w (ps t) (j * 5) :=
  ⟨⟨_, _, _, _, _, h.ent ht hj 0 _ rfl, h.ent ht hj 1 _ rfl, h.ent ht hj 2 _ rfl, h.ent ht hj 3 _ rfl, h.ent ht hj 4 _ rfl⟩, h.entFree ht hj 0 (by omega), h.entFree ht hj 1 (by omega), h.entFree ht hj 2 (by omega), h.entFree ht hj 3 (by omega), h.entFree ht hj 4 (by omega)⟩
/-- A place gets a new entry, or becomes free. -/
theorem CacL.lay (h : CacL w ro D a ca sh room q ps rs vs s) {t j : Nat} (ht : t < sh) (hj : j < room) (i : Int) (h0 : 0 ≤ i) (hi : i ≤ 9223372036854775807) (hat : i.toNat % sh = t) :
    CacL (cells5 w (ps t) (j * 5) (.bool true) (.int .i64 i) (.slice none 0 0) (.bool false) (.int .i64 0)) ro D a ca sh room q ps rs (fun k => if k = t * room + j then .slice none 0 0 else vs k) { s with L := s.L.set (t * room + j) ⟨i, [], false, 0⟩ } ∧ Chg (fun k _ => ro k ≠ 0) w (cells5 w (ps t) (j * 5) (.bool true) (.int .i64 i) (.slice none 0 0) (.bool false) (.int .i64 0)) ∧ Args w (cells5 w (ps t) (j * 5) (.bool true) (.int .i64 i) (.slice none 0 0) (.bool false) (.int .i64 0)) := by
  obtain ⟨g1, g2⟩ := h.putAll ht hj ⟨i, [], false, 0⟩ (.slice none 0 0) (Cont.none _ _) (Nat.zero_le _) ⟨Nat.zero_le _, by show -1 ≤ i; omega, hi⟩ (fun _ => hat)
  have hce : cellsE ⟨i, [], false, 0⟩ (.slice none 0 0) = [.bool true, .int .i64 i, .slice none 0 0, .bool false, .int .i64 0] := by
    show [Value.bool (decide (0 ≤ i)), .int .i64 (if 0 ≤ i then i else 0), _, _, _] = _
    rw [decide_eq_true h0, if_pos h0]; rfl
  rw [hce, cells5_eq] at g1 g2
  refine ⟨g1, g2, ?_⟩
  rw [← cells5_eq]
  refine Args.chg (S := fun k o => k = ps t ∧ j * 5 ≤ o ∧ o < j * 5 + 5) ((Chg.refl _ w).setCells (fun i hi _ => ⟨rfl, by omega, by simp at hi; omega⟩) (h.plc t ht j hj).2) ?_
  rintro k o ⟨rfl, h1, h2⟩
  obtain ⟨x, rfl⟩ : ∃ x, o = j * 5 + x := ⟨o - j * 5, by omega⟩
  obtain ⟨y, hy⟩ : ∃ y, (cellsE (s.L.getD (t * room + j) Ent.free) (vs (t * room + j)))[x]? = some y := ⟨_, List.getElem?_eq_getElem (by rw [cellsE_length]; omega)⟩
  exact ⟨y, h.ent ht hj x y hy, ent_not8 _ _ (cont_not8 (h.cnt _)) x y hy⟩
theorem CacL.free (h : CacL w ro D a ca sh room q ps rs vs s) {t j : Nat} (ht : t < sh) (hj : j < room) :
    CacL (cells5 w (ps t) (j * 5) (.bool false) (.int .i64 0) (.slice none 0 0) (.bool false) (.int .i64 0)) ro D a ca sh room q ps rs (fun k => if k = t * room + j then .slice none 0 0 else vs k) { s with L := s.L.set (t * room + j) Ent.free } ∧ Chg (fun k _ => ro k ≠ 0) w (cells5 w (ps t) (j * 5) (.bool false) (.int .i64 0) (.slice none 0 0) (.bool false) (.int .i64 0)) := by
  obtain ⟨g1, g2⟩ := h.putAll ht hj Ent.free (.slice none 0 0) (Cont.none _ _) (Nat.zero_le _) ⟨Nat.zero_le _, by show (-1 : Int) ≤ -1; omega, by show (-1 : Int) ≤ _; omega⟩ (fun h0 => absurd h0 (by show ¬ (0 : Int) ≤ -1; omega))
  have hce : cellsE Ent.free (.slice none 0 0) = [.bool false, .int .i64 0, .slice none 0 0, .bool false, .int .i64 0] := rfl
  rw [hce, cells5_eq] at g1 g2
  exact ⟨g1, g2⟩
end
theorem Leaves.then {w0 w1 w2 : World} {ro ro1 : Nat → Nat} {D a ca sh room q : Nat} {ps rs : Nat → Nat} {s : St} (hb : Chg (fun k _ => ro k ≠ 0) w0 w1) (hk : ∀ k, ro k ≠ 0 → ro1 k = ro k) (hn : ∀ k, ro1 k ≠ 0 → ro k ≠ 0 ∨ w0.heap.size ≤ k)
    (h2 : Leaves w1 ro1 w2 D a ca sh room q ps rs s) : Leaves w0 ro w2 D a ca sh room q ps rs s := by
  obtain ⟨ro2, vs2, c, k2, n2, C2⟩ := h2
  exact ⟨ro2, vs2, c, fun k hk' => (k2 k (by rw [hk k hk']; exact hk')).trans (hk k hk'), fun k h => (n2 k h).elim (fun h => hn k h) (fun h => .inr (Nat.le_trans hb.size h)), hb.trans C2 fun b o hbl h => (hn b h).elim id (fun h9 => by omega)⟩

set_option maxRecDepth 100000 in
set_option maxHeartbeats 4000000 in
theorem Cadd_at {w0 : World} {ro : Nat → Nat} {D a ca sh room q : Nat} {ps rs : Nat → Nat} {vs : Nat → Value} {s : St} (h : CacL w0 ro D a ca sh room q ps rs vs s) {t : Nat} (ht : t < sh) (i : Int) (h0 : 0 ≤ i) (hi : i ≤ 9223372036854775807) (hat : i.toNat % sh = t) :
    Calls Try.prog 25 #[.pointer (some ⟨a, t * 2, none⟩), .int .i64 i] w0 fun e w' => e = .returned (placeP ps t ((place room s t).2.map (· - t * room))) ∧ Leaves w0 ro w' D a ca sh room q ps rs (added room s t i) ∧ Args w0 w' := by
  have eg : ∀ args w, (callFunc 33 args).run Try.prog w = .ok (.enter 33 args) w := enters_of Try.func33 (by kernel_rfl) rfl
  have HFI := Lib.hid (Cfirst_any h ht (fun x => decide (x.1.block < 0)) 33 #[] eg w0 (Below.refl _ _) (pred_free w0) _ (freeFrom_first s.L room (t * room)).1)
  have HR := Lib.hid h
  have Hi := Lib.hid hi
  have Hat := Lib.hid hat
  obtain ⟨lo, hlo⟩ : ∃ x, x = t * room := ⟨_, rfl⟩
  have HLO := Lib.hid hlo
  rw [← hlo] at HFI ⊢
  have hpl : ∀ x, freeFrom s.L lo room = x → place room s t = match x with
      | some k => (s, some k)
      | none => ({ s with L := (sweep lo room (2 * room) s.L (s.hands.getD t 0)).1, hands := s.hands.set t (sweep lo room (2 * room) s.L (s.hands.getD t 0)).2.1 }, (sweep lo room (2 * room) s.L (s.hands.getD t 0)).2.2) := fun x hx => by
    unfold place
    rw [← hlo, hx]
    cases x <;> rfl
  have hfr := (freeFrom_first s.L room lo).2
  have hv0 : Cont w0 ro (.slice none 0 0) [] := Cont.none _ _
  clear h hi hat hlo eg
  cases hf : freeFrom s.L lo room with
  | some k =>
    rw [hf] at HFI
    have hk := hfr k hf
    obtain ⟨j, rfl⟩ : ∃ j, k = lo + j := ⟨k - lo, by omega⟩
    have hj : j < room := by omega
    have HP := Lib.hid (hpl _ hf)
    rw [show (some (lo + j)).map (· - lo) = some j from by simp, show placeP ps t (some j) = .pointer (some ⟨ps t, j * 5, none⟩) from rfl] at HFI
    clear hf hfr hpl hk
    have HAD : Hid (added room s t i = { s with L := s.L.set (lo + j) ⟨i, [], false, 0⟩ }) := by show _ = _; unfold added; rw [HP.out]
    have HT5 : Hid (∀ w1, Below w0.heap.size w0 w1 → There5 w1 (ps t) (j * 5)) := fun w1 hb => (HR.out.below hb).there5 ht hj
    have HPA : Hid (∀ w1, Below w0.heap.size w0 w1 → _) := fun w1 hb => (HR.out.below hb).lay ht hj i h0 Hi.out Hat.out
    have Hh0 := Lib.hid h0
    clear h0
    go_enter Try.func25, Try.ntmps25
    go_wp2_with (refine HFI.out.mono ?_; rintro e w1 ⟨rfl, hb1⟩; obtain ⟨⟨v0, v1, v2, v3, v4, c0, c1, c2, c3, c4⟩, f0, f1, f2, f3, f4⟩ := HT5.out w1 hb1; obtain ⟨hR1, hC1, hA1⟩ := HPA.out w1 hb1; have HR1 := Lib.hid hR1; have HC1 : Hid (Chg (fun k _ => ro k ≠ 0) w0 _) := (Chg.below hb1 _).then hC1; have HA1 := Lib.hid ((Args.below hb1).trans hA1); clear hb1 hR1 hC1 hA1 HPA HT5)
    go_ret
    rw [HP.out, HAD.out, HLO.out]
    refine ⟨?_, Leaves.here HR1.out HC1.out (Nat.le_refl _), HA1.out⟩
    show _ = Ending.returned (placeP ps t (some (t * room + j - t * room)))
    rw [Nat.add_sub_cancel_left]
    rfl
  | none =>
    rw [hf] at HFI
    rw [show (none : Option Nat).map (· - lo) = none from rfl, show placeP ps t none = .pointer none from rfl] at HFI
    obtain ⟨r, hr⟩ : ∃ r, r = sweep lo room (2 * room) s.L (s.hands.getD t 0) := ⟨_, rfl⟩
    obtain ⟨s2, hs2⟩ : ∃ s2, s2 = ({ s with L := r.1, hands := s.hands.set t r.2.1 } : St) := ⟨_, rfl⟩
    have HEV : Hid (∀ w1, Below w0.heap.size w0 w1 → Calls Try.prog 34 #[.pointer (some ⟨a, t * 2, none⟩)] w1 fun e w' => e = .returned (placeP ps t (r.2.2.map (· - lo))) ∧ Leaves w1 ro w' D a ca sh room q ps rs s2 ∧ Args w1 w') := fun w1 hb => by
      rw [hs2, hr, HLO.out]; exact Cevict_any (HR.out.below hb) ht
    have hP : place room s t = (s2, r.2.2) := by rw [hpl _ hf, hs2, hr]
    have hlt := place_lt2 HR.out.fit HR.out.rm1.1 t
    rw [hP, ← HLO.out] at hlt
    clear hs2 hr hf hfr hpl
    obtain ⟨r1, r2, r3⟩ := r
    change place room s t = (s2, r3) at hP
    change ∀ k, r3 = some k → lo ≤ k ∧ k < lo + room at hlt
    change Hid (∀ w1, Below w0.heap.size w0 w1 → Calls Try.prog 34 #[.pointer (some ⟨a, t * 2, none⟩)] w1 fun e w' => e = .returned (placeP ps t (r3.map (· - lo))) ∧ Leaves w1 ro w' D a ca sh room q ps rs s2 ∧ Args w1 w') at HEV
    have HP := Lib.hid hP
    have Hh0 := Lib.hid h0
    cases r3 with
    | none =>
      have HAD : Hid (added room s t i = s2) := by show _ = _; unfold added; rw [HP.out]
      rw [show (none : Option Nat).map (· - lo) = none from rfl, show placeP ps t none = .pointer none from rfl] at HEV
      clear hP hlt h0
      go_enter Try.func25, Try.ntmps25
      go_wp2_with (first
        | (refine HFI.out.mono ?_; rintro e w1 ⟨rfl, hb1⟩; have HB1 := Lib.hid hb1; have HE1 := Lib.hid (HEV.out w1 hb1); clear hb1 HFI HEV)
        | (refine HE1.out.mono ?_; rintro e w2 ⟨rfl, hL, hA⟩; have HL := Lib.hid hL; have HA := Lib.hid ((Args.below HB1.out).trans hA); clear hL hA))
      go_ret
      rw [HP.out, HAD.out]
      exact ⟨rfl, Leaves.then (Chg.below HB1.out _) (fun _ _ => rfl) (fun _ h => .inl h) HL.out, HA.out⟩
    | some k =>
      have hk := hlt k rfl
      obtain ⟨j, rfl⟩ : ∃ j, k = lo + j := ⟨k - lo, by omega⟩
      have hj : j < room := by omega
      have HAD : Hid (added room s t i = { s2 with L := s2.L.set (lo + j) ⟨i, [], false, 0⟩ }) := by show _ = _; unfold added; rw [HP.out]
      rw [show (some (lo + j)).map (· - lo) = some j from by simp, show placeP ps t (some j) = .pointer (some ⟨ps t, j * 5, none⟩) from rfl] at HEV
      clear hP hlt h0 hk
      have HLL : Hid (∀ w1 w2, Leaves w1 ro w2 D a ca sh room q ps rs s2 → There5 w2 (ps t) (j * 5) ∧ Leaves w1 ro (cells5 w2 (ps t) (j * 5) (.bool true) (.int .i64 i) (.slice none 0 0) (.bool false) (.int .i64 0)) D a ca sh room q ps rs (added room s t i) ∧ Args w2 (cells5 w2 (ps t) (j * 5) (.bool true) (.int .i64 i) (.slice none 0 0) (.bool false) (.int .i64 0))) := fun w1 w2 hL => by
        obtain ⟨ro2, vs2, c, k2, n2, C2⟩ := hL
        obtain ⟨g1, g2, g3⟩ := c.lay ht hj i Hh0.out Hi.out Hat.out
        rw [← HLO.out] at g1
        rw [HAD.out]
        exact ⟨c.there5 ht hj, Leaves.then C2 k2 n2 (Leaves.here g1 g2 (Nat.le_refl _)), g3⟩
      go_enter Try.func25, Try.ntmps25
      go_wp2_with (first
        | (refine HFI.out.mono ?_; rintro e w1 ⟨rfl, hb1⟩; have HB1 := Lib.hid hb1; have HE1 := Lib.hid (HEV.out w1 hb1); clear hb1 HFI HEV)
        | (refine HE1.out.mono ?_; rintro e w2 ⟨rfl, hL, hA⟩; obtain ⟨⟨⟨v0, v1, v2, v3, v4, c0, c1, c2, c3, c4⟩, f0, f1, f2, f3, f4⟩, hL2, hA2⟩ := HLL.out w1 w2 hL; have HL := Lib.hid hL2; have HA := Lib.hid (((Args.below HB1.out).trans hA).trans hA2); clear hL hL2 hA hA2 HLL))
      go_ret
      rw [HP.out]
      refine ⟨?_, Leaves.then (Chg.below HB1.out _) (fun _ _ => rfl) (fun _ h => .inl h) HL.out, HA.out⟩
      show _ = Ending.returned (placeP ps t (some (lo + j - lo)))
      rw [Nat.add_sub_cancel_left]
      rfl
end Go.Proofs.Ythcphabfeapjbaa
