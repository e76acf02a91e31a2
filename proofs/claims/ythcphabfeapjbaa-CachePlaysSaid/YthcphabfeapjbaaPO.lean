/-
  THE LAW CacheKeeps (its regions that draw their order by wip/mkckeeps.py).
-/
import Derived.Test.YthcphabfeapjbaaPN
namespace Go.Proofs.Ythcphabfeapjbaa
open Go.RowKit Ca

/-- The program's cache at D, the call's own (from w on); each entry among its shard's places, p's entry pinned, its bytes pb. -/
def KpC (C : Cach) (w W : World) (D sh room q : Nat) (s : St) (p : Int) (pb : List UInt8) : Prop :=
  ∃ F, C W F D sh room q s ∧ (∀ k, F k → w.heap.size ≤ k) ∧ Fit sh room s ∧ Held1 s p pb ∧ Below w.heap.size w W
section
variable {C : Cach} {w W W' : World} {D sh room q q' : Nat} {s s' : St} {p : Int} {pb : List UInt8}
theorem KpC.bel (h : KpC C w W D sh room q s p pb) : Below w.heap.size w W := by
  obtain ⟨F, _, _, _, _, hb⟩ := h
  exact hb
theorem KpC.still (X : CacheC C) (h : KpC C w W D sh room q s p pb) (hb : Below W.heap.size W W') : KpC C w W' D sh room q s p pb := by
  obtain ⟨F, a, b, c, d, e⟩ := h
  exact ⟨F, X.stay a (Chg.below hb fun _ _ => False) fun _ _ _ x => x, b, c, d, e.trans (hb.mono e.size)⟩
/-- A part of memory that is the call's own, and not the cache's, has turned. -/
theorem KpC.put (X : CacheC C) (h : KpC C w W D sh room q s p pb) (h1 : 1 ≤ sh) (h2 : 1 ≤ room) (hq : q ≤ 1000000) (i : Int) (v : Value) (bs : List UInt8) (hi : In64 i) (hp : p ≠ i) (hl : bs.length ≤ 1000) (hA : Arg W v bs) :
    Calls Try.prog 9 #[.pointer (some ⟨D, 0, none⟩), .int .i64 i, v] W fun e w' => e = .returned (.bool (put sh room s i bs).2) ∧ KpC C w w' D sh room q (Ca.put sh room s i bs).1 p pb := by
  obtain ⟨F, a, b, c, d, e⟩ := h
  refine (X.put a hq i v bs hi hl hA).mono ?_
  rintro e' w' ⟨rfl, F', a', b', c'⟩
  exact ⟨rfl, F', a', fun k hk => (b' k hk).elim (b k) fun hk => Nat.le_trans e.size hk, (put_fit c h1 h2).1, d.put c h1 h2 hp, below_chgC e e.size c' fun k _ hk => b k hk⟩
theorem KpC.get (X : CacheC C) (h : KpC C w W D sh room q s p pb) (hq : q ≤ 1000000) (i : Int) (hi : In64 i) :
    Calls Try.prog 11 #[.pointer (some ⟨D, 0, none⟩), .int .i64 i] W fun e w' => ∃ v, e = .returned (.tuple #[v, .bool (getC s i).2.2]) ∧ Own w' W.heap.size 5 v ((getC s i).2.1.map V8) ∧ KpC C w w' D sh room (q + 1) (getC s i).1 p pb := by
  obtain ⟨F, a, b, c, d, e⟩ := h
  refine (X.get a hq i hi).mono ?_
  rintro e' w' ⟨v, F', rfl, hO, _, a', b', c'⟩
  obtain ⟨g1, g2, _, _⟩ := get_fit (i := i) c
  exact ⟨v, rfl, hO, F', a', fun k hk => (b' k hk).elim (b k) fun hk => Nat.le_trans e.size hk, g1, d.like g2, below_chgC e e.size c' fun k _ hk => b k hk⟩
theorem KpC.has (X : CacheC C) (h : KpC C w W D sh room q s p pb) :
    Calls Try.prog 19 #[.pointer (some ⟨D, 0, none⟩)] W fun e w' => ∃ v, e = .returned v ∧ Hid (Own w' W.heap.size 3 v ((hasL s.L).map VC)) ∧ KpC C w w' D sh room q s p pb := by
  have h' := h
  obtain ⟨F, a, _⟩ := h'
  refine (X.has a).mono ?_
  rintro e' w' ⟨v, rfl, hO, hb⟩
  exact ⟨v, rfl, hO, h.still X hb⟩
/-- What is told behind a Put. -/
theorem put_get (h : Fit sh room s) (h1 : 1 ≤ sh) (h2 : 1 ≤ room) (i : Int) (bs : List UInt8) : (getC (Ca.put sh room s i bs).1 i).2.2 = (Ca.put sh room s i bs).2 ∧ ((Ca.put sh room s i bs).2 = true → (getC (Ca.put sh room s i bs).1 i).2.1 = bs) := by
  obtain ⟨a, b, c, _, _⟩ := put_fit (i := i) (bs := bs) h h1 h2
  obtain ⟨_, _, d, e⟩ := get_fit (i := i) a
  cases ho : (Ca.put sh room s i bs).2 with
  | false => exact ⟨by rw [d, c ho]; rfl, fun x => by cases x⟩
  | true =>
    obtain ⟨k, hk, hb⟩ := b ho
    exact ⟨by rw [d, hk]; rfl, fun _ => by rw [e k hk, hb]⟩
theorem KpC.fit (h : KpC C w W D sh room q s p pb) : Fit sh room s := by
  obtain ⟨F, _, _, c, _, _⟩ := h
  exact c
theorem KpC.pinned (h : KpC C w W D sh room q s p pb) : Held1 s p pb := by
  obtain ⟨F, _, _, _, d, _⟩ := h
  exact d
end
/-- The cells of deed i, at a later world. -/
theorem CDeeds.at_ {w : World} {A : Option Addr} {n cap : Nat} {l : List CDeed} (h : CDeeds w (.slice A n cap) l) {i : Nat} (hi : i < n) :
    ∃ (b o : Nat) (d : CDeed), A = some ⟨b, o, none⟩ ∧ b < w.heap.size ∧ l[i]? = some d ∧ d.ok w ∧ ∀ W, Below w.heap.size w W →
      W.cell? ⟨b, o + i * 3, none⟩ = some (.int .i64 d.what) ∧ W.cell? ⟨b, o + i * 3 + 1, none⟩ = some (.int .i64 d.i) ∧ W.cell? ⟨b, o + i * 3 + 2, none⟩ = some d.v := by
  obtain ⟨A', cap', e, h1, h2⟩ := h
  injection e with e1 e2 e3
  subst e1 e2 e3
  obtain ⟨b, o, rfl, hb, hs⟩ := h1 (by omega)
  obtain ⟨d, hd⟩ : ∃ d, l[i]? = some d := ⟨_, List.getElem?_eq_getElem hi⟩
  refine ⟨b, o, d, rfl, hb, hd, h2 d (List.mem_of_getElem? hd), fun W hW => ?_⟩
  have hs' := (hs i d hd).below hW hb
  exact ⟨hs'.at_ (j := 0) rfl, hs'.at_ (j := 1) rfl, hs'.at_ (j := 2) rfl⟩
def pbC : List UInt8 := [112, 105, 110, 110, 101, 100]
def PerC (sh : Nat) (H : List Int) (k : Nat) : List Value := (List.range sh).map fun t => Value.int .i64 ((cntS sh t (H.take k) : Nat) : Int)
theorem PerC_zero (sh : Nat) (H : List Int) : PerC sh H 0 = List.replicate sh (Value.int .i64 0) := by
  unfold PerC
  apply List.ext_getElem?
  intro i
  rw [List.getElem?_map, List.getElem?_replicate]
  by_cases hi : i < sh
  · rw [if_pos hi, List.getElem?_range hi]; rfl
  · rw [if_neg hi, List.getElem?_eq_none (by simp; omega)]; rfl
theorem PerC_length (sh : Nat) (H : List Int) (k : Nat) : (PerC sh H k).length = sh := by simp [PerC]
theorem PerC_get (sh : Nat) (H : List Int) (k t : Nat) (ht : t < sh) : (PerC sh H k)[t]? = some (.int .i64 ((cntS sh t (H.take k) : Nat) : Int)) := by
  unfold PerC
  rw [List.getElem?_map, List.getElem?_range ht]; rfl
theorem PerC_step (sh : Nat) (H : List Int) (k t : Nat) (hk : k < H.length) (ht : (H.getD k 0).toNat % sh = t) (htl : t < sh) : PerC sh H (k + 1) = (PerC sh H k).set t (.int .i64 ((cntS sh t (H.take k) + 1 : Nat) : Int)) := by
  apply List.ext_getElem?
  intro i
  rw [List.getElem?_set, PerC_length]
  by_cases hi : i < sh
  · rw [PerC_get _ _ _ _ hi, PerC_get _ _ _ _ hi, cntS_take _ _ _ _ hk, ht]
    by_cases he : t = i
    · rw [if_pos he, if_pos htl, if_pos he, he]
    · rw [if_neg he, if_neg he]; rfl
  · rw [List.getElem?_eq_none (by rw [PerC_length]; omega), if_neg (by omega), List.getElem?_eq_none (by rw [PerC_length]; omega)]
theorem strPb : strB pbC = ⟨#[112, 105, 110, 110, 101, 100]⟩ := by kernel_rfl

set_option maxRecDepth 100000 in
set_option maxHeartbeats 8000000 in
theorem CKeeps_any {C : Cach} (X : CacheC C) (z1 z2 : Int) (hz1 : In64 z1) (hz2 : In64 z2) (l : List CDeed) (u : Value) (p : Int) (hp64 : In64 p) (w : World) (hL : CDeeds w u l) :
    Calls Try.prog 4 #[.int .i64 z1, .int .i64 z2, u, .int .i64 p] w fun e w' => e = .returned (.bool true) ∧ Below w.heap.size w w' := by
  have hLL := hL
  obtain ⟨B, cap2, rfl, -, -⟩ := hLL
  obtain ⟨m, hm⟩ : ∃ n, n = l.length := ⟨_, rfl⟩
  rw [← hm] at hL ⊢
  have HK := Lib.hid (Cknows_any X w)
  have HM := Lib.hid hm
  have HL := Lib.hid hL
  clear hm hL
  by_cases hg : (120 < m ∨ z1 < 1 ∨ 8 < z1 ∨ z2 < 1 ∨ 8 < z2 ∨ p < 0)
  · have HG := Lib.hid hg
    clear hg hz1 hz2
    rcases Nat.lt_or_ge 120 m with g1 | g1
    · go_enter Try.func4, Try.ntmps4
      go_wp2_with fail
      refine HK.out.mono ?_
      rintro e w1 ⟨rfl, hb⟩
      go_wp2
      go_ret
      exact ⟨rfl, hb⟩
    rcases Int.lt_or_le z1 1 with g2 | g2
    · go_enter Try.func4, Try.ntmps4
      go_wp2_with fail
      refine HK.out.mono ?_
      rintro e w1 ⟨rfl, hb⟩
      go_wp2
      go_ret
      exact ⟨rfl, hb⟩
    rcases Int.lt_or_le 8 z1 with g3 | g3
    · go_enter Try.func4, Try.ntmps4
      go_wp2_with fail
      refine HK.out.mono ?_
      rintro e w1 ⟨rfl, hb⟩
      go_wp2
      go_ret
      exact ⟨rfl, hb⟩
    rcases Int.lt_or_le z2 1 with g4 | g4
    · go_enter Try.func4, Try.ntmps4
      go_wp2_with fail
      refine HK.out.mono ?_
      rintro e w1 ⟨rfl, hb⟩
      go_wp2
      go_ret
      exact ⟨rfl, hb⟩
    rcases Int.lt_or_le 8 z2 with g5 | g5
    · go_enter Try.func4, Try.ntmps4
      go_wp2_with fail
      refine HK.out.mono ?_
      rintro e w1 ⟨rfl, hb⟩
      go_wp2
      go_ret
      exact ⟨rfl, hb⟩
    rcases Int.lt_or_le p 0 with g6 | g6
    · go_enter Try.func4, Try.ntmps4
      go_wp2_with fail
      refine HK.out.mono ?_
      rintro e w1 ⟨rfl, hb⟩
      go_wp2
      go_ret
      exact ⟨rfl, hb⟩
    have := HG.out
    omega
  obtain ⟨sh, rfl⟩ : ∃ n : Nat, z1 = (n : Int) := ⟨z1.toNat, by omega⟩
  obtain ⟨room, rfl⟩ : ∃ n : Nat, z2 = (n : Int) := ⟨z2.toNat, by omega⟩
  obtain ⟨pn, rfl⟩ : ∃ n : Nat, p = (n : Int) := ⟨p.toNat, by omega⟩
  have hm1 : m ≤ 120 := by omega
  have h1 : 1 ≤ sh := by omega
  have h2 : sh ≤ 8 := by omega
  have h3 : 1 ≤ room := by omega
  have h4 : room ≤ 8 := by omega
  have Hp : Hid (In64 (pn : Int)) := hp64
  clear hg hz1 hz2 HK hp64
  go_enter Try.func4, Try.ntmps4
  go_wp2_with fail
  refine (X.newOk sh room w ⟨h1, by omega⟩ ⟨h3, by omega⟩).mono ?_
  rintro e w1 ⟨D, F, rfl, hT, hF, hb⟩
  have HC : Hid (Below w.heap.size w w1) := hb
  have HF : Hid (∀ k, F k → w.heap.size ≤ k) := hF
  have HT : Hid (C w1 F D sh room 0 (new sh room)) := hT
  clear hb hF hT
  have hc1 := Joins.run_convert_bytes_const_at (P := Try.prog) w1 30 5 #[.int .u8 112, .int .u8 105, .int .u8 110, .int .u8 110, .int .u8 101, .int .u8 100] 6 6 w1.heap.size rfl Try.underlying30 Try.underlying5
  obtain ⟨w2, hw2⟩ : ∃ w2, w2 = w1.alloc (.cells #[.int .u8 112, .int .u8 105, .int .u8 110, .int .u8 110, .int .u8 101, .int .u8 100] 5 (6, 7)) := ⟨_, rfl⟩
  have hb2 : Below w1.heap.size w1 w2 := by rw [hw2]; exact (Below.refl _ _).alloc (Nat.le_refl _) _
  have HA : Hid (Arg w2 (.slice (some ⟨w1.heap.size, 0, none⟩) 6 6) pbC) := by
    refine .inr ⟨w1.heap.size, 0, 6, rfl, by rw [hw2]; simp, by decide, fun j u hu => ?_⟩
    rw [hw2, Nat.zero_add]
    refine (Joins.cell_alloc_mark_at w1 _ _ _ _ j rfl).trans ?_
    rw [List.getElem?_toArray]
    exact hu
  have hpf := put_first (i := (pn : Int)) (bs := pbC) h1 h3 (by omega)
  have hft := (put_fit (i := (pn : Int)) (bs := pbC) (Fit.new sh room h3) h1 h3).1
  obtain ⟨s1, hs1⟩ : ∃ s, s = put sh room (new sh room) (pn : Int) pbC := ⟨_, rfl⟩
  have HPut : Hid (Calls Try.prog 9 #[.pointer (some ⟨D, 0, none⟩), .int .i64 (pn : Int), .slice (some ⟨w1.heap.size, 0, none⟩) 6 6] w2 fun e w' => e = .returned (.bool true) ∧ AfterC C w2 F w' D sh room 0 s1.1) := by
    have := X.put (X.stay HT.out (Chg.below hb2 fun _ _ => False) fun _ _ _ x => x) (by omega) (pn : Int) _ pbC Hp.out (by decide) HA.out
    rw [hpf.1, ← hs1] at this
    exact this
  rw [← hs1] at hpf hft
  obtain ⟨kp, hkp, hke⟩ := hpf.2
  obtain ⟨hq1, hq2, hq3⟩ := pin_first hft hkp hke rfl
  obtain ⟨s2, hs2⟩ : ∃ s, s = pin s1.1 (pn : Int) := ⟨_, rfl⟩
  rw [← hs2] at hq1 hq2 hq3
  have HPin : Hid (∀ (F : Nat → Prop) W, C W F D sh room 0 s1.1 → Calls Try.prog 13 #[.pointer (some ⟨D, 0, none⟩), .int .i64 (pn : Int)] W fun e w' => e = .returned (.bool true) ∧ AfterC C W F w' D sh room 1 s2.1) := fun F W h => by
    have := X.pin h (by omega) (pn : Int) Hp.out
    rw [← hs2, hq1] at this
    exact this
  have HFit : Hid (Fit sh room s2.1) := hq2
  have HPd : Hid (Held1 s2.1 (pn : Int) pbC) := hq3
  replace HC := Lib.hid (HC.out.trans (hb2.mono HC.out.size))
  clear hb2 hpf hft hs1 hkp hke hq1 hq2 hq3 hs2 HT HA
  go_wp2_with fail
  rw [← hw2]
  clear hc1
  refine HPut.out.mono ?_
  rintro e w3 ⟨rfl, haf⟩
  obtain ⟨F3, hT3, hF3, hb⟩ := AfterC.below haf HF.out HC.out.size
  replace HC := Lib.hid (HC.out.trans hb)
  have HT : Hid (C w3 F3 D sh room 0 s1.1) := hT3
  replace HF : Hid (∀ k, F3 k → w.heap.size ≤ k) := hF3
  clear hb haf hT3 hF3 HPut hw2
  go_wp2_with fail
  refine (HPin.out _ _ HT.out).mono ?_
  rintro e w4 ⟨rfl, haf⟩
  obtain ⟨F4, hT4, hF4, hb⟩ := AfterC.below haf HF.out HC.out.size
  have HQ : Hid (KpC C w w4 D sh room 1 s2.1 (pn : Int) pbC) := ⟨F4, hT4, hF4, HFit.out, HPd.out, HC.out.trans hb⟩
  obtain ⟨s3, hs3⟩ : ∃ s, s = s2.1 := ⟨_, rfl⟩
  rw [← hs3] at HQ
  clear hb haf hT4 hF4 HPin HT HF HC HFit HPd hs3
  go_wp2
  go_loopw [11] (fun i wr => ∃ (k q : Nat) (s : St), k ≤ m ∧ i = .int .i64 (k : Int) ∧ q ≤ k + 1 ∧ Hid (KpC C w wr D sh room q s (pn : Int) pbC)) (fun i _ => m - (intOf i).toNat)
  case atStart => exact ⟨0, 1, s3, by omega, rfl, by omega, HQ⟩
  case round =>
    obtain ⟨k, q, s, hk, rfl, hq, HQ2⟩ := hrel
    clear HQ
    by_cases hlt : k < m
    · obtain ⟨b, o, d, rfl, hb, hd, hok, hcell⟩ := HL.out.at_ hlt
      obtain ⟨dw, di, dv, bs⟩ := d
      obtain ⟨Ab, cb, hvb⟩ := hok.arg.form
      obtain ⟨nb, hnb⟩ : ∃ nb, nb = bs.length := ⟨_, rfl⟩
      dsimp only at hvb
      rw [← hnb] at hvb
      subst hvb
      have Hnb := Lib.hid hnb
      have HOk : Hid (Arg w (.slice Ab nb cb) bs ∧ In64 di) := ⟨hok.arg, hok.at_⟩
      have HSk : Hid (∀ X, Below w.heap.size w X → X.cell? ⟨b, o + k * 3 + 1, none⟩ = some (.int .i64 di) ∧ X.cell? ⟨b, o + k * 3 + 2, none⟩ = some (.slice Ab nb cb)) := fun X hX => (hcell X hX).2
      obtain ⟨r1, r2⟩ := HSk.out wr HQ2.out.bel
      have hlt' : (k : Int) < (m : Int) := by omega
      clear hcell hok hd hnb
      by_cases hskip : di = (pn : Int) ∨ 100 < nb
      · have HSp := Lib.hid hskip
        clear hskip
        by_cases hs0 : di = (pn : Int)
        · subst hs0
          go_wp2
          go_roundw
          case rel => exact ⟨k + 1, q, s, by omega, by go_num, by omega, HQ2⟩
          case measure => rw [iO10, show intOf (.int .i64 (k : Int)) = (k : Int) from rfl]; omega
        · have hs1 : 100 < nb := HSp.out.resolve_left hs0
          go_wp2
          go_roundw
          case rel => exact ⟨k + 1, q, s, by omega, by go_num, by omega, HQ2⟩
          case measure => rw [iO10, show intOf (.int .i64 (k : Int)) = (k : Int) from rfl]; omega
      have hne : di ≠ (pn : Int) := fun e => hskip (.inl e)
      have hnb1 : nb ≤ 100 := by omega
      have hbq : (di == (pn : Int)) = false := by simpa using hne
      have hnbi : (nb : Int) ≤ 100 := by omega
      clear hskip r1 r2
      have r1 := (HSk.out wr HQ2.out.bel).1
      have r2 := (HSk.out wr HQ2.out.bel).2
      have hpg := put_get HQ2.out.fit h1 h3 di bs
      obtain ⟨rr, hrr⟩ : ∃ r, r = put sh room s di bs := ⟨_, rfl⟩
      have HPut : Hid (∀ W, KpC C w W D sh room q s (pn : Int) pbC → Calls Try.prog 9 #[.pointer (some ⟨D, 0, none⟩), .int .i64 di, .slice Ab nb cb] W fun e w' => e = .returned (.bool rr.2) ∧ KpC C w w' D sh room q rr.1 (pn : Int) pbC) := fun W h => by
        rw [hrr]
        exact h.put X h1 h3 (by omega) di _ bs HOk.out.2 (fun e => hne e.symm) (by rw [← Hnb.out]; omega) (HOk.out.1.below h.bel)
      rw [← hrr] at hpg
      clear hrr
      obtain ⟨s4, ok⟩ := rr
      dsimp only at hpg HPut
      obtain ⟨hg1, hg2⟩ := hpg
      obtain ⟨gg, hgg⟩ : ∃ g, g = getC s4 di := ⟨_, rfl⟩
      have HGet : Hid (∀ W, KpC C w W D sh room q s4 (pn : Int) pbC → Calls Try.prog 11 #[.pointer (some ⟨D, 0, none⟩), .int .i64 di] W fun e w' => ∃ v, e = .returned (.tuple #[v, .bool ok]) ∧ Own w' W.heap.size 5 v (gg.2.1.map V8) ∧ KpC C w w' D sh room (q + 1) gg.1 (pn : Int) pbC) := fun W h => by
        have := h.get X (by omega) di HOk.out.2
        rw [hg1, ← hgg] at this
        exact this
      rw [← hgg] at hg2
      have Hg2 := Lib.hid hg2
      clear hg1 hg2 hgg
      obtain ⟨s5, bb, wz⟩ := gg
      dsimp only at HGet Hg2
      go_wp2_with fail
      clear r1 r2
      have HBd : Hid (Below w.heap.size w wr.drew) := below_drewN HQ2.out.bel 1
      refine wp_region_held_drew (S := (fun X => X.cell? ⟨b, o + k * 3 + 1, none⟩ = some (.int .i64 di) ∧ X.cell? ⟨b, o + k * 3 + 2, none⟩ = some (.slice Ab nb cb))) (by kernel_rfl) (HSk.out _ HBd.out) (fun hHeld => ?_)
      have HQd : Hid (KpC C w wr.drew D sh room q s (pn : Int) pbC) := HQ2.out.still X (below_drewN (Below.refl _ _) 1)
      generalize wr.drew = wd at *
      refine wpAnyH_take (i := 0) (oi := ⟨some 90, _, _, _, _, _⟩) (v := ?_) rfl (by kernel_rfl) (by kernel_rfl) (by kernel_rfl) (fun _ _ _ h => h) (Or.inl ⟨by rfl, ?_⟩) hHeld ?_
      rotate_left
      · intro w hSw
        go_simp
        with_reducible rfl
      try go_frame
      refine wpAnyH_take (i := 1) (oi := ⟨some 91, _, _, _, _, _⟩) (v := ?_) rfl (by kernel_rfl) (by kernel_rfl) (by kernel_rfl) (fun _ _ _ h => h) (Or.inl ⟨by rfl, ?_⟩) hHeld ?_
      rotate_left
      · intro w hSw
        go_simp
        with_reducible rfl
      try go_frame
      refine wpAnyH_take (i := 2) (oi := ⟨some 92, _, _, _, _, _⟩) (v := ?_) rfl (by kernel_rfl) (by kernel_rfl) (by kernel_rfl) (fun _ _ _ h => h) (Or.inl ⟨by rfl, ?_⟩) hHeld ?_
      rotate_left
      · intro w hSw
        go_simp
        with_reducible rfl
      try go_frame
      refine wpAnyH_take (i := 3) (oi := ⟨some 93, _, _, _, _, _⟩) (v := ?_) rfl (by kernel_rfl) (by kernel_rfl) (by kernel_rfl) (fun _ _ _ h => h) (Or.inl ⟨by rfl, ?_⟩) hHeld ?_
      rotate_left
      · intro w hSw
        go_simp
        with_reducible rfl
      try go_frame
      refine wpAnyH_take (i := 4) (oi := ⟨some 94, _, _, _, _, _⟩) (v := ?_) rfl (by kernel_rfl) (by kernel_rfl) (by kernel_rfl) (fun _ _ _ h => h) (Or.inl ⟨by rfl, ?_⟩) hHeld ?_
      rotate_left
      · intro w hSw
        go_simp
        with_reducible rfl
      try go_frame
      refine wpAnyH_take (i := 5) (oi := ⟨some 95, _, _, _, _, _⟩) (v := ?_) rfl (by kernel_rfl) (by kernel_rfl) (by kernel_rfl) (fun _ _ _ h => h) (Or.inl ⟨by rfl, ?_⟩) hHeld ?_
      rotate_left
      · intro w hSw
        have hc := hSw.1
        go_simp
        with_reducible rfl
      try go_frame
      refine wpAnyH_take (i := 6) (oi := ⟨some 96, _, _, _, _, _⟩) (v := ?_) rfl (by kernel_rfl) (by kernel_rfl) (by kernel_rfl) (fun _ _ _ h => h) (Or.inl ⟨by rfl, ?_⟩) hHeld ?_
      rotate_left
      · intro w hSw
        go_simp
        with_reducible rfl
      try go_frame
      refine wpAnyH_take (i := 7) (oi := ⟨some 97, _, _, _, _, _⟩) (v := ?_) rfl (by kernel_rfl) (by kernel_rfl) (by kernel_rfl) (fun _ _ _ h => h) (Or.inl ⟨by rfl, ?_⟩) hHeld ?_
      rotate_left
      · intro w hSw
        go_simp
        with_reducible rfl
      try go_frame
      refine wpAnyH_take (i := 8) (oi := ⟨some 98, _, _, _, _, _⟩) (v := ?_) rfl (by kernel_rfl) (by kernel_rfl) (by kernel_rfl) (fun _ _ _ h => h) (Or.inl ⟨by rfl, ?_⟩) hHeld ?_
      rotate_left
      · intro w hSw
        go_simp
        with_reducible rfl
      try go_frame
      refine wpAnyH_take (i := 9) (oi := ⟨some 99, _, _, _, _, _⟩) (v := ?_) rfl (by kernel_rfl) (by kernel_rfl) (by kernel_rfl) (fun _ _ _ h => h) (Or.inl ⟨by rfl, ?_⟩) hHeld ?_
      rotate_left
      · intro w hSw
        go_simp
        with_reducible rfl
      try go_frame
      refine wpAnyH_take (i := 10) (oi := ⟨some 100, _, _, _, _, _⟩) (v := ?_) rfl (by kernel_rfl) (by kernel_rfl) (by kernel_rfl) (fun _ _ _ h => h) (Or.inl ⟨by rfl, ?_⟩) hHeld ?_
      rotate_left
      · intro w hSw
        have hc := hSw.2
        go_simp
        with_reducible rfl
      try go_frame
      refine wpAnyH_ready (rs := [11]) (by kernel_rfl) (by simp) ?_
      refine AllReadyH.cons (o := ⟨some 101, _, _, _, _, _⟩) rfl (fun K hK => ?_) AllReadyH.nil
      go_simp
      go_at_call 9
      refine (HPut.out _ HQd.out).mono ?_
      rintro e w3 ⟨rfl, hQ3⟩
      have HQ3 : Hid (KpC C w w3 D sh room q s4 (pn : Int) pbC) := hQ3
      have HBc : Hid (Below w.heap.size w w3) := hQ3.bel
      clear hQ3
      refine hK.out _ _ (HSk.out _ HBc.out) (fun hHeld => ?_)
      clear hK K
      try go_frame
      refine wpAnyH_take (i := 12) (oi := ⟨some 12, _, _, _, _, _⟩) (v := ?_) rfl (by kernel_rfl) (by kernel_rfl) (by kernel_rfl) (fun _ _ _ h => h) (Or.inl ⟨by rfl, ?_⟩) hHeld ?_
      rotate_left
      · intro w hSw
        go_simp
        with_reducible rfl
      try go_frame
      refine wpAnyH_done (by kernel_rfl) ?_ _
      clear hHeld HBd HQd HPut
      have r1 := (HSk.out _ HBc.out).1
      go_wp2_with fail
      refine (HGet.out _ HQ3.out).mono ?_
      rintro e w5 ⟨v, rfl, hO, hQ5⟩
      have HQ5 : Hid (KpC C w w5 D sh room (q + 1) s5 (pn : Int) pbC) := hQ5
      have HAv : Hid (Arg w5 v bb) := Own.arg hO
      clear hQ5 hO r1 HGet HBc HQ3
      obtain ⟨Av, cv, hv⟩ := HAv.out.form
      obtain ⟨nv, hnv⟩ : ∃ n, n = bb.length := ⟨_, rfl⟩
      rw [← hnv] at hv
      subst hv
      clear hnv
      have r2 := (HSk.out _ HQ5.out.bel).2
      go_wp2_with fail
      cases ok with
      | false =>
        as_aux_lemma =>
          have HKeep : Hid (∀ X, Below w5.heap.size w5 X → True) := fun _ _ => trivial
          have hC : Below w5.heap.size w5 w5.drew := below_drewN (Below.refl _ _) 1
          refine wp_region_held_drew (S := (fun _ => True)) (by kernel_rfl) (HKeep.out _ hC) (fun hHeld => ?_)
          generalize w5.drew = w5d at *
          refine wpAnyH_take (i := 0) (oi := ⟨some 112, _, _, _, _, _⟩) (v := ?_) rfl (by kernel_rfl) (by kernel_rfl) (by kernel_rfl) (fun _ _ _ h => h) (Or.inl ⟨by rfl, ?_⟩) hHeld ?_
          rotate_left
          · intro w hSw
            go_simp
            with_reducible rfl
          try go_frame
          refine wpAnyH_take (i := 1) (oi := ⟨some 113, _, _, _, _, _⟩) (v := ?_) rfl (by kernel_rfl) (by kernel_rfl) (by kernel_rfl) (fun _ _ _ h => h) (Or.inl ⟨by rfl, ?_⟩) hHeld ?_
          rotate_left
          · intro w hSw
            go_simp
            with_reducible rfl
          try go_frame
          refine wpAnyH_take (i := 2) (oi := ⟨some 114, _, _, _, _, _⟩) (v := ?_) rfl (by kernel_rfl) (by kernel_rfl) (by kernel_rfl) (fun _ _ _ h => h) (Or.inl ⟨by rfl, ?_⟩) hHeld ?_
          rotate_left
          · intro w hSw
            go_simp
            with_reducible rfl
          try go_frame
          refine wpAnyH_take (i := 3) (oi := ⟨some 115, _, _, _, _, _⟩) (v := ?_) rfl (by kernel_rfl) (by kernel_rfl) (by kernel_rfl) (fun _ _ _ h => h) (Or.inl ⟨by rfl, ?_⟩) hHeld ?_
          rotate_left
          · intro w hSw
            go_simp
            with_reducible rfl
          try go_frame
          refine wpAnyH_take (i := 4) (oi := ⟨some 116, _, _, _, _, _⟩) (v := ?_) rfl (by kernel_rfl) (by kernel_rfl) (by kernel_rfl) (fun _ _ _ h => h) (Or.inl ⟨by rfl, ?_⟩) hHeld ?_
          rotate_left
          · intro w hSw
            go_simp
            with_reducible rfl
          try go_frame
          refine wpAnyH_take (i := 5) (oi := ⟨some 117, _, _, _, _, _⟩) (v := ?_) rfl (by kernel_rfl) (by kernel_rfl) (by kernel_rfl) (fun _ _ _ h => h) (Or.inl ⟨by rfl, ?_⟩) hHeld ?_
          rotate_left
          · intro w hSw
            go_simp
            with_reducible rfl
          try go_frame
          refine wpAnyH_take (i := 6) (oi := ⟨some 118, _, _, _, _, _⟩) (v := undef) rfl (by kernel_rfl) (by kernel_rfl) (by kernel_rfl) (fun _ _ _ h => h) (Or.inr ⟨by rfl, rfl⟩) hHeld ?_
          try go_frame
          refine wpAnyH_take (i := 7) (oi := ⟨some 119, _, _, _, _, _⟩) (v := undef) rfl (by kernel_rfl) (by kernel_rfl) (by kernel_rfl) (fun _ _ _ h => h) (Or.inr ⟨by rfl, rfl⟩) hHeld ?_
          try go_frame
          refine wpAnyH_take (i := 8) (oi := ⟨some 120, _, _, _, _, _⟩) (v := undef) rfl (by kernel_rfl) (by kernel_rfl) (by kernel_rfl) (fun _ _ _ h => h) (Or.inr ⟨by rfl, rfl⟩) hHeld ?_
          try go_frame
          refine wpAnyH_take (i := 9) (oi := ⟨some 121, _, _, _, _, _⟩) (v := undef) rfl (by kernel_rfl) (by kernel_rfl) (by kernel_rfl) (fun _ _ _ h => h) (Or.inr ⟨by rfl, rfl⟩) hHeld ?_
          try go_frame
          refine wpAnyH_take (i := 10) (oi := ⟨some 122, _, _, _, _, _⟩) (v := undef) rfl (by kernel_rfl) (by kernel_rfl) (by kernel_rfl) (fun _ _ _ h => h) (Or.inr ⟨by rfl, rfl⟩) hHeld ?_
          try go_frame
          refine wpAnyH_take (i := 11) (oi := ⟨some 123, _, _, _, _, _⟩) (v := undef) rfl (by kernel_rfl) (by kernel_rfl) (by kernel_rfl) (fun _ _ _ h => h) (Or.inr ⟨by rfl, rfl⟩) hHeld ?_
          try go_frame
          refine wpAnyH_take (i := 12) (oi := ⟨some 124, _, _, _, _, _⟩) (v := undef) rfl (by kernel_rfl) (by kernel_rfl) (by kernel_rfl) (fun _ _ _ h => h) (Or.inr ⟨by rfl, rfl⟩) hHeld ?_
          try go_frame
          refine wpAnyH_take (i := 13) (oi := ⟨some 125, _, _, _, _, _⟩) (v := undef) rfl (by kernel_rfl) (by kernel_rfl) (by kernel_rfl) (fun _ _ _ h => h) (Or.inr ⟨by rfl, rfl⟩) hHeld ?_
          try go_frame
          refine wpAnyH_take (i := 14) (oi := ⟨some 126, _, _, _, _, _⟩) (v := undef) rfl (by kernel_rfl) (by kernel_rfl) (by kernel_rfl) (fun _ _ _ h => h) (Or.inr ⟨by rfl, rfl⟩) hHeld ?_
          try go_frame
          refine wpAnyH_take (i := 15) (oi := ⟨some 127, _, _, _, _, _⟩) (v := ?_) rfl (by kernel_rfl) (by kernel_rfl) (by kernel_rfl) (fun _ _ _ h => h) (Or.inl ⟨by rfl, ?_⟩) hHeld ?_
          rotate_left
          · intro w hSw
            go_simp
            with_reducible rfl
          try go_frame
          refine wpAnyH_take (i := 16) (oi := ⟨some 128, _, _, _, _, _⟩) (v := ?_) rfl (by kernel_rfl) (by kernel_rfl) (by kernel_rfl) (fun _ _ _ h => h) (Or.inl ⟨by rfl, ?_⟩) hHeld ?_
          rotate_left
          · intro w hSw
            go_simp
            with_reducible rfl
          try go_frame
          refine wpAnyH_done (by kernel_rfl) ?_ _
          have HQ6 : Hid (KpC C w w5d D sh room (q + 1) s5 (pn : Int) pbC) := HQ5.out.still X hC
          clear hHeld HKeep hC HQ5 HAv r2
          generalize w5d = w6 at *
          go_wp2_with fail
          refine (HQ6.out.has X).mono ?_
          rintro e w7 ⟨vh, rfl, hOh, hQ7⟩
          have HQ7 : Hid (KpC C w w7 D sh room (q + 1) s5 (pn : Int) pbC) := hQ7
          obtain ⟨H, hH⟩ : ∃ l, l = hasL s5.L := ⟨_, rfl⟩
          rw [← hH] at hOh
          have HFit : Hid ((∀ x ∈ H, 0 ≤ x) ∧ (∀ t, cntS sh t H ≤ room) ∧ H.length ≤ 64) := by
            rw [hH]
            refine ⟨(has_fit HQ7.out.fit 0).1, fun t => (has_fit HQ7.out.fit t).2.1, Nat.le_trans (has_fit HQ7.out.fit 0).2.2 (Nat.mul_le_mul h2 h4)⟩
          obtain ⟨Ah, ch, hvh, hsh⟩ := (Own.from_ hOh.out).partsC
          rw [List.length_map] at hvh hsh
          obtain ⟨nh, hnh⟩ : ∃ n, n = H.length := ⟨_, rfl⟩
          rw [← hnh] at hvh hsh
          subst hvh
          have Hnh := Lib.hid hnh
          have hnh64 : nh ≤ 64 := by rw [hnh]; exact HFit.out.2.2
          have HSh := Lib.hid hsh
          clear hOh hQ7 hH hsh hnh HQ6
          have hmk := madeI10 sh (by omega) w7
          obtain ⟨gp, hgp⟩ : ∃ g, g = w7.heap.size := ⟨_, rfl⟩
          obtain ⟨w8, hw8⟩ : ∃ W, W = w7.alloc (.cells (List.replicate sh (Value.int .i64 0)).toArray 3) := ⟨_, rfl⟩
          have HP0 : Hid (Below gp w7 w8 ∧ Here w8 gp 0 (PerC sh H 0)) := by
            rw [PerC_zero, hw8, hgp]
            exact ⟨(Below.refl _ _).alloc (Nat.le_refl _) _, (Row.new w7 3 _).here⟩
          rw [← hw8, ← hgp] at hmk
          have Hgp : Hid (gp = w7.heap.size) := hgp
          clear hw8 hgp
          go_wp2
          clear hmk
          go_loopw [17] (fun jj wr => ∃ j : Nat, j ≤ nh ∧ jj = .int .i64 (j : Int) ∧ Hid (Below gp w7 wr ∧ Here wr gp 0 (PerC sh H j))) (fun jj _ => nh - (intOf jj).toNat)
          case atStart => exact ⟨0, by omega, rfl, HP0⟩
          case round =>
            obtain ⟨j, hj, rfl, HI⟩ := hrel
            clear HP0
            by_cases hlt2 : j < nh
            · obtain ⟨g7, o7, rfl, hg7, hsee⟩ := HSh.out (by omega)
              have hjl : j < H.length := by rw [← Hnh.out]; exact hlt2
              have hbw : Below w7.heap.size w7 wr := by rw [← Hgp.out]; exact HI.out.1
              have e7 := atC (hsee.below hbw hg7) j hjl
              have hx0 : 0 ≤ H.getD j 0 := by rw [List.getD_eq_getElem?_getD, List.getElem?_eq_getElem hjl]; exact HFit.out.1 _ (List.getElem_mem _)
              obtain ⟨y, hy⟩ : ∃ y : Nat, H.getD j 0 = (y : Int) := ⟨(H.getD j 0).toNat, by omega⟩
              obtain ⟨t, ht⟩ : ∃ t, t = y % sh := ⟨_, rfl⟩
              have htl : t < sh := by rw [ht]; exact Nat.mod_lt _ h1
              have hrem : Int.tmod (y : Int) (sh : Int) = (t : Int) := by rw [ht, Int.ofNat_tmod]
              have hstep := PerC_step sh H j t hjl (by rw [hy, ht]; rfl) htl
              obtain ⟨c, hc⟩ : ∃ c, c = cntS sh t (H.take j) := ⟨_, rfl⟩
              have hc1 : c + 1 ≤ room := by
                have h1 := cntS_le sh t H (j + 1)
                rw [cntS_take _ _ _ _ hjl, if_pos (by rw [hy, ht]; rfl), ← hc] at h1
                exact Nat.le_trans h1 (HFit.out.2.1 t)
              have ep : wr.cell? ⟨gp, t, none⟩ = some (.int .i64 (c : Int)) := by rw [hc]; exact HI.out.2.head (PerC_get _ _ _ _ htl)
              have fp : wr.frozen? ⟨gp, t, none⟩ = false := HI.out.2.headFree (by rw [PerC_length]; exact htl)
              have HIn : Hid (Below gp w7 (wr.drew.setCell ⟨gp, t, none⟩ (.int .i64 ((c : Int) + 1))) ∧ Here (wr.drew.setCell ⟨gp, t, none⟩ (.int .i64 ((c : Int) + 1))) gp 0 (PerC sh H (j + 1))) := by
                refine ⟨(HI.out.1.drew).setCell (p := ⟨gp, t, none⟩) (Nat.le_refl _) _, ?_⟩
                have h4 : Here wr.drew gp 0 (PerC sh H j) := HI.out.2
                have := h4.put t (by rw [PerC_length]; exact htl) (.int .i64 ((c + 1 : Nat) : Int))
                rw [Nat.zero_add] at this
                rw [hstep, ← hc]
                exact this
              rw [hy] at e7
              have hgne : gp ≠ g7 := by have := Hgp.out; omega
              have e8 : (wr.drew.setCell ⟨gp, t, none⟩ (.int .i64 ((c : Int) + 1))).cell? ⟨g7, o7 + j, none⟩ = some (.int .i64 (y : Int)) := by
                rw [World.cell?_of_block (w := w7) (HIn.out.1.block g7 (by rw [Hgp.out]; exact hg7))]
                exact (atC hsee j hjl).trans (by rw [hy])
              have e9 : (wr.drew.setCell ⟨gp, t, none⟩ (.int .i64 ((c : Int) + 1))).cell? ⟨gp, t, none⟩ = some (.int .i64 ((c : Int) + 1)) := by
                have := HIn.out.2.head (PerC_get sh H (j + 1) t htl)
                rw [cntS_take _ _ _ _ hjl, if_pos (by rw [hy, ht]; rfl), ← hc] at this
                exact this
              have HE8 := Lib.hid e8
              have HE9 := Lib.hid e9
              clear hx0 hy ht hstep hc hsee HI hbw hjl e8 e9 hg7
              have hjlt : (j : Int) < (nh : Int) := by omega
              have htli : (t : Int) < (sh : Int) := by omega
              have hsh0 : ¬ sh = 0 := by omega
              have hcr : (c : Int) + 1 ≤ (room : Int) := by omega
              have hsum : IntKind.i64.wrap ((c : Int) + 1) = (c : Int) + 1 := IntWalk.i64_in _ (by omega)
              go_wp2
              refine wp_region_still_tail 18 (by kernel_rfl) (by kernel_rfl) ?_
              simp only [List.take_succ_cons, List.take_zero, List.drop_succ_cons, List.drop_zero]
              repeat still_step
              refine wpStill_nil ?_
              change wpList _ _ _ _ _ wr.drew
              have e8 := HE8.out
              have e9 := HE9.out
              clear HE8 HE9
              go_wp2
              go_roundw
              case rel => exact ⟨j + 1, by omega, by go_num, HIn⟩
              case measure => rw [iO10, show intOf (.int .i64 (j : Int)) = (j : Int) from rfl]; omega
            · obtain rfl : j = nh := by omega
              have HQ9 : Hid (KpC C w wr D sh room (q + 1) s5 (pn : Int) pbC) := HQ7.out.still X (by rw [← Hgp.out]; exact HI.out.1)
              clear HI HQ7 HFit HSh
              go_wp2
              go_roundw
              case rel => exact ⟨k + 1, q + 1, s5, by omega, by go_num, by omega, HQ9⟩
              case measure => rw [iO10, show intOf (.int .i64 (k : Int)) = (k : Int) from rfl]; omega
      | true =>
        as_aux_lemma =>
          obtain rfl : bb = bs := Hg2.out rfl
          obtain ⟨sb, hsb⟩ : ∃ x, x = strB bb := ⟨_, rfl⟩
          have HKeep : Hid (∀ X, Below w5.heap.size w5 X → X.cell? ⟨b, o + k * 3 + 2, none⟩ = some (.slice Ab nb cb) ∧ (convert 30 9 (.slice Av nv cv)).run Try.prog X = .ok (.string sb) X ∧ (convert 30 9 (.slice Ab nb cb)).run Try.prog X = .ok (.string sb) X) := fun X hX => by
            have hbw := HQ5.out.bel.trans (hX.mono HQ5.out.bel.size)
            rw [hsb]
            exact ⟨(HSk.out _ hbw).2, conv_arg (HAv.out.below hX), conv_arg (HOk.out.1.below hbw)⟩
          clear hsb
          have hC : Below w5.heap.size w5 w5.drew := below_drewN (Below.refl _ _) 1
          refine wp_region_held_drew (S := (fun X => X.cell? ⟨b, o + k * 3 + 2, none⟩ = some (.slice Ab nb cb) ∧ (convert 30 9 (.slice Av nv cv)).run Try.prog X = .ok (.string sb) X ∧ (convert 30 9 (.slice Ab nb cb)).run Try.prog X = .ok (.string sb) X)) (by kernel_rfl) (HKeep.out _ hC) (fun hHeld => ?_)
          generalize w5.drew = w5d at *
          refine wpAnyH_take (i := 0) (oi := ⟨some 112, _, _, _, _, _⟩) (v := ?_) rfl (by kernel_rfl) (by kernel_rfl) (by kernel_rfl) (fun _ _ _ h => h) (Or.inl ⟨by rfl, ?_⟩) hHeld ?_
          rotate_left
          · intro w hSw
            go_simp
            with_reducible rfl
          try go_frame
          refine wpAnyH_take (i := 1) (oi := ⟨some 113, _, _, _, _, _⟩) (v := ?_) rfl (by kernel_rfl) (by kernel_rfl) (by kernel_rfl) (fun _ _ _ h => h) (Or.inl ⟨by rfl, ?_⟩) hHeld ?_
          rotate_left
          · intro w hSw
            go_simp
            with_reducible rfl
          try go_frame
          refine wpAnyH_take (i := 2) (oi := ⟨some 114, _, _, _, _, _⟩) (v := ?_) rfl (by kernel_rfl) (by kernel_rfl) (by kernel_rfl) (fun _ _ _ h => h) (Or.inl ⟨by rfl, ?_⟩) hHeld ?_
          rotate_left
          · intro w hSw
            go_simp
            with_reducible rfl
          try go_frame
          refine wpAnyH_take (i := 3) (oi := ⟨some 115, _, _, _, _, _⟩) (v := ?_) rfl (by kernel_rfl) (by kernel_rfl) (by kernel_rfl) (fun _ _ _ h => h) (Or.inl ⟨by rfl, ?_⟩) hHeld ?_
          rotate_left
          · intro w hSw
            go_simp
            with_reducible rfl
          try go_frame
          refine wpAnyH_take (i := 4) (oi := ⟨some 116, _, _, _, _, _⟩) (v := ?_) rfl (by kernel_rfl) (by kernel_rfl) (by kernel_rfl) (fun _ _ _ h => h) (Or.inl ⟨by rfl, ?_⟩) hHeld ?_
          rotate_left
          · intro w hSw
            go_simp
            with_reducible rfl
          try go_frame
          refine wpAnyH_take (i := 5) (oi := ⟨some 117, _, _, _, _, _⟩) (v := ?_) rfl (by kernel_rfl) (by kernel_rfl) (by kernel_rfl) (fun _ _ _ h => h) (Or.inl ⟨by rfl, ?_⟩) hHeld ?_
          rotate_left
          · intro w hSw
            go_simp
            with_reducible rfl
          try go_frame
          refine wpAnyH_take (i := 6) (oi := ⟨some 118, _, _, _, _, _⟩) (v := ?_) rfl (by kernel_rfl) (by kernel_rfl) (by kernel_rfl) (fun _ _ _ h => h) (Or.inl ⟨by rfl, ?_⟩) hHeld ?_
          rotate_left
          · intro w hSw
            go_simp
            with_reducible rfl
          try go_frame
          refine wpAnyH_take (i := 7) (oi := ⟨some 119, _, _, _, _, _⟩) (v := ?_) rfl (by kernel_rfl) (by kernel_rfl) (by kernel_rfl) (fun _ _ _ h => h) (Or.inl ⟨by rfl, ?_⟩) hHeld ?_
          rotate_left
          · intro w hSw
            have hc := hSw.2.1
            go_simp
            with_reducible rfl
          try go_frame
          refine wpAnyH_take (i := 8) (oi := ⟨some 120, _, _, _, _, _⟩) (v := ?_) rfl (by kernel_rfl) (by kernel_rfl) (by kernel_rfl) (fun _ _ _ h => h) (Or.inl ⟨by rfl, ?_⟩) hHeld ?_
          rotate_left
          · intro w hSw
            go_simp
            with_reducible rfl
          try go_frame
          refine wpAnyH_take (i := 9) (oi := ⟨some 121, _, _, _, _, _⟩) (v := ?_) rfl (by kernel_rfl) (by kernel_rfl) (by kernel_rfl) (fun _ _ _ h => h) (Or.inl ⟨by rfl, ?_⟩) hHeld ?_
          rotate_left
          · intro w hSw
            go_simp
            with_reducible rfl
          try go_frame
          refine wpAnyH_take (i := 10) (oi := ⟨some 122, _, _, _, _, _⟩) (v := ?_) rfl (by kernel_rfl) (by kernel_rfl) (by kernel_rfl) (fun _ _ _ h => h) (Or.inl ⟨by rfl, ?_⟩) hHeld ?_
          rotate_left
          · intro w hSw
            go_simp
            with_reducible rfl
          try go_frame
          refine wpAnyH_take (i := 11) (oi := ⟨some 123, _, _, _, _, _⟩) (v := ?_) rfl (by kernel_rfl) (by kernel_rfl) (by kernel_rfl) (fun _ _ _ h => h) (Or.inl ⟨by rfl, ?_⟩) hHeld ?_
          rotate_left
          · intro w hSw
            go_simp
            with_reducible rfl
          try go_frame
          refine wpAnyH_take (i := 12) (oi := ⟨some 124, _, _, _, _, _⟩) (v := ?_) rfl (by kernel_rfl) (by kernel_rfl) (by kernel_rfl) (fun _ _ _ h => h) (Or.inl ⟨by rfl, ?_⟩) hHeld ?_
          rotate_left
          · intro w hSw
            have hc := hSw.1
            go_simp
            with_reducible rfl
          try go_frame
          refine wpAnyH_take (i := 13) (oi := ⟨some 125, _, _, _, _, _⟩) (v := ?_) rfl (by kernel_rfl) (by kernel_rfl) (by kernel_rfl) (fun _ _ _ h => h) (Or.inl ⟨by rfl, ?_⟩) hHeld ?_
          rotate_left
          · intro w hSw
            have hc := hSw.2.2
            go_simp
            with_reducible rfl
          try go_frame
          refine wpAnyH_take (i := 14) (oi := ⟨some 126, _, _, _, _, _⟩) (v := ?_) rfl (by kernel_rfl) (by kernel_rfl) (by kernel_rfl) (fun _ _ _ h => h) (Or.inl ⟨by rfl, ?_⟩) hHeld ?_
          rotate_left
          · intro w hSw
            go_simp
            with_reducible rfl
          try go_frame
          refine wpAnyH_take (i := 15) (oi := ⟨some 127, _, _, _, _, _⟩) (v := ?_) rfl (by kernel_rfl) (by kernel_rfl) (by kernel_rfl) (fun _ _ _ h => h) (Or.inl ⟨by rfl, ?_⟩) hHeld ?_
          rotate_left
          · intro w hSw
            go_simp
            with_reducible rfl
          try go_frame
          refine wpAnyH_take (i := 16) (oi := ⟨some 128, _, _, _, _, _⟩) (v := ?_) rfl (by kernel_rfl) (by kernel_rfl) (by kernel_rfl) (fun _ _ _ h => h) (Or.inl ⟨by rfl, ?_⟩) hHeld ?_
          rotate_left
          · intro w hSw
            go_simp
            with_reducible rfl
          try go_frame
          refine wpAnyH_done (by kernel_rfl) ?_ _
          have HQ6 : Hid (KpC C w w5d D sh room (q + 1) s5 (pn : Int) pbC) := HQ5.out.still X hC
          clear hHeld HKeep hC HQ5 HAv r2
          generalize w5d = w6 at *
          go_wp2_with fail
          refine (HQ6.out.has X).mono ?_
          rintro e w7 ⟨vh, rfl, hOh, hQ7⟩
          have HQ7 : Hid (KpC C w w7 D sh room (q + 1) s5 (pn : Int) pbC) := hQ7
          obtain ⟨H, hH⟩ : ∃ l, l = hasL s5.L := ⟨_, rfl⟩
          rw [← hH] at hOh
          have HFit : Hid ((∀ x ∈ H, 0 ≤ x) ∧ (∀ t, cntS sh t H ≤ room) ∧ H.length ≤ 64) := by
            rw [hH]
            refine ⟨(has_fit HQ7.out.fit 0).1, fun t => (has_fit HQ7.out.fit t).2.1, Nat.le_trans (has_fit HQ7.out.fit 0).2.2 (Nat.mul_le_mul h2 h4)⟩
          obtain ⟨Ah, ch, hvh, hsh⟩ := (Own.from_ hOh.out).partsC
          rw [List.length_map] at hvh hsh
          obtain ⟨nh, hnh⟩ : ∃ n, n = H.length := ⟨_, rfl⟩
          rw [← hnh] at hvh hsh
          subst hvh
          have Hnh := Lib.hid hnh
          have hnh64 : nh ≤ 64 := by rw [hnh]; exact HFit.out.2.2
          have HSh := Lib.hid hsh
          clear hOh hQ7 hH hsh hnh HQ6
          have hmk := madeI10 sh (by omega) w7
          obtain ⟨gp, hgp⟩ : ∃ g, g = w7.heap.size := ⟨_, rfl⟩
          obtain ⟨w8, hw8⟩ : ∃ W, W = w7.alloc (.cells (List.replicate sh (Value.int .i64 0)).toArray 3) := ⟨_, rfl⟩
          have HP0 : Hid (Below gp w7 w8 ∧ Here w8 gp 0 (PerC sh H 0)) := by
            rw [PerC_zero, hw8, hgp]
            exact ⟨(Below.refl _ _).alloc (Nat.le_refl _) _, (Row.new w7 3 _).here⟩
          rw [← hw8, ← hgp] at hmk
          have Hgp : Hid (gp = w7.heap.size) := hgp
          clear hw8 hgp
          go_wp2
          clear hmk
          go_loopw [17] (fun jj wr => ∃ j : Nat, j ≤ nh ∧ jj = .int .i64 (j : Int) ∧ Hid (Below gp w7 wr ∧ Here wr gp 0 (PerC sh H j))) (fun jj _ => nh - (intOf jj).toNat)
          case atStart => exact ⟨0, by omega, rfl, HP0⟩
          case round =>
            obtain ⟨j, hj, rfl, HI⟩ := hrel
            clear HP0
            by_cases hlt2 : j < nh
            · obtain ⟨g7, o7, rfl, hg7, hsee⟩ := HSh.out (by omega)
              have hjl : j < H.length := by rw [← Hnh.out]; exact hlt2
              have hbw : Below w7.heap.size w7 wr := by rw [← Hgp.out]; exact HI.out.1
              have e7 := atC (hsee.below hbw hg7) j hjl
              have hx0 : 0 ≤ H.getD j 0 := by rw [List.getD_eq_getElem?_getD, List.getElem?_eq_getElem hjl]; exact HFit.out.1 _ (List.getElem_mem _)
              obtain ⟨y, hy⟩ : ∃ y : Nat, H.getD j 0 = (y : Int) := ⟨(H.getD j 0).toNat, by omega⟩
              obtain ⟨t, ht⟩ : ∃ t, t = y % sh := ⟨_, rfl⟩
              have htl : t < sh := by rw [ht]; exact Nat.mod_lt _ h1
              have hrem : Int.tmod (y : Int) (sh : Int) = (t : Int) := by rw [ht, Int.ofNat_tmod]
              have hstep := PerC_step sh H j t hjl (by rw [hy, ht]; rfl) htl
              obtain ⟨c, hc⟩ : ∃ c, c = cntS sh t (H.take j) := ⟨_, rfl⟩
              have hc1 : c + 1 ≤ room := by
                have h1 := cntS_le sh t H (j + 1)
                rw [cntS_take _ _ _ _ hjl, if_pos (by rw [hy, ht]; rfl), ← hc] at h1
                exact Nat.le_trans h1 (HFit.out.2.1 t)
              have ep : wr.cell? ⟨gp, t, none⟩ = some (.int .i64 (c : Int)) := by rw [hc]; exact HI.out.2.head (PerC_get _ _ _ _ htl)
              have fp : wr.frozen? ⟨gp, t, none⟩ = false := HI.out.2.headFree (by rw [PerC_length]; exact htl)
              have HIn : Hid (Below gp w7 (wr.drew.setCell ⟨gp, t, none⟩ (.int .i64 ((c : Int) + 1))) ∧ Here (wr.drew.setCell ⟨gp, t, none⟩ (.int .i64 ((c : Int) + 1))) gp 0 (PerC sh H (j + 1))) := by
                refine ⟨(HI.out.1.drew).setCell (p := ⟨gp, t, none⟩) (Nat.le_refl _) _, ?_⟩
                have h4 : Here wr.drew gp 0 (PerC sh H j) := HI.out.2
                have := h4.put t (by rw [PerC_length]; exact htl) (.int .i64 ((c + 1 : Nat) : Int))
                rw [Nat.zero_add] at this
                rw [hstep, ← hc]
                exact this
              rw [hy] at e7
              have hgne : gp ≠ g7 := by have := Hgp.out; omega
              have e8 : (wr.drew.setCell ⟨gp, t, none⟩ (.int .i64 ((c : Int) + 1))).cell? ⟨g7, o7 + j, none⟩ = some (.int .i64 (y : Int)) := by
                rw [World.cell?_of_block (w := w7) (HIn.out.1.block g7 (by rw [Hgp.out]; exact hg7))]
                exact (atC hsee j hjl).trans (by rw [hy])
              have e9 : (wr.drew.setCell ⟨gp, t, none⟩ (.int .i64 ((c : Int) + 1))).cell? ⟨gp, t, none⟩ = some (.int .i64 ((c : Int) + 1)) := by
                have := HIn.out.2.head (PerC_get sh H (j + 1) t htl)
                rw [cntS_take _ _ _ _ hjl, if_pos (by rw [hy, ht]; rfl), ← hc] at this
                exact this
              have HE8 := Lib.hid e8
              have HE9 := Lib.hid e9
              clear hx0 hy ht hstep hc hsee HI hbw hjl e8 e9 hg7
              have hjlt : (j : Int) < (nh : Int) := by omega
              have htli : (t : Int) < (sh : Int) := by omega
              have hsh0 : ¬ sh = 0 := by omega
              have hcr : (c : Int) + 1 ≤ (room : Int) := by omega
              have hsum : IntKind.i64.wrap ((c : Int) + 1) = (c : Int) + 1 := IntWalk.i64_in _ (by omega)
              go_wp2
              refine wp_region_still_tail 18 (by kernel_rfl) (by kernel_rfl) ?_
              simp only [List.take_succ_cons, List.take_zero, List.drop_succ_cons, List.drop_zero]
              repeat still_step
              refine wpStill_nil ?_
              change wpList _ _ _ _ _ wr.drew
              have e8 := HE8.out
              have e9 := HE9.out
              clear HE8 HE9
              go_wp2
              go_roundw
              case rel => exact ⟨j + 1, by omega, by go_num, HIn⟩
              case measure => rw [iO10, show intOf (.int .i64 (j : Int)) = (j : Int) from rfl]; omega
            · obtain rfl : j = nh := by omega
              have HQ9 : Hid (KpC C w wr D sh room (q + 1) s5 (pn : Int) pbC) := HQ7.out.still X (by rw [← Hgp.out]; exact HI.out.1)
              clear HI HQ7 HFit HSh
              go_wp2
              go_roundw
              case rel => exact ⟨k + 1, q + 1, s5, by omega, by go_num, by omega, HQ9⟩
              case measure => rw [iO10, show intOf (.int .i64 (k : Int)) = (k : Int) from rfl]; omega
    · obtain rfl : k = m := by omega
      have hpg := HQ2.out.pinned.get HQ2.out.fit
      have HGet : Hid (∀ W, KpC C w W D sh room q s (pn : Int) pbC → Calls Try.prog 11 #[.pointer (some ⟨D, 0, none⟩), .int .i64 (pn : Int)] W fun e w' => ∃ v, e = .returned (.tuple #[v, .bool true]) ∧ Own w' W.heap.size 5 v (pbC.map V8) ∧ KpC C w w' D sh room (q + 1) (getC s (pn : Int)).1 (pn : Int) pbC) := fun W h => by
        have := h.get X (by omega) (pn : Int) Hp.out
        rw [hpg.1, hpg.2.1] at this
        exact this
      have HP5 : Hid (Held1 (getC s (pn : Int)).1 (pn : Int) pbC) := hpg.2.2
      generalize (getC s (pn : Int)).1 = s5 at *
      clear hpg HL hk hlt
      go_wp2_with fail
      refine (HGet.out _ HQ2.out).mono ?_
      rintro e w5 ⟨v, rfl, hO, hQ5⟩
      obtain ⟨F5, hT5, hF5, hfit5, hp5, hb5⟩ := hQ5
      have hcv : (convert 30 9 v).run Try.prog w5 = .ok (.string ⟨#[112, 105, 110, 110, 101, 100]⟩) w5 := by rw [← strPb]; exact conv_arg (Own.arg hO)
      have HT := Lib.hid hT5
      have HF : Hid (∀ k, F5 k → w.heap.size ≤ k) := hF5
      have HC := Lib.hid hb5
      have HD1 : Hid (Calls Try.prog 16 #[.pointer (some ⟨D, 0, none⟩), .int .i64 (pn : Int)] w5 fun e w' => e = .returned (.bool false) ∧ AfterC C w5 F5 w' D sh room (q + 1) s5) := by
        have := X.drop hT5 (by omega) (pn : Int) Hp.out
        rw [HP5.out.drop] at this
        exact this
      have hun := HP5.out.unpin
      have HD2 : Hid (∀ (F : Nat → Prop) W, C W F D sh room (q + 1) s5 → Calls Try.prog 15 #[.pointer (some ⟨D, 0, none⟩), .int .i64 (pn : Int)] W fun e w' => e = .returned (.bool true) ∧ AfterC C W F w' D sh room (q + 1) (unpin s5 (pn : Int)).1) := fun F W h => by
        have := X.unpin h (by omega) (pn : Int) Hp.out
        rw [hun.1] at this
        exact this
      have HD3 : Hid (∀ (F : Nat → Prop) W, C W F D sh room (q + 1) (unpin s5 (pn : Int)).1 → Calls Try.prog 16 #[.pointer (some ⟨D, 0, none⟩), .int .i64 (pn : Int)] W fun e w' => e = .returned (.bool true) ∧ AfterC C W F w' D sh room (q + 1) (drop (unpin s5 (pn : Int)).1 (pn : Int)).1) := fun F W h => by
        have := X.drop h (by omega) (pn : Int) Hp.out
        rw [hun.2] at this
        exact this
      generalize (drop (unpin s5 (pn : Int)).1 (pn : Int)).1 = s7 at *
      generalize (unpin s5 (pn : Int)).1 = s6 at *
      clear hO hT5 hF5 hfit5 hp5 hb5 hun HGet HQ2 HP5
      go_wp2_with fail
      refine HD1.out.mono ?_
      rintro e w6 ⟨rfl, haf⟩
      obtain ⟨F6, hT6, hF6, hb⟩ := AfterC.below haf HF.out HC.out.size
      replace HC := Lib.hid (HC.out.trans hb)
      replace HT : Hid (C w6 F6 D sh room (q + 1) s5) := hT6
      replace HF : Hid (∀ k, F6 k → w.heap.size ≤ k) := hF6
      clear hb haf hT6 hF6 HD1 hcv
      go_wp2_with fail
      refine (HD2.out _ _ HT.out).mono ?_
      rintro e w7 ⟨rfl, haf⟩
      obtain ⟨F7, hT7, hF7, hb⟩ := AfterC.below haf HF.out HC.out.size
      replace HC := Lib.hid (HC.out.trans hb)
      replace HT : Hid (C w7 F7 D sh room (q + 1) s6) := hT7
      replace HF : Hid (∀ k, F7 k → w.heap.size ≤ k) := hF7
      clear hb haf hT7 hF7 HD2
      go_wp2_with fail
      refine (HD3.out _ _ HT.out).mono ?_
      rintro e w8 ⟨rfl, haf⟩
      obtain ⟨F8, hT8, hF8, hb⟩ := AfterC.below haf HF.out HC.out.size
      replace HC := Lib.hid (HC.out.trans hb)
      clear hb haf hT8 hF8 HD3 HT HF
      go_wp2_with fail
      refine (Cknows_any X w8).mono ?_
      rintro e w9 ⟨rfl, hb⟩
      replace HC := Lib.hid (HC.out.trans (hb.mono HC.out.size))
      clear hb
      go_wp2
      go_ret
      exact ⟨rfl, HC.out⟩
end Go.Proofs.Ythcphabfeapjbaa
