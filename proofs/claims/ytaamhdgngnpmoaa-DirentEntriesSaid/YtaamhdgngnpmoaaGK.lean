/-
  THE WALK of the law DirentFinds, over the contracts.
-/
import Derived.Test.YtaamhdgngnpmoaaGJ
namespace Go.Proofs.Ytaamhdgngnpmoaa
open Go.RowKit Dir

namespace Dir
theorem findE_neg (s : List UInt8) (l : List En) : -1 ≤ findE s l := by
  induction l with
  | nil => exact Int.le_refl _
  | cons e l ih =>
    unfold findE
    split
    · omega
    · split <;> omega
theorem findE_lt (s : List UInt8) (l : List En) : findE s l ≤ l.length := by
  induction l with
  | nil => show (-1 : Int) ≤ 0; omega
  | cons e l ih =>
    unfold findE
    rw [List.length_cons]
    split
    · omega
    · split <;> omega
/-- The first entry of a name from place m on. -/
def wantE (s : List UInt8) (l : List En) (m : Nat) : Int := if findE s (l.drop m) < 0 then -1 else m + findE s (l.drop m)
theorem wantE_end (s : List UInt8) (l : List En) : wantE s l l.length = -1 := by
  unfold wantE
  rw [List.drop_length]
  rfl
theorem wantE_step (s : List UInt8) (l : List En) (m : Nat) (hm : m < l.length) : wantE s l m = if (l.getD m ⟨[], 0⟩).n = s then (m : Int) else wantE s l (m + 1) := by
  have hg : l.getD m ⟨[], 0⟩ = l[m] := by rw [List.getD_eq_getElem?_getD, List.getElem?_eq_getElem hm]; rfl
  rw [hg]
  unfold wantE
  rw [List.drop_eq_getElem_cons hm]
  have hn := findE_neg s (l.drop (m + 1))
  by_cases h : l[m].n = s
  · rw [if_pos h, findE, if_pos h, if_neg (by omega)]; omega
  · rw [if_neg h, findE, if_neg h]
    by_cases h2 : findE s (l.drop (m + 1)) < 0
    · rw [if_pos h2, if_pos h2]; rfl
    · rw [if_neg h2, if_neg h2, if_neg (by omega)]; omega
theorem wantE_zero (s : List UInt8) (l : List En) : wantE s l 0 = findE s l := by
  have hn := findE_neg s l
  unfold wantE
  rw [List.drop_zero]
  split <;> omega
theorem wantE_bounds (s : List UInt8) (l : List En) (m : Nat) (hm : m ≤ l.length) : -1 ≤ wantE s l m ∧ wantE s l m ≤ l.length := by
  have h1 := findE_neg s (l.drop m)
  have h2 := findE_lt s (l.drop m)
  rw [List.length_drop] at h2
  unfold wantE
  split <;> omega
theorem dropE_length (l : List En) (i : Int) : (dropE l i).length ≤ l.length := by
  unfold dropE
  split
  · rw [List.length_take, List.length_set]; omega
  · omega
end Dir
theorem cEs_set : ∀ (l : List En) (i : Nat) (e : En), i < l.length → ((cEs l).set (i * 2) (SB e.n)).set (i * 2 + 1) (.int .i64 e.k) = cEs (l.set i e) := by
  intro l
  induction l with
  | nil => intro i e h; simp at h
  | cons x l ih =>
    intro i e h
    cases i with
    | zero => rfl
    | succ i =>
      have := ih i e (by simpa using h)
      rw [show (i + 1) * 2 = i * 2 + 2 by omega, show i * 2 + 2 + 1 = (i * 2 + 1) + 2 by omega]
      show (((SB x.n :: .int .i64 x.k :: cEs l).set (i * 2 + 2) (SB e.n)).set (i * 2 + 1 + 2) (.int .i64 e.k)) = _
      rw [List.set_cons_succ, List.set_cons_succ, List.set_cons_succ, List.set_cons_succ, this]
      rfl
theorem cEs_split (l : List En) (k : Nat) : cEs l = cEs (l.take k) ++ cEs (l.drop k) := by
  have h : cEs (l.take k ++ l.drop k) = cEs (l.take k) ++ cEs (l.drop k) := by simp only [cEs, List.flatMap_append]
  rwa [List.take_append_drop] at h
theorem OwnE.here {w : World} {B : Nat} {t : TypeId} {v : Value} {l : List En} (h : OwnE w B t v l) (hp : 0 < l.length) : ∃ g cap, v = .slice (some ⟨g, 0, none⟩) l.length cap ∧ B ≤ g ∧ l.length ≤ cap ∧ Here w g 0 (cEs l) := by
  rcases h.2 with ⟨_, h0⟩ | ⟨g, cap, cur, rfl, hB, hg, hle, _, _, ht⟩
  · omega
  · refine ⟨g, cap, rfl, hB, hle, ?_⟩
    have hrw : Row w g t cur.toList := by rw [Row, Array.toArray_toList]; exact hg
    have := hrw.here.part 0 (l.length * 2)
    rwa [Nat.zero_add, List.drop_zero, ht] at this

set_option maxRecDepth 100000 in
set_option maxHeartbeats 4000000 in
theorem DiFinds_any (X : DirC) (l : List En) (hl : EnsOk l) (v : Value) (s : List UInt8) (hs : s.length ≤ 9223372036854775807) (i : Int) (hi : -9223372036854775808 ≤ i ∧ i ≤ 9223372036854775807) (w : World) (hE : EntsAt w v l) :
    Calls Try.prog 5 #[v, .string (strB s), .int .i64 i] w fun e w' => e = .returned (.bool true) ∧ Below w.heap.size w w' := by
  have HK := Lib.hid fun W => Diknows_any X W
  have HEn := Lib.hid hE
  obtain ⟨A, cap, rfl, hsee⟩ := hE
  have hss := strB_size' s
  by_cases hbig : 40 < l.length ∨ 100 < s.length
  · clear HEn hl hsee
    generalize l.length = n at *
    generalize strB s = sb at *
    generalize s.length = m at *
    rcases Nat.lt_or_ge 40 n with h1 | h1
    · clear hbig
      go_enter Try.func5, Try.ntmps5
      go_wp2_with fail
      refine (HK.out w).mono ?_
      rintro e w2 ⟨rfl, hb⟩
      have HB := Lib.hid hb
      clear hb HK
      go_wp2
      go_ret
      exact ⟨rfl, HB.out⟩
    · have h2 : 100 < m := by omega
      clear hbig
      go_enter Try.func5, Try.ntmps5
      go_wp2_with fail
      refine (HK.out w).mono ?_
      rintro e w2 ⟨rfl, hb⟩
      have HB := Lib.hid hb
      clear hb HK
      go_wp2
      go_ret
      exact ⟨rfl, HB.out⟩
  have hn : l.length ≤ 40 := by omega
  have hm : s.length ≤ 100 := by omega
  have HAsl := Lib.hid fun W (hW : Below w.heap.size w W) => DiAs_own l (by omega) _ W (HEn.out.below hW)
  have HDrop := Lib.hid fun W (hW : Below w.heap.size w W) => X.drop l i _ W (by omega) hl hi (HEn.out.below hW)
  have HNames := Lib.hid fun W (hW : Below w.heap.size w W) => X.names l _ W (by omega) hl (HEn.out.below hW)
  have HFind := Lib.hid fun W (hW : Below w.heap.size w W) => X.find l s _ W (by omega) hl (HEn.out.below hW)
  have HS : Hid (∀ W, Below w.heap.size w W → ∀ k, k < l.length → ∃ b o, A = some ⟨b, o, none⟩ ∧ W.cell? ⟨b, o + k * 2, none⟩ = some (SB (l.getD k ⟨[], 0⟩).n)) := fun W hW k hk => by
    obtain ⟨b, o, e, hb, h⟩ := hsee (by omega)
    exact ⟨b, o, e, (atE (h.below hW hb) k hk).1⟩
  have HWe := Lib.hid (wantE_end s l)
  have HWs := Lib.hid (wantE_step s l)
  have HWz := Lib.hid (wantE_zero s l)
  have HWb := Lib.hid (wantE_bounds s l)
  have HFb : Hid (-1 ≤ findE s l ∧ findE s l ≤ l.length) := ⟨findE_neg s l, findE_lt s l⟩
  have HDl := Lib.hid (dropE_length l i)
  obtain ⟨n, hnl⟩ : ∃ n, n = l.length := ⟨_, rfl⟩
  have HNl := Lib.hid hnl
  rw [← hnl] at hn HAsl HDrop HNames HFind HS HWe HWb HFb HDl HWs ⊢
  clear hl hbig HEn hsee hnl hs
  go_enter Try.func5, Try.ntmps5
  go_wp2_with fail
  refine (HAsl.out w (Below.refl _ _)).mono ?_
  rintro e w1 ⟨vh, rfl, HH, hb1⟩
  have HB1 := Lib.hid hb1
  clear hb1
  go_wp2
  go_loop [8, 9] (fun a i => ∃ m : Nat, m ≤ n ∧ i = .int .i64 ((m : Int) - 1) ∧ a = .int .i64 (wantE s l m)) (fun _ i => (intOf i + 1).toNat)
  case atStart => exact ⟨n, by omega, by go_num, by rw [HWe.out]⟩
  case round =>
    obtain ⟨m, hm2, rfl, rfl⟩ := hrel
    by_cases hlt : 0 < m
    · obtain ⟨k, rfl⟩ : ∃ k, m = k + 1 := ⟨m - 1, by omega⟩
      rw [show ((k + 1 : Nat) : Int) - 1 = k by omega]
      obtain ⟨b, o, rfl, hc⟩ := HS.out w1 HB1.out k (by omega)
      have Hst := Lib.hid (HWs.out k (by omega))
      have hwb := HWb.out (k + 1) hm2
      generalize wantE s l (k + 1) = wk at *
      generalize l.getD k ⟨[], 0⟩ = x at *
      obtain ⟨xn, xk⟩ := x
      unfold SB at hc
      simp only at hc Hst
      have hxs := strB_size' xn
      have hne := @strB_ne xn s
      obtain ⟨hwb1, hwb2⟩ := hwb
      clear HWe HWs HWz HFb HS
      by_cases hbig : 100 < xn.length
      · clear hne Hst HAsl HDrop HNames HFind HDl HWb
        generalize strB xn = sx at *
        go_wp2_with fail
        refine (HK.out w1).mono ?_
        rintro e w2 ⟨rfl, hb⟩
        have HB := Lib.hid (HB1.out.trans (hb.mono HB1.out.size))
        clear hb HK
        go_wp2
        go_ret
        exact ⟨rfl, HB.out⟩
      · by_cases heq : xn = s
        · subst heq
          rw [if_pos rfl] at Hst
          have heq2 : ((strB xn).toList == (strB xn).toList) = true := beq_self_eq_true _
          clear hne
          generalize strB xn = sx at *
          go_wp2
          go_round
          case rel => exact ⟨k, by omega, by go_num, by rw [Hst.out]⟩
          case measure => simp [intOf] <;> omega
        · rw [if_neg heq] at Hst
          replace hne := hne heq
          generalize strB xn = sx at *
          generalize strB s = ss at *
          go_wp2
          go_round
          case rel => exact ⟨k, by omega, by go_num, by rw [Hst.out]⟩
          case measure => simp [intOf] <;> omega
    · obtain rfl : m = 0 := by omega
      rw [HWz.out]
      have hfb := HFb.out
      obtain ⟨hfb1, hfb2⟩ := hfb
      clear HWe HWs HWz HWb HS HFb hm2 hlt hss
      generalize strB s = ss at *
      generalize findE s l = fd at *
      go_wp2_with fail
      refine (HDrop.out w1 HB1.out).mono ?_
      rintro e w2 ⟨vd, rfl, HVd, hb⟩
      have HB2 := Lib.hid (HB1.out.trans (hb.mono HB1.out.size))
      replace HH := Lib.hid (HH.out.below hb (Nat.le_refl _))
      have Hlt2 : Hid (∀ k, vh.ownBlock = some k → k < w2.heap.size) := fun k hk => (HH.out.lt hk).2
      clear hb HDrop HB1
      go_wp2_with fail
      refine (DiAs_any (dropE l i) (by have := HDl.out; omega) vd w2 HVd.out.at_).mono ?_
      rintro e w3 ⟨vd2, rfl, HV, hb⟩
      have HB3 := Lib.hid (HB2.out.trans (hb.mono HB2.out.size))
      replace HH := Lib.hid (HH.out.below hb (Nat.le_refl _))
      clear hb HVd HB2
      go_wp2_with fail
      refine (HNames.out w3 HB3.out).mono ?_
      rintro e w4 ⟨vn, rfl, HVn, hb⟩
      have HB4 := Lib.hid (HB3.out.trans (hb.mono HB3.out.size))
      replace HH := Lib.hid (HH.out.below hb (Nat.le_refl _))
      replace HV := Lib.hid (HV.out.below hb)
      clear hb HNames HB3
      go_wp2_with fail
      refine (HAsl.out w4 HB4.out).mono ?_
      rintro e w5 ⟨va, rfl, HVa, hb⟩
      have HB5 := Lib.hid (HB4.out.trans (hb.mono HB4.out.size))
      replace HH := Lib.hid (HH.out.below hb (Nat.le_refl _))
      replace HV := Lib.hid (HV.out.below hb)
      replace HVn := Lib.hid (HVn.out.below hb)
      clear hb HAsl HB4
      have HSm := Lib.hid (Disame_any l l (by rw [← HNl.out]; omega) (by rw [← HNl.out]; omega) va vh w5 HVa.out.hi.at_ HH.out.hi.at_)
      rw [decide_eq_true rfl] at HSm
      go_wp2_with fail
      refine HSm.out.mono ?_
      rintro e w6 ⟨rfl, hb⟩
      have HB6 := Lib.hid (HB5.out.trans (hb.mono HB5.out.size))
      replace HH := Lib.hid (HH.out.below hb (Nat.le_refl _))
      replace HV := Lib.hid (HV.out.below hb)
      replace HVn := Lib.hid (HVn.out.below hb)
      clear hb HSm HB5 HVa
      go_wp2_with fail
      refine (HFind.out w6 HB6.out).mono ?_
      rintro e w7 ⟨rfl, hb⟩
      have HB7 := Lib.hid (HB6.out.trans (hb.mono HB6.out.size))
      replace HH := Lib.hid (HH.out.below hb (Nat.le_refl _))
      replace HV := Lib.hid (HV.out.below hb)
      replace HVn := Lib.hid (HVn.out.below hb)
      clear hb HFind HB6
      go_wp2_with fail
      refine (RDiNames_any l (by rw [← HNl.out]; omega) vh w7 HH.out.hi.at_).mono ?_
      rintro e w8 ⟨vm, rfl, HVm, hb⟩
      have HB8 := Lib.hid (HB7.out.trans (hb.mono HB7.out.size))
      replace HH := Lib.hid (HH.out.below hb (Nat.le_refl _))
      replace HV := Lib.hid (HV.out.below hb)
      replace HVn := Lib.hid (HVn.out.below hb)
      clear hb HB7
      have hnl : (namesL l).length ≤ 1000000 := by rw [namesL_length, ← HNl.out]; omega
      have HTx := Lib.hid (RDiTexts_any (namesL l) (namesL l) hnl hnl vn vm w8 HVn.out HVm.out.from_)
      rw [decide_eq_true rfl] at HTx
      clear hnl HVn HVm
      go_wp2_with fail
      refine HTx.out.mono ?_
      rintro e w9 ⟨rfl, hb⟩
      have HB9 := Lib.hid (HB8.out.trans (hb.mono HB8.out.size))
      replace HH := Lib.hid (HH.out.below hb (Nat.le_refl _))
      replace HV := Lib.hid (HV.out.below hb)
      clear hb HTx HB8
      by_cases hin : 0 ≤ i ∧ i < n
      · obtain ⟨q, rfl⟩ : ∃ q : Nat, i = (q : Int) := ⟨i.toNat, by omega⟩
        have hq : q < n := by omega
        clear hin hi
        obtain ⟨g, cap2, hvh, hBg, hcap, hh⟩ := HH.out.here (by rw [← HNl.out]; omega)
        subst hvh
        have hglt : g < w2.heap.size := Hlt2.out g rfl
        rw [← HNl.out] at hcap ⊢
        have hlast := cEs_at l (n - 1) (l.getD (n - 1) ⟨[], 0⟩) (by rw [List.getD_eq_getElem?_getD, List.getElem?_eq_getElem (by rw [← HNl.out]; omega)]; rfl)
        have c0 := hh.head hlast.1
        have c1 := hh.head hlast.2
        have hlen : (cEs l).length = n * 2 := by rw [cEs_length, HNl.out]
        have hold := cEs_at l q (l.getD q ⟨[], 0⟩) (by rw [List.getD_eq_getElem?_getD, List.getElem?_eq_getElem (by rw [← HNl.out]; omega)]; rfl)
        obtain ⟨x, hx⟩ : ∃ x, x = l.getD (n - 1) ⟨[], 0⟩ := ⟨_, rfl⟩
        rw [← hx] at c0 c1
        obtain ⟨z, hz⟩ : ∃ z, z = l.getD q ⟨[], 0⟩ := ⟨_, rfl⟩
        rw [← hz] at hold
        have f0 := hh.headFree (j := q * 2) (by rw [hlen]; omega)
        have d0 := hh.head hold.1
        have h1 : Here (w9.setCell ⟨g, q * 2, none⟩ (SB x.n)) g 0 ((cEs l).set (q * 2) (SB x.n)) := by
          have := hh.put (q * 2) (by rw [hlen]; omega) (SB x.n)
          rwa [Nat.zero_add] at this
        have d1 := h1.head (j := q * 2 + 1) (v := .int .i64 z.k) (by rw [List.getElem?_set_ne (by omega)]; exact hold.2)
        have f1 := h1.headFree (j := q * 2 + 1) (by rw [List.length_set, hlen]; omega)
        have h2 : Here ((w9.setCell ⟨g, q * 2, none⟩ (SB x.n)).setCell ⟨g, q * 2 + 1, none⟩ (.int .i64 x.k)) g 0 (cEs (l.set q x)) := by
          have := h1.put (q * 2 + 1) (by rw [List.length_set, hlen]; omega) (.int .i64 x.k)
          rw [Nat.zero_add, cEs_set l q x (by rw [← HNl.out]; exact hq)] at this
          exact this
        have hde : dropE l (q : Int) = (l.set q x).take (n - 1) := by
          rw [dropE, if_pos ⟨by omega, by rw [← HNl.out]; omega⟩, ← HNl.out, ← hx]
          rfl
        have HB10 : Hid (Below w.heap.size w ((w9.setCell ⟨g, q * 2, none⟩ (SB x.n)).setCell ⟨g, q * 2 + 1, none⟩ (.int .i64 x.k))) := (HB9.out.setCell hBg _).setCell hBg _
        have HV10 : Hid (EntsAt ((w9.setCell ⟨g, q * 2, none⟩ (SB x.n)).setCell ⟨g, q * 2 + 1, none⟩ (.int .i64 x.k)) vd2 (dropE l q)) := by
          obtain ⟨A', cap', e', h'⟩ := HV.out
          refine ⟨A', cap', e', fun hp => ?_⟩
          obtain ⟨b', o', e2, hB2, hl2, hs2⟩ := h' hp
          exact ⟨b', o', e2, by simp only [World.size_setCell]; exact hl2, (hs2.setCell (show b' ≠ g by omega) _).setCell (show b' ≠ g by omega) _⟩
        have HSm := Lib.hid (Disame_any (dropE l q) (dropE l q) (by have := HDl.out; omega) (by have := HDl.out; omega) vd2 (.slice (some ⟨g, 0, none⟩) (n - 1) cap2) _ HV10.out (by
          have hln : ((l.set q x).take (n - 1)).length = n - 1 := by rw [List.length_take, List.length_set, ← HNl.out]; omega
          refine ⟨some ⟨g, 0, none⟩, cap2, by rw [hde, hln], fun _ => ⟨g, 0, rfl, h2.lt (by rw [cEs_length, List.length_set, ← HNl.out]; omega), fun j u hu => ?_⟩⟩
          refine h2.cell ?_
          rw [hde] at hu
          rw [cEs_split (l.set q x) (n - 1)]
          rw [List.getElem?_append_left (List.getElem?_eq_some_iff.1 hu).1]
          exact hu))
        rw [decide_eq_true rfl] at HSm
        clear hlast hlen hold hh h1 hz hx HV HV10 h2 hde HH hglt Hlt2
        obtain ⟨xn, xk⟩ := x
        unfold SB at c0 d0 d1 f1 HB10 HSm
        simp only at c0 c1 d0 d1 f1 HB10 HSm
        go_wp2_with fail
        refine HSm.out.mono ?_
        rintro e w10 ⟨rfl, hb⟩
        have HB11 := Lib.hid (HB10.out.trans (hb.mono HB10.out.size))
        clear hb HSm HB10 c0 c1 d0 d1 f0 f1
        go_wp2_with fail
        refine (HK.out w10).mono ?_
        rintro e w11 ⟨rfl, hb⟩
        have HB12 := Lib.hid (HB11.out.trans (hb.mono HB11.out.size))
        clear hb HK
        go_wp2
        go_ret
        exact ⟨rfl, HB12.out⟩
      · have hde : dropE l i = l := if_neg (by rw [← HNl.out]; exact hin)
        have HSm := Lib.hid (Disame_any (dropE l i) l (by have := HDl.out; omega) (by rw [← HNl.out]; omega) vd2 vh w9 HV.out.at_ HH.out.hi.at_)
        rw [decide_eq_true hde] at HSm
        clear HV HH hde HDl HNl
        by_cases h0 : i < 0
        · clear hin
          go_wp2_with fail
          refine HSm.out.mono ?_
          rintro e w10 ⟨rfl, hb⟩
          have HB10 := Lib.hid (HB9.out.trans (hb.mono HB9.out.size))
          clear hb HSm
          go_wp2_with fail
          refine (HK.out w10).mono ?_
          rintro e w11 ⟨rfl, hb⟩
          have HB11 := Lib.hid (HB10.out.trans (hb.mono HB10.out.size))
          clear hb HK
          go_wp2
          go_ret
          exact ⟨rfl, HB11.out⟩
        · have h1 : (n : Int) ≤ i := by omega
          clear hin
          go_wp2_with fail
          refine HSm.out.mono ?_
          rintro e w10 ⟨rfl, hb⟩
          have HB10 := Lib.hid (HB9.out.trans (hb.mono HB9.out.size))
          clear hb HSm
          go_wp2_with fail
          refine (HK.out w10).mono ?_
          rintro e w11 ⟨rfl, hb⟩
          have HB11 := Lib.hid (HB10.out.trans (hb.mono HB10.out.size))
          clear hb HK
          go_wp2
          go_ret
          exact ⟨rfl, HB11.out⟩
end Go.Proofs.Ytaamhdgngnpmoaa
