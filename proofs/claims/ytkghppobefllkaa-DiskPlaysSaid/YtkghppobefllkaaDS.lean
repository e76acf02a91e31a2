/-
  THE WALKS of the reference's Swap, Back.
-/
import Derived.Test.YtkghppobefllkaaDR
namespace Go.Proofs.Ytkghppobefllkaa
open Go.RowKit Dsk

set_option maxRecDepth 100000 in
set_option maxHeartbeats 1000000 in
theorem RDSwap_any {w : World} {G : Nat → Prop} {M : Nat} {L : List Blk} (h : RefAt w G M L) (i k : Int) :
    Calls Try.prog 17 #[.pointer (some ⟨M, 0, none⟩), .int .i64 i, .int .i64 k] w fun e w' => e = .returned (.bool (okS L i k)) ∧ RAfter w G w' M (swapL L i k) := by
  have HA0 := Lib.hid h.after
  have HI := Lib.hid (RDHas_any h i)
  have HK := Lib.hid (RDHas_any h k)
  cases hg : getB L i with
  | none =>
    have hok : okS L i k = false := by rw [okS, hg]; rfl
    have hb : okB L i = false := by rw [okB, hg]; rfl
    have HE : Hid (RAfter w G w M (swapL L i k)) := by show RAfter _ _ _ _ _; rw [swapL, hg]; exact HA0.out
    rw [hok]
    rw [hb] at HI
    generalize swapL L i k = L' at *
    clear h hg hok HA0 hb HK
    go_enter Try.func17, Try.ntmps17
    go_wp2_with fail
    refine HI.out.mono ?_
    rintro e w1 ⟨rfl, rfl⟩
    go_wp2
    go_ret
    exact ⟨rfl, HE.out⟩
  | some x =>
    have hb : okB L i = true := by rw [okB, hg]; rfl
    rw [hb] at HI
    cases hgk : getB L k with
    | none =>
      have hok : okS L i k = false := by rw [okS, hgk]; simp
      have hbk : okB L k = false := by rw [okB, hgk]; rfl
      have HE : Hid (RAfter w G w M (swapL L i k)) := by show RAfter _ _ _ _ _; rw [swapL, hg, hgk]; exact HA0.out
      rw [hok]
      rw [hbk] at HK
      generalize swapL L i k = L' at *
      clear h hg hok hgk HA0 hb hbk
      go_enter Try.func17, Try.ntmps17
      go_wp2_with fail
      refine HI.out.mono ?_
      rintro e w1 ⟨rfl, rfl⟩
      go_wp2_with fail
      refine HK.out.mono ?_
      rintro e w1 ⟨rfl, rfl⟩
      go_wp2
      go_ret
      exact ⟨rfl, HE.out⟩
    | some y =>
      have hbk : okB L k = true := by rw [okB, hgk]; rfl
      rw [hbk] at HK
      by_cases hik : i = k
      · have hok : okS L i k = false := by rw [okS, decide_eq_false (p := i ≠ k) (by simp [hik])]; simp
        have HE : Hid (RAfter w G w M (swapL L i k)) := by show RAfter _ _ _ _ _; rw [swapL, hg, hgk]; simp only; rw [if_pos hik]; exact HA0.out
        rw [hok]
        generalize swapL L i k = L' at *
        clear h hg hok hgk HA0 hb hbk HK
        subst hik
        go_enter Try.func17, Try.ntmps17
        go_wp2_with fail
        refine HI.out.mono ?_
        rintro e w1 ⟨rfl, rfl⟩
        go_wp2_with fail
        refine HI.out.mono ?_
        rintro e w1 ⟨rfl, rfl⟩
        go_wp2
        go_ret
        exact ⟨rfl, HE.out⟩
      · have hok : okS L i k = true := by rw [okS, hg, hgk, decide_eq_true (p := i ≠ k) hik]; rfl
        have hsw : swapL L i k = (L.set i.toNat (x.setCur y.cur)).set k.toNat (y.setCur x.cur) := by rw [swapL, hg, hgk]; simp only; rw [if_neg hik]
        rw [hok, hsw]
        obtain ⟨i, rfl, hx⟩ := getB_nat hg
        obtain ⟨k, rfl, hy⟩ := getB_nat hgk
        have hik' : i ≠ k := fun e => hik (by rw [e])
        have hB : ((i : Int) == (k : Int)) = false := by rw [beq_eq_false_iff_ne]; omega
        simp only [Int.toNat_natCast]
        have H1 := Lib.hid (RDRead_any h i x hx w rfl)
        have H2 := Lib.hid (RDRead_any h k y hy w rfl)
        have hox := RefW.len_ok h hx
        have hoy := RefW.len_ok h hy
        have H3 := Lib.hid (RDset_any h i x hx y.cur hoy.cur)
        have H4 : Hid (∀ w', RAfter w G w' M (L.set i (x.setCur y.cur)) → Calls Try.prog 35 #[.pointer (some ⟨M, 0, none⟩), .int .i64 k, .string (strB x.cur)] w' fun e w2 => e = .returned (.tuple #[]) ∧ RAfter w G w2 M ((L.set i (x.setCur y.cur)).set k (y.setCur x.cur))) := fun w' hw' => by
          refine (RDset_any hw'.1 k y (by rw [List.getElem?_set_ne hik']; exact hy) x.cur hox.cur).mono ?_
          rintro e w2 ⟨rfl, h2⟩
          exact ⟨rfl, h2.trans hw'.2⟩
        generalize (L.set i (x.setCur y.cur)).set k (y.setCur x.cur) = L' at *
        generalize L.set i (x.setCur y.cur) = L1 at *
        generalize strB x.cur = sx at *
        generalize strB y.cur = sy at *
        clear h hg hok hgk HA0 hb hbk hsw hx hy hox hoy hik hik'
        go_enter Try.func17, Try.ntmps17
        go_wp2_with fail
        refine HI.out.mono ?_
        rintro e w1 ⟨rfl, rfl⟩
        go_wp2_with fail
        refine HK.out.mono ?_
        rintro e w1 ⟨rfl, rfl⟩
        go_wp2_with fail
        refine H1.out.mono ?_
        rintro e w1 ⟨rfl, rfl⟩
        go_wp2_with fail
        refine H2.out.mono ?_
        rintro e w1 ⟨rfl, rfl⟩
        go_wp2_with fail
        refine H3.out.mono ?_
        rintro e w2 ⟨rfl, h2⟩
        have H5 := Lib.hid (H4.out w2 h2)
        clear h2 H3 H4 H1 H2 HI HK
        go_wp2_with fail
        refine H5.out.mono ?_
        rintro e w3 ⟨rfl, h3⟩
        have H6 := Lib.hid h3
        clear h3 H5
        go_wp2
        go_ret
        exact ⟨rfl, H6.out⟩

set_option maxRecDepth 100000 in
set_option maxHeartbeats 1000000 in
theorem RDBack_any {w : World} {G : Nat → Prop} {M : Nat} {L : List Blk} (h : RefAt w G M L) (i : Int) :
    Calls Try.prog 19 #[.pointer (some ⟨M, 0, none⟩), .int .i64 i] w fun e w' => e = .returned (.bool (okB L i)) ∧ RAfter w G w' M (backL L i) := by
  have HA0 := Lib.hid h.after
  have HI := Lib.hid (RDHas_any h i)
  cases hg : getB L i with
  | none =>
    have hok : okB L i = false := by rw [okB, hg]; rfl
    have HE : Hid (RAfter w G w M (backL L i)) := by show RAfter _ _ _ _ _; rw [backL, upd1_none hg]; exact HA0.out
    rw [hok] at HI ⊢
    generalize backL L i = L' at *
    clear h hg hok HA0
    go_enter Try.func19, Try.ntmps19
    go_wp2_with fail
    refine HI.out.mono ?_
    rintro e w1 ⟨rfl, rfl⟩
    go_wp2
    go_ret
    exact ⟨rfl, HE.out⟩
  | some x =>
    obtain ⟨i, rfl, hx⟩ := getB_nat hg
    have hok : okB L i = true := by rw [okB, hg]; rfl
    have hL : backL L i = L.set i (x.setBoth x.past x.cur) := by rw [backL, upd1_some hx, Blk.back_both]
    rw [hok] at HI ⊢
    rw [hL]
    have hox := RefW.len_ok h hx
    have H1 := Lib.hid (RDRead_any h i x hx w rfl)
    have H2 := Lib.hid (RDset_any h i x hx x.past hox.past)
    have hin := (List.getElem?_eq_some_iff.1 hx).1
    have hi : (i : Int) < (L.length : Int) := by omega
    have HF : Hid (∀ w', RAfter w G w' M (L.set i (x.setCur x.past)) → ∃ c cc, w'.cell? ⟨M, 2, none⟩ = some (.slice (some ⟨c, 0, none⟩) L.length cc) ∧ (∃ u, w'.cell? ⟨c, i, none⟩ = some u) ∧ w'.frozen? ⟨c, i, none⟩ = false ∧ RAfter w G (w'.setCell ⟨c, i, none⟩ (.string (strB x.cur))) M (L.set i (x.setBoth x.past x.cur))) := by
      rintro w' ⟨⟨a, b, c, ca, cb, cc, hR⟩, hX⟩
      have hx' : (L.set i (x.setCur x.past))[i]? = some (x.setCur x.past) := List.getElem?_set_self hin
      have hin' : i < (L.set i (x.setCur x.past)).length := by simpa using hin
      have h3 := hR.setC hx' (x.setBoth x.past x.cur) (by rw [Blk.setCur_both]; unfold Blk.setBoth; cases x.wr <;> rfl) (by rw [Blk.setCur_both]; unfold Blk.setBoth; cases x.wr <;> rfl) (Blk.setBoth_ok hox hox.past hox.cur)
      rw [Blk.setBoth_past, List.set_set] at h3
      have hcl := hR.cLen
      rw [List.length_set] at hcl
      exact ⟨c, cc, hcl, ⟨_, hR.atC hx'⟩, hR.freeC hin', ⟨a, b, c, ca, cb, cc, h3⟩, hX.then (hR.chgC hin' _)⟩
    have c0 : ∃ c cc, w.cell? ⟨M, 2, none⟩ = some (.slice (some ⟨c, 0, none⟩) L.length cc) ∧ w.cell? ⟨c, i, none⟩ = some (.string (strB x.past)) := by
      obtain ⟨a, b, c, ca, cb, cc, hR⟩ := h
      exact ⟨c, cc, hR.cLen, hR.atC hx⟩
    obtain ⟨c, cc, c1, c2⟩ := c0
    generalize L.set i (x.setBoth x.past x.cur) = L' at *
    generalize L.set i (x.setCur x.past) = L1 at *
    generalize strB x.cur = sx at *
    generalize strB x.past = sp at *
    generalize L.length = n at *
    clear h hg hok hL HA0 hox hx hin
    go_enter Try.func19, Try.ntmps19
    go_wp2_with fail
    refine HI.out.mono ?_
    rintro e w1 ⟨rfl, rfl⟩
    go_wp2_with fail
    refine H1.out.mono ?_
    rintro e w1 ⟨rfl, rfl⟩
    go_wp2_with fail
    refine H2.out.mono ?_
    rintro e w2 ⟨rfl, h2⟩
    obtain ⟨c', cc', c3, ⟨u, c4⟩, f4, h5⟩ := HF.out w2 h2
    have H5 := Lib.hid h5
    clear h2 h5 HF H1 H2 HI c1 c2
    go_wp2
    go_ret
    exact ⟨rfl, H5.out⟩
end Go.Proofs.Ytkghppobefllkaa
