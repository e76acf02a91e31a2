/-
  THE WALK of the reference's Fine.
-/
import Derived.Test.YtaamhdgngnpmoaaGD
namespace Go.Proofs.Ytaamhdgngnpmoaa
open Go.RowKit Dir

theorem fine_step {l : List En} {k : Nat} {x : En} (hk : k < l.length) (hx : l.getD k ⟨[], 0⟩ = x) (h : fine l = true) : okE x = true ∧ ∀ j, j < k → unlike (l.getD j ⟨[], 0⟩) x = true := by
  rw [← hx]; exact fine_at h k hk

set_option maxRecDepth 100000 in
set_option maxHeartbeats 2000000 in
theorem RDiFine_any (l : List En) (hn : l.length ≤ 90000) (h100 : ∀ e ∈ l, e.n.length ≤ 1000000) (hk64 : ∀ e ∈ l, -9223372036854775808 ≤ e.k ∧ e.k ≤ 9223372036854775807) (v : Value) (w : World) (h : EntsAt w v l) :
    Calls Try.prog 8 #[v] w fun e w' => e = .returned (.bool (fine l)) ∧ Below w.heap.size w w' := by
  obtain ⟨A, cap, rfl, hs⟩ := h
  obtain ⟨n, hnl⟩ : ∃ n, n = l.length := ⟨_, rfl⟩
  rw [← hnl] at hs hn ⊢
  have HS := Lib.hid hs
  have HNl := Lib.hid hnl
  have H100 := Lib.hid h100
  have H64 := Lib.hid hk64
  clear hs hnl h100 hk64
  obtain ⟨r, hr⟩ : ∃ r, r = fine l := ⟨_, rfl⟩
  have HR := Lib.hid hr
  rw [← hr]
  clear hr
  go_enter Try.func8, Try.ntmps8
  go_wp2
  go_loopw [3] (fun i wr => ∃ (k : Nat), k ≤ n ∧ i = .int .i64 k ∧ Hid (fineN l k = true) ∧ Hid (Below w.heap.size w wr)) (fun i _ => n - (intOf i).toNat)
  case atStart => exact ⟨0, by omega, rfl, rfl, Below.refl _ _⟩
  case round =>
    obtain ⟨k, hk, rfl, HFn, Hbel⟩ := hrel
    by_cases hlt : k < n
    · obtain ⟨bb, o, rfl, hb, hsee⟩ := HS.out (by omega)
      have HSee := Lib.hid hsee
      have HBb := Lib.hid hb
      have hkl : k < l.length := by rw [← HNl.out]; exact hlt
      obtain ⟨x, hx⟩ : ∃ x, l.getD k ⟨[], 0⟩ = x := ⟨_, rfl⟩
      have hxm : x ∈ l := by rw [← hx, List.getD_eq_getElem?_getD, List.getElem?_eq_getElem hkl]; exact List.getElem_mem _
      obtain ⟨hx0, hx1⟩ := atE (hsee.below Hbel.out hb) k hkl
      rw [hx] at hx0 hx1
      have HX := Lib.hid hx
      have HBad : Hid (r = true → okE x = true ∧ ∀ j, j < k → unlike (l.getD j ⟨[], 0⟩) x = true) := fun hr => fine_step hkl hx (HR.out ▸ hr)
      have hxk := H64.out x hxm
      have HNm := Lib.hid fun W => RDiName_any x.n (H100.out x hxm) W
      obtain ⟨nm, hnm⟩ : ∃ nm, nm = nameE x.n := ⟨_, rfl⟩
      rw [← hnm] at HNm
      have HNE := Lib.hid hnm
      clear hsee hb hkl hx hxm hnm
      obtain ⟨xn, xk⟩ := x
      unfold SB at hx0
      simp only at hx0 hx1 HNm hxk HNE
      obtain ⟨hxk1, hxk2⟩ := hxk
      have hrf : ∀ P : Prop, (r = true → P) → ¬ P → r = false := fun P h1 h2 => by
        cases r
        · rfl
        · exact absurd (h1 rfl) h2
      have HRf := Lib.hid hrf
      clear hrf
      by_cases hok : okE ⟨xn, xk⟩ = true
      · obtain ⟨o1, o2, o3⟩ := okE_iff.1 hok
        simp only at o1 o2 o3
        obtain rfl : nm = 0 := HNE.out.trans o1
        have HOk := Lib.hid hok
        clear hok HNE o1
        go_wp2_with fail
        refine (HNm.out _).mono ?_
        rintro e wr' ⟨rfl, hww⟩
        rw [hww]
        clear hww wr' HNm
        go_wp2
        go_loopw [4] (fun j wr => ∃ (q : Nat), q ≤ k ∧ j = .int .i64 q ∧ Hid (∀ j, j < q → unlike (l.getD j ⟨[], 0⟩) ⟨xn, xk⟩ = true) ∧ Hid (Below w.heap.size w wr)) (fun j _ => k - (intOf j).toNat)
        case atStart => exact ⟨0, by omega, rfl, fun j hj => by omega, Hbel⟩
        case round =>
          rename World => wq
          clear Hbel hx0 hx1
          obtain ⟨q, hq, rfl, HU, Hbel⟩ := hrel
          obtain ⟨hx0, hx1⟩ := atE (HSee.out.below Hbel.out HBb.out) k (by rw [← HNl.out]; exact hlt)
          rw [HX.out] at hx0 hx1
          by_cases hqk : q < k
          · have hql : q < l.length := by have := HNl.out; omega
            obtain ⟨hy0, hy1⟩ := atE (HSee.out.below Hbel.out HBb.out) q hql
            obtain ⟨y, hy⟩ : ∃ y, l.getD q ⟨[], 0⟩ = y := ⟨_, rfl⟩
            rw [hy] at hy0 hy1
            have HY := Lib.hid hy
            clear hql hy
            obtain ⟨yn, yk⟩ := y
            unfold SB at hx0 hy0
            simp only at hx0 hx1 hy0 hy1
            by_cases hnn : yn = xn
            · have HF : Hid (r = false) := HRf.out _ HBad.out fun h => by
                have := h.2 q hqk
                rw [HY.out] at this
                simp [unlike, hnn] at this
              subst hnn
              clear HBad HU HRf HOk HFn HSee HS HBb
              generalize strB yn = sx at *
              go_wp2
              go_quiet (fail)
              go_wp2
              go_ret
              rw [HF.out]
              exact ⟨rfl, below_drewN Hbel.out _⟩
            · have hne := strB_ne hnn
              have hne2 : ¬ (strB yn).toList = (strB xn).toList := by rw [strB_list, strB_list]; exact hnn
              by_cases hkk : yk = xk
              · have HF : Hid (r = false) := HRf.out _ HBad.out fun h => by
                  have := h.2 q hqk
                  rw [HY.out] at this
                  simp [unlike, hkk] at this
                subst hkk
                clear HBad HU HRf HOk HFn HSee HS HBb hnn
                generalize strB yn = sx at *
                generalize strB xn = sy at *
                go_wp2
                go_quiet (fail)
                go_wp2
                go_ret
                rw [HF.out]
                exact ⟨rfl, below_drewN Hbel.out _⟩
              · have hkk2 : (yk == xk) = false := by simpa using hkk
                have HU2 : Hid (∀ j, j < q + 1 → unlike (l.getD j ⟨[], 0⟩) ⟨xn, xk⟩ = true) := fun j hj => by
                  by_cases e : j = q
                  · subst e; rw [HY.out]; simp [unlike, hnn, hkk]
                  · exact HU.out j (by omega)
                clear HU hnn
                generalize strB yn = sx at *
                generalize strB xn = sy at *
                go_wp2
                go_quiet (fail)
                go_wp2
                go_roundw
                case rel => exact ⟨q + 1, by omega, by go_num, HU2, below_drewN Hbel.out _⟩
                case measure => simp [intOf]; omega
          · have eq : q = k := by omega
            rw [eq] at HU
            rw [show (q : Int) = (k : Int) by omega]
            have HF2 : Hid (fineN l (k + 1) = true) := by
              show _ = _
              rw [fineN_succ, HFn.out, HX.out, HOk.out]
              simp only [Bool.true_and, List.all_eq_true, List.mem_range]
              exact HU.out
            clear eq HU HBad HRf HOk HFn HSee HBb hx0 hx1
            go_wp2
            go_roundw
            case rel => exact ⟨k + 1, by omega, by go_num, HF2, Hbel⟩
            case measure => simp [intOf]; omega
      · have HF : Hid (r = false) := HRf.out _ HBad.out fun h => hok h.1
        have hor : ¬ nm = 0 ∨ (nm = 0 ∧ xk < 1) ∨ (nm = 0 ∧ ¬ xk < 1 ∧ 31 < xk) := by
          by_cases h0 : nm = 0
          · by_cases h1 : xk < 1
            · exact .inr (.inl ⟨h0, h1⟩)
            · by_cases h2 : 31 < xk
              · exact .inr (.inr ⟨h0, h1, h2⟩)
              · exact absurd (okE_iff.2 ⟨HNE.out.symm.trans h0, (by show 1 ≤ xk; omega), (by show xk ≤ 31; omega)⟩) hok
          · exact .inl h0
        clear hok HNE HBad HRf HFn HSee HS HBb
        generalize strB xn = sx at *
        rcases hor with h0 | ⟨rfl, h1⟩ | ⟨rfl, h1, h2⟩
        · have h0b : (nm == 0) = false := by simpa using h0
          go_wp2_with fail
          refine (HNm.out _).mono ?_
          rintro e wr' ⟨rfl, hww⟩
          rw [hww]
          clear hww wr' HNm
          go_wp2
          go_ret
          rw [HF.out]
          exact ⟨rfl, Hbel.out⟩
        · go_wp2_with fail
          refine (HNm.out _).mono ?_
          rintro e wr' ⟨rfl, hww⟩
          rw [hww]
          clear hww wr' HNm
          go_wp2
          go_ret
          rw [HF.out]
          exact ⟨rfl, Hbel.out⟩
        · go_wp2_with fail
          refine (HNm.out _).mono ?_
          rintro e wr' ⟨rfl, hww⟩
          rw [hww]
          clear hww wr' HNm
          go_wp2
          go_ret
          rw [HF.out]
          exact ⟨rfl, Hbel.out⟩
    · obtain rfl : k = n := by omega
      have HF : Hid (r = true) := by show _ = _; rw [HR.out, fine, ← HNl.out, HFn.out]
      go_wp2
      go_ret
      rw [HF.out]
      exact ⟨rfl, Hbel.out⟩
end Go.Proofs.Ytaamhdgngnpmoaa
