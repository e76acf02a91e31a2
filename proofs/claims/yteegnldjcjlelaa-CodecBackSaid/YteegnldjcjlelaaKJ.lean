/-
  THE WALK of the reference's Put.
-/
import Derived.Test.YteegnldjcjlelaaKI
namespace Go.Proofs.Yteegnldjcjlelaa
open Go.RowKit Cdc

def encK (ws : List Int) (l : List Nat) : List UInt8 := encs ws l
theorem div_step (y p : Nat) : y / 256 ^ p / 256 = y / 256 ^ (p + 1) := by rw [Nat.div_div_eq_div_mul, Nat.pow_succ]

set_option maxRecDepth 100000 in
set_option maxHeartbeats 1000000 in
theorem RKPut_any (ws : List Int) (hn : ws.length ≤ 1000000) (l : List Nat) (h64 : ∀ x ∈ l, x < 2 ^ 64) (v u : Value) (w : World) (h : From w v (ws.map VI)) (hu : From w u (l.map VU)) :
    Calls Try.prog 7 #[v, u] w fun e w' => ∃ r, e = .returned (.tuple #[r, .bool (okP ws l)]) ∧ Hid (Arg w' r (putB ws l)) ∧ Below w.heap.size w w' := by
  have HF := Lib.hid h
  have HU := Lib.hid hu
  obtain ⟨A, cap, rfl, hs⟩ := h.parts
  obtain ⟨C, cap2, rfl, hs2⟩ := hu.parts
  rw [List.length_map] at hs HF hs2 HU
  rw [List.length_map, List.length_map]
  obtain ⟨n, hnl⟩ : ∃ n, n = ws.length := ⟨_, rfl⟩
  obtain ⟨q, hql⟩ : ∃ q, q = l.length := ⟨_, rfl⟩
  rw [← hnl] at hs hn HF ⊢
  rw [← hql] at HU hs2 ⊢
  have HS := Lib.hid hs
  have HS2 := Lib.hid hs2
  have HNl := Lib.hid hnl
  have HQl := Lib.hid hql
  have H64 := Lib.hid h64
  obtain ⟨ok, hokd⟩ : ∃ ok, ok = okP ws l := ⟨_, rfl⟩
  have HOD := Lib.hid hokd
  rw [← hokd]
  clear hs hs2 h hu hnl hql h64 hokd
  go_enter Try.func7, Try.ntmps7
  go_wp2_with fail
  refine (RKWide_any ws (by rw [← HNl.out]; exact hn) _ w HF.out).mono ?_
  rintro e w1 ⟨rfl, hb1⟩
  have hle := hb1.size
  have HB1 := Lib.hid hb1
  clear hb1
  by_cases hok : ws.all okw = true
  · have HOK := Lib.hid hok
    rw [wide_ok hok]
    have hs8 : sumw ws ≤ 8000000 := by have := sumw_le ws hok; have := HNl.out; omega
    obtain ⟨s, hsS⟩ : ∃ s, s = sumw ws := ⟨_, rfl⟩
    have HSS := Lib.hid hsS
    rw [← hsS] at hs8 ⊢
    clear hok hsS
    by_cases hnq : n = q
    · subst hnq
      have HL : Hid (ws.length = l.length) := by show _ = _; rw [← HNl.out, HQl.out]
      go_wp2
      go_loopw [6, 7] (fun out i wr => ∃ (k : Nat), k ≤ n ∧ i = .int .i64 k ∧ Hid (Own wr w1.heap.size 5 out ((encK (ws.take k) (l.take k)).map V8)) ∧ Hid (fit (ws.take k) (l.take k) = true) ∧ Hid (Below w1.heap.size w1 wr)) (fun _ i _ => n - (intOf i).toNat)
      case atStart => exact ⟨0, by omega, rfl, Own.nil _ _ _, by show _ = _; simp [fit], Below.refl _ _⟩
      case round =>
        obtain ⟨k, hk, rfl, HO, Hfit, HB⟩ := hrel
        by_cases hlt : k < n
        · obtain ⟨b, o, rfl, hb, hsee⟩ := HS.out (by omega)
          obtain ⟨b2, o2, rfl, hb2, hsee2⟩ := HS2.out (by omega)
          have hx := atI ((hsee.below HB1.out hb).below HB.out (by omega)) k (by rw [← HNl.out]; exact hlt)
          have hy := atU ((hsee2.below HB1.out hb2).below HB.out (by omega)) k (by rw [← HQl.out]; exact hlt)
          have Htk := Lib.hid (take_snoc ws k (by rw [← HNl.out]; exact hlt) 0)
          have Htl := Lib.hid (take_snoc l k (by rw [← HQl.out]; exact hlt) 0)
          have hok : okw (ws.getD k 0) = true := by
            refine List.all_eq_true.1 HOK.out _ ?_
            rw [List.getD_eq_getElem?_getD, List.getElem?_eq_getElem (by rw [← HNl.out]; exact hlt)]
            exact List.getElem_mem _
          have hy64 : l.getD k 0 < 2 ^ 64 := by
            refine H64.out _ ?_
            rw [List.getD_eq_getElem?_getD, List.getElem?_eq_getElem (by rw [← HQl.out]; exact hlt)]
            exact List.getElem_mem _
          rw [okw_iff] at hok
          clear hsee hsee2
          generalize ws.getD k 0 = x at *
          generalize l.getD k 0 = y at *
          obtain ⟨h1x, h8x⟩ := hok
          have Hlen : Hid ((ws.take k).length = (l.take k).length) := by show _ = _; rw [List.length_take, List.length_take, HL.out]
          have Henc : Hid (encK (ws.take (k + 1)) (l.take (k + 1)) = encK (ws.take k) (l.take k) ++ bigC x.toNat y) := by
            show encs _ _ = encs _ _ ++ big _ _
            rw [Htk.out, Htl.out, encs_append _ _ _ _ Hlen.out]
          have Hfit2 : Hid (fit (ws.take (k + 1)) (l.take (k + 1)) = decide (y < 256 ^ x.toNat)) := by
            show _ = _
            rw [Htk.out, Htl.out, fit_append _ _ _ _ Hlen.out, Hfit.out, Bool.true_and]
          have hel : (encK (ws.take k) (l.take k)).length ≤ 8000000 := by
            show (encs _ _).length ≤ _
            rw [encs_length _ _ Hlen.out]
            have h1 := sumw_append (ws.take k) (ws.drop k)
            rw [List.take_append_drop, ← HSS.out] at h1
            omega
          have Hel := Lib.hid hel
          obtain ⟨j, rfl⟩ : ∃ j : Nat, x = (j : Int) := ⟨x.toNat, by omega⟩
          have HX : (j : Int).toNat = j := by omega
          rw [HX] at Henc Hfit2
          clear HX hel
          go_wp2
          go_loop [8, 9] (fun z i => ∃ (p N : Nat), p ≤ j ∧ N < 2 ^ 64 ∧ i = .int .i64 p ∧ z = .int .u64 (N : Int) ∧ Hid (N = y / 256 ^ p)) (fun _ i => j - (intOf i).toNat)
          case atStart => exact ⟨0, y, by omega, hy64, rfl, rfl, by show _ = _; simp⟩
          case round =>
            obtain ⟨p, N, hp, hN64, rfl, rfl, HN⟩ := hrel
            by_cases hpj : p < j
            · go_wp2
              go_round
              case rel =>
                refine ⟨p + 1, N / 256, by omega, by omega, by go_num, by rw [Int.natCast_ediv]; rfl, ?_⟩
                show _ = _
                rw [HN.out, div_step]
              case measure => simp [intOf]; omega
            · obtain rfl : p = j := by omega
              by_cases hN0 : 0 < N
              · have hno : okP ws l = false := by
                  have h0 : fit (ws.take (k + 1)) (l.take (k + 1)) = false := by
                    rw [Hfit2.out]
                    refine decide_eq_false fun hh => ?_
                    have := HN.out
                    rw [Nat.div_eq_of_lt hh] at this
                    omega
                  rw [okP, fit_take (k + 1) HL.out h0, Bool.and_false]
                have HNo := Lib.hid hno
                clear hno
                go_wp2
                go_ret2
                rw [HOD.out, putB, HNo.out]
                exact ⟨_, rfl, .inl ⟨none, rfl, rfl⟩, HB1.out.trans (HB.out.mono hle)⟩
              · obtain rfl : N = 0 := by omega
                have hfk : fit (ws.take (k + 1)) (l.take (k + 1)) = true := by
                  rw [Hfit2.out]
                  have hp0 : 0 < 256 ^ p := Nat.pow_pos (by omega)
                  have := HN.out
                  rcases Nat.div_eq_zero_iff.1 this.symm with e | e
                  · omega
                  · exact decide_eq_true e
                have HFk := Lib.hid hfk
                have hszr := HB.out.size
                have G0 : wr.drew.cell? ⟨b2, o2 + k, none⟩ = some (.int .u64 (y : Int)) ∧ wr.drew.cell? ⟨b, o + k, none⟩ = some (.int .i64 (p : Int)) := ⟨hy, hx⟩
                have HBig : Hid (Calls Try.prog 15 #[.int .u64 (y : Int), .int .i64 (p : Int)] wr.drew fun e w' => ∃ bv, e = .returned bv ∧ (w'.cell? ⟨b2, o2 + k, none⟩ = some (.int .u64 (y : Int)) ∧ w'.cell? ⟨b, o + k, none⟩ = some (.int .i64 (p : Int))) ∧ Hid (From w' bv ((bigC p y).map V8)) ∧ Hid (Own w' w1.heap.size 5 u6 ((encK (ws.take k) (l.take k)).map V8)) ∧ Hid (Below w1.heap.size w1 w') ∧ w1.heap.size ≤ w'.heap.size) :=
                  (KBig_any p (by omega) y hy64 wr.drew).mono fun e w' ⟨bv, he, ho, hb'⟩ => by
                    have hbw : Below wr.heap.size wr w' := ⟨hb'.os, hb'.tape, hb'.output, hb'.size, hb'.block⟩
                    refine ⟨bv, he, ⟨(hbw.cell (p := ⟨b2, o2 + k, none⟩) (by show b2 < _; omega)).trans hy, (hbw.cell (p := ⟨b, o + k, none⟩) (by show b < _; omega)).trans hx⟩, ho.out.from_, HO.out.below hbw (Nat.le_refl _), HB.out.trans (hbw.mono hszr), ?_⟩
                    have := hbw.size
                    omega
                have HLn : Hid (((encK (ws.take k) (l.take k)).map V8).length + ((bigC p y).map V8).length ≤ 100000000) := by show _ ≤ _; rw [List.length_map, List.length_map, bigC_length]; have := Hel.out; omega
                have hkI : (k : Int) < n := by omega
                clear hfk
                go_wp2
                clear hx hy
                go_region_held3 (fun W => W.cell? ⟨b2, o2 + k, none⟩ = some (.int .u64 (y : Int)) ∧ W.cell? ⟨b, o + k, none⟩ = some (.int .i64 (p : Int))) (first | exact G0 | exact G1 | exact G2)
                  (first
                    | (go_at_call 15; refine HBig.out.mono ?_; rintro e w2 ⟨bv, rfl, G1, Hfr, Hob, Hbb, hz2⟩)
                    | (refine step_app rfl (.tmp 42) (.tmp 51) 24 rfl w1.heap.size 5 Try.underlying24 info8 rfl (by decide) _ ((encK (ws.take k) (l.take k)).map V8) rfl Hob.out _ ((bigC p y).map V8) rfl Hfr.out (oneC8 _) HLn.out hz2 ?_; intro v' w3 hown3 hg3 _; have hb3 : Below w1.heap.size w2 w3 := below_app (Below.refl _ _) Hob.out hg3 (Nat.le_refl _) hz2; have G2 : w3.cell? ⟨b2, o2 + k, none⟩ = some (.int .u64 (y : Int)) ∧ w3.cell? ⟨b, o + k, none⟩ = some (.int .i64 (p : Int)) := ⟨(hb3.cell (p := ⟨b2, o2 + k, none⟩) (by show b2 < _; omega)).trans G1.1, (hb3.cell (p := ⟨b, o + k, none⟩) (by show b < _; omega)).trans G1.2⟩))
                all_goals
                  have HO3 : Hid (Own w3 w1.heap.size 5 v' ((encK (ws.take (k + 1)) (l.take (k + 1))).map V8)) := by
                    show Own _ _ _ _ _
                    rw [Henc.out, List.map_append]
                    exact hown3
                  have HB3 : Hid (Below w1.heap.size w1 w3) := Hbb.out.trans hb3
                  clear hown3 hg3 hb3 G0 G1 G2 hkI
                  go_wp2
                  go_roundw
                  case rel => exact ⟨k + 1, by omega, by go_num, HO3, HFk, HB3⟩
                  case measure => simp [intOf]; omega
        · obtain rfl : k = n := by omega
          have Hall : Hid (encK (ws.take k) (l.take k) = encs ws l) := by show encs _ _ = _; rw [List.take_of_length_le (by rw [← HNl.out]; omega), List.take_of_length_le (by rw [← HQl.out]; omega)]
          have hf : fit ws l = true := by
            have := Hfit.out
            rwa [List.take_of_length_le (by rw [← HNl.out]; omega), List.take_of_length_le (by rw [← HQl.out]; omega)] at this
          have hok : okP ws l = true := okP_iff.2 ⟨HOK.out, HL.out, hf⟩
          have HOKP := Lib.hid hok
          rw [Hall.out] at HO
          clear hok hf Hall
          go_wp2
          go_ret2
          rw [HOD.out, HOKP.out, putB, if_pos HOKP.out]
          exact ⟨_, rfl, HO.out.arg, HB1.out.trans (HB.out.mono hle)⟩
    · have hno : okP ws l = false := by
        rw [Bool.eq_false_iff]
        intro hh
        have := (okP_iff.1 hh).2.1
        rw [← HNl.out, ← HQl.out] at this
        exact hnq this
      have HNo := Lib.hid hno
      clear hno
      have hqn : ¬ q = n := fun e => hnq e.symm
      go_wp2
      · go_ret2
        rw [HOD.out, putB, HNo.out]
        exact ⟨_, rfl, .inl ⟨none, rfl, rfl⟩, HB1.out⟩
      · exfalso
        have hh : 0 ≤ (s : Int) ∧ ((q : Int) != (n : Int)) = false := by assumption
        have := hh.2
        simp at this
        omega
  · have hno : okP ws l = false := by
      rw [Bool.eq_false_iff]
      intro hh
      exact hok (okP_iff.1 hh).1
    have HNo := Lib.hid hno
    rw [wide_bad hok]
    clear hok hno
    go_wp2
    go_ret2
    rw [HOD.out, putB, HNo.out]
    exact ⟨_, rfl, .inl ⟨none, rfl, rfl⟩, HB1.out⟩
end Go.Proofs.Yteegnldjcjlelaa
