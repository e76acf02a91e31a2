/-
  THE WALK of the law CtrCodes.
-/
import Derived.Test.YtjdpfeagicchnaaCF
import Derived.Test.YtjdpfeagicchnaaCP
namespace Go.Proofs.Ytjdpfeagicchnaa
open Go.RowKit Aes Ctr

theorem nnc_low (d : Int) (D D4 u : Nat) (hD : (D : Int) = d % 18446744073709551616) (hD4 : (D4 : Int) = d % 4294967296) : nnc D4 u = nnc D u := by
  unfold nnc
  rw [big_congr 4 D4 D (by have : (256 : Nat) ^ 4 = 4294967296 := by decide
                           rw [this]; omega)]

set_option maxRecDepth 100000 in
set_option maxHeartbeats 1000000 in
theorem CCodes_any (key nonce b : List UInt8) (kr nr : List Value) (hk : Vec 16 key kr) (hn : Vec 12 nonce nr) (v : Value) (d : Int) (D : Nat) (hD : (D : Int) = d % 18446744073709551616) (D4 : Nat) (hD4 : (D4 : Int) = d % 4294967296) (u : Nat) (hu : u < 2 ^ 64) (w : World) (h : Arg w v b) :
    Calls Try.prog 3 #[.agg kr.toArray, .agg nr.toArray, v, .int .i64 d, .int .u64 u] w fun e w' => e = .returned (.bool true) ∧ Below w.heap.size w w' := by
  obtain ⟨A, cap, rfl⟩ := h.form
  obtain ⟨n, hnl⟩ : ∃ n, n = b.length := ⟨_, rfl⟩
  rw [← hnl] at h ⊢
  have HNl := Lib.hid hnl
  have HK := Lib.hid hk
  have HN := Lib.hid hn
  have HD := Lib.hid hD
  have HD4 := Lib.hid hD4
  have HNN : Hid (nnc D4 u = nnc D u) := nnc_low d D D4 u hD hD4
  have Hzk : Hid (kr.toArray.size = 16) := hk.size
  have Hzn : Hid (nr.toArray.size = 12) := hn.size
  obtain ⟨w0, hw0⟩ : ∃ w0, w0 = (w.alloc (.cells kr.toArray 22)).alloc (.cells nr.toArray 23) := ⟨_, rfl⟩
  have HR0 : Hid (Row w0 w.heap.size 22 kr) := by rw [hw0]; exact (Row.new w 22 kr).alloc _
  have HR1 : Hid (Row w0 (w.heap.size + 1) 23 nr) := by rw [hw0]; exact Row.newAt 23 nr (by simp)
  have HBL : Hid (Below w.heap.size w w0) := by rw [hw0]; exact ((Below.refl _ _).alloc (Nat.le_refl _) _).alloc (by simp) _
  have HA0 : Hid (Arg w0 (.slice A n cap) b) := h.below HBL.out
  clear hnl hk hn h hD hD4
  rcases Nat.lt_or_ge 200 n with hl | hl
  · go_enter Try.func3, Try.ntmps3
    go_wp2_with fail
    rw [← hw0]
    refine (Cknows_any w0).mono ?_
    rintro e w1 ⟨rfl, hb1⟩
    go_wp2
    go_ret
    exact ⟨rfl, HBL.out.trans (hb1.mono HBL.out.size)⟩
  · have hz := zero12
    have hsz0 := HBL.out.size
    have HSZ : Hid (w0.heap.size = w.heap.size + 1 + 1) := by rw [hw0]; show _ = _; simp
    obtain ⟨wD, hwD⟩ : ∃ wD, wD = ((w.alloc (.cells kr.toArray 22)).alloc (.cells nr.toArray 23)).alloc (.cells #[] 5) := ⟨_, rfl⟩
    have HRD0 : Hid (Row wD w.heap.size 22 kr) := by rw [hwD, ← hw0]; exact HR0.out.alloc _
    have HRD1 : Hid (Row wD (w.heap.size + 1) 23 nr) := by rw [hwD, ← hw0]; exact HR1.out.alloc _
    have HBD : Hid (Below (w.heap.size + 1 + 1) w0 wD) := by rw [hwD, ← hw0, ← HSZ.out]; exact (Below.refl _ _).alloc (Nat.le_refl _) _
    have HLD : Hid (Own wD (w.heap.size + 1 + 1) 5 (.slice (some ⟨w.heap.size + 1 + 1, 0, none⟩) 0 0) ([] : List Value)) := by
      rw [hwD, ← hw0, ← HSZ.out]; exact Own.lit w0 w0.heap.size 5 [] (Nat.le_refl _) (by simp)
    have HAD : Hid (Arg wD (.slice A n cap) b) := HA0.out.below (by rw [HSZ.out]; exact HBD.out)
    have hszD : w.heap.size + 1 + 1 ≤ wD.heap.size := Nat.le_trans (Nat.le_of_eq HSZ.out.symm) HBD.out.size
    have HLn : Hid (([] : List Value).length + (b.map V8).length ≤ 100000000) := by show _ ≤ _; rw [List.length_map, ← HNl.out]; simp; omega
    go_enter Try.func3, Try.ntmps3
    go_wp2_with (first
      | (at_builtin; rw [← hwD]; refine wpList_app rfl (.tmp 19) (.tmp 20) 24 rfl (w.heap.size + 1 + 1) 5 Try.underlying24 info8 rfl (by decide) _ [] rfl HLD.out _ (b.map V8) rfl (arg_from HAD.out) (oneC8 _) HLn.out hszD ?_; intro v' w1 hown hg _; rw [List.nil_append] at hown; have HB1 : Hid (Below (w.heap.size + 1 + 1) w0 w1) := below_app HBD.out HLD.out hg (Nat.le_refl _) hszD; have HO1 := Lib.hid hown.arg; obtain ⟨A2, cap2, rfl⟩ := HO1.out.form; have HR01 : Hid (Row w1 w.heap.size 22 kr) := HR0.out.below HB1.out (by omega); have HR11 : Hid (Row w1 (w.heap.size + 1) 23 nr) := HR1.out.below HB1.out (by omega); clear hown hg)
      | (refine wpList_load_row rfl 22 (.tmp 5) rfl w.heap.size rfl 22 kr.toArray (0, 0) _ HR01.out Try.underlying22 rfl (by rw [Hzk.out]; kernel_rfl) ?_)
      | (refine wpList_load_row rfl 23 (.tmp 6) rfl (w.heap.size + 1) rfl 23 nr.toArray (0, 0) _ HR11.out Try.underlying23 rfl (by rw [Hzn.out]; kernel_rfl) ?_))
    rw [← HNl.out] at HO1 ⊢
    have HA1 : Hid (Arg w1 (.slice A n cap) b) := HA0.out.below (by rw [HSZ.out]; exact HB1.out)
    have hs1 := HB1.out.size
    rw [HSZ.out] at hs1
    clear hwD hw0 HRD0 HRD1 HBD HLD HAD hszD HLn HA0 HR0 HR1
    refine (Code_any key nonce b kr nr HK.out HN.out _ (by rw [← HNl.out]; omega) w1 HO1.out).mono ?_
    rw [← HNl.out]
    rintro e w2 ⟨g1, rfl, hg1, HX2, hb2⟩
    have hs2 := hb2.size
    have HR02 : Hid (Row w2 w.heap.size 22 kr) := HR01.out.below hb2 (by omega)
    have HR12 : Hid (Row w2 (w.heap.size + 1) 23 nr) := HR11.out.below hb2 (by omega)
    have HA2 : Hid (Arg w2 (.slice A n cap) b) := HA1.out.below hb2
    have HO2 : Hid (Arg w2 (.slice A2 n cap2) b) := HO1.out.below hb2
    have HXA2 : Hid (Arg w2 (.slice (some ⟨g1, 0, none⟩) n n) (code key nonce b)) := HX2.out.arg n (by rw [code_length, HNl.out])
    have HB2 : Hid (Below w0.heap.size w0 w2) := (HSZ.out ▸ HB1.out).trans (hb2.mono (by rw [HSZ.out]; omega))
    clear HR01 HR11 HA1 HO1 HB1 hb2 HX2
    go_wp2_with fail
    refine (Nonce_any d D4 HD4.out u hu w2).mono ?_
    rintro e w3 ⟨ts, Hts, rfl, hb3⟩
    have hs3 := hb3.size
    have Hzt : Hid (ts.toArray.size = 12) := Hts.out.size
    have Hone : Hid (ts.toArray.all (·.oneCell') = true) := Hts.out.one
    have hb34 : Below w3.heap.size w3 ((w3.alloc (.cells Z12.toArray 23)).setRow w3.heap.size ts.toArray) := below_setRow' ((Below.refl _ _).alloc (Nat.le_refl _) _) (Nat.le_refl _) _
    have hb24 : Below w2.heap.size w2 ((w3.alloc (.cells Z12.toArray 23)).setRow w3.heap.size ts.toArray) := hb3.trans (hb34.mono hs3)
    have HN4 : Hid (Row ((w3.alloc (.cells Z12.toArray 23)).setRow w3.heap.size ts.toArray) w3.heap.size 23 ((nnc D4 u).map V8)) := Hts.out.row ((Row.new w3 23 Z12).whole ts)
    have HB24 := Lib.hid hb24
    clear hb34 hb24 hb3
    go_wp2_with (refine wpList_store_row rfl 23 (.tmp 13) (.tmp 28) rfl w3.heap.size ts.toArray rfl rfl 23 _ (Row.new w3 _ Z12) (by rw [Hzt.out]; kernel_rfl) (by rw [Hzt.out]; rfl) Hone.out ?_)
    clear hz
    obtain ⟨X, hX⟩ : ∃ X, X = w3.heap.size := ⟨_, rfl⟩
    rw [← hX] at HN4 HB24 ⊢
    clear hX
    generalize (w3.alloc (.cells Z12.toArray 23)).setRow X ts.toArray = w4 at *
    have hs4 := HB24.out.size
    have HR04 : Hid (Row w4 w.heap.size 22 kr) := HR02.out.below HB24.out (by omega)
    refine (RNew_any w.heap.size key HK.out.2 w4 HR04.out.lt (HK.out.row HR04.out).sees).mono ?_
    rintro e w1 ⟨p, rfl, HKA, hb5⟩
    have HB21 : Hid (Below w2.heap.size w2 w1) := HB24.out.trans (hb5.mono hs4)
    have HNr : Hid (Row w1 (w.heap.size + 1) 23 nr) := HR12.out.below HB21.out (by omega)
    have HNA : Hid (Arg w1 (.slice (some ⟨w.heap.size + 1, 0, none⟩) 12 12) nonce) := (HN.out.row HNr.out).arg 12 HN.out.2
    have HX1 : Hid (Arg w1 (.slice (some ⟨X, 0, none⟩) 12 12) (nnc D u)) := by
      have h1 := (HN4.out.below hb5 HN4.out.lt).arg 12 (nnc_length D4 u)
      rw [HNN.out] at h1
      exact h1
    have HA5 : Hid (Arg w1 (.slice A n cap) b) := HA2.out.below HB21.out
    have HO5 : Hid (Arg w1 (.slice A2 n cap2) b) := HO2.out.below HB21.out
    have HXA5 : Hid (Arg w1 (.slice (some ⟨g1, 0, none⟩) n n) (code key nonce b)) := HXA2.out.below HB21.out
    have HB01 : Hid (Below w0.heap.size w0 w1) := HB2.out.trans (HB21.out.mono HB2.out.size)
    have hs5 := HB01.out.size
    clear hb5 HB24 HB2 HB21 HNr HR04 HR02 HR12 HA2 HO2 HXA2 HN4 Hts Hzt Hone
    obtain ⟨E, hE⟩ : ∃ E, E = code key nonce b := ⟨_, rfl⟩
    obtain ⟨C, hC⟩ : ∃ C, C = nnc D u := ⟨_, rfl⟩
    have HE := Lib.hid hE
    have HC := Lib.hid hC
    rw [← hE] at HXA5
    rw [← hC] at HX1
    clear hE hC
    have HTW : Hid (∀ W, Below w1.heap.size w1 W → ((convert 24 9 (.slice (some ⟨g1, 0, none⟩) n n)).run Try.prog W = .ok (.string (strB E)) W ∧ (convert 24 9 (.slice (some ⟨X, 0, none⟩) 12 12)).run Try.prog W = .ok (.string (strB C)) W ∧ (convert 24 9 (.slice A2 n cap2)).run Try.prog W = .ok (.string (strB b)) W ∧ (convert 24 9 (.slice A n cap)).run Try.prog W = .ok (.string (strB b)) W)) := fun W hW => ⟨conv_arg (HXA5.out.below hW), conv_arg (HX1.out.below hW), conv_arg (HO5.out.below hW), conv_arg (HA5.out.below hW)⟩
    have hS1 : ((convert 24 9 (.slice (some ⟨g1, 0, none⟩) n n)).run Try.prog w1.drew = .ok (.string (strB E)) w1.drew ∧ (convert 24 9 (.slice (some ⟨X, 0, none⟩) 12 12)).run Try.prog w1.drew = .ok (.string (strB C)) w1.drew ∧ (convert 24 9 (.slice A2 n cap2)).run Try.prog w1.drew = .ok (.string (strB b)) w1.drew ∧ (convert 24 9 (.slice A n cap)).run Try.prog w1.drew = .ok (.string (strB b)) w1.drew) := HTW.out w1.drew ⟨rfl, rfl, rfl, Nat.le_refl _, fun _ _ => rfl⟩
    have HC1 : Hid (Calls Try.prog 9 #[.pointer (some ⟨p, 0, none⟩), .slice (some ⟨w.heap.size + 1, 0, none⟩) 12 12, .slice A n cap] w1.drew fun e w' => ∃ v', e = .returned v' ∧ (convert 24 9 v').run Try.prog w' = .ok (.string (strB E)) w' ∧ ((convert 24 9 (.slice (some ⟨g1, 0, none⟩) n n)).run Try.prog w' = .ok (.string (strB E)) w' ∧ (convert 24 9 (.slice (some ⟨X, 0, none⟩) 12 12)).run Try.prog w' = .ok (.string (strB C)) w' ∧ (convert 24 9 (.slice A2 n cap2)).run Try.prog w' = .ok (.string (strB b)) w' ∧ (convert 24 9 (.slice A n cap)).run Try.prog w' = .ok (.string (strB b)) w') ∧ Below w1.heap.size w1 w') :=
      (RCode_any p key nonce b HK.out.2 HN.out.2 (by rw [← HNl.out]; omega) _ _ w1.drew (HKA.out.below (Below.refl w1.heap.size w1).drew) HNA.out HA5.out).mono fun e w' ⟨v', he, ha, hb'⟩ => by
        have hb : Below w1.heap.size w1 w' := ⟨hb'.os, hb'.tape, hb'.output, hb'.size, hb'.block⟩
        rw [← HE.out] at ha
        exact ⟨v', he, conv_arg ha.out, HTW.out _ hb, hb⟩
    have HC2 : Hid (∀ W, Below w1.heap.size w1 W → Calls Try.prog 10 #[.int .i64 d, .int .u64 u] W fun e w' => ∃ v', e = .returned v' ∧ (convert 24 9 v').run Try.prog w' = .ok (.string (strB C)) w' ∧ ((convert 24 9 (.slice (some ⟨g1, 0, none⟩) n n)).run Try.prog w' = .ok (.string (strB E)) w' ∧ (convert 24 9 (.slice (some ⟨X, 0, none⟩) 12 12)).run Try.prog w' = .ok (.string (strB C)) w' ∧ (convert 24 9 (.slice A2 n cap2)).run Try.prog w' = .ok (.string (strB b)) w' ∧ (convert 24 9 (.slice A n cap)).run Try.prog w' = .ok (.string (strB b)) w') ∧ Below w1.heap.size w1 w') := fun W hW =>
      (RNonce_any d D HD.out u hu W).mono fun e w' ⟨v', he, ha, hb'⟩ => by
        have hb := hW.trans (hb'.mono hW.size)
        rw [← HC.out] at ha
        exact ⟨v', he, conv_arg ha.out, HTW.out _ hb, hb⟩
    have HKN : Hid (∀ W, Below w1.heap.size w1 W → Calls Try.prog 5 #[] W fun e w' => e = .returned (.bool true) ∧ ((convert 24 9 (.slice (some ⟨g1, 0, none⟩) n n)).run Try.prog w' = .ok (.string (strB E)) w' ∧ (convert 24 9 (.slice (some ⟨X, 0, none⟩) 12 12)).run Try.prog w' = .ok (.string (strB C)) w' ∧ (convert 24 9 (.slice A2 n cap2)).run Try.prog w' = .ok (.string (strB b)) w' ∧ (convert 24 9 (.slice A n cap)).run Try.prog w' = .ok (.string (strB b)) w') ∧ Below w1.heap.size w1 w') := fun W hW =>
      (Cknows_any W).mono fun e w' ⟨he, hb'⟩ => by
        have hb := hW.trans (hb'.mono hW.size)
        exact ⟨he, HTW.out _ hb, hb⟩
    clear HTW HXA5 HX1 HO5 HA5 HNA HKA HE HC
    go_wp2
    refine wp_region_held_drew (S := (fun W => ((convert 24 9 (.slice (some ⟨g1, 0, none⟩) n n)).run Try.prog W = .ok (.string (strB E)) W ∧ (convert 24 9 (.slice (some ⟨X, 0, none⟩) 12 12)).run Try.prog W = .ok (.string (strB C)) W ∧ (convert 24 9 (.slice A2 n cap2)).run Try.prog W = .ok (.string (strB b)) W ∧ (convert 24 9 (.slice A n cap)).run Try.prog W = .ok (.string (strB b)) W))) (by kernel_rfl) (hS1) (fun hHeld => ?_)
    refine wpAnyH_take (i := 0) (oi := ⟨some 31, _, _, _, _, _⟩) (v := ?_) rfl (by kernel_rfl) (by kernel_rfl) (by kernel_rfl) (fun _ _ _ h => h) (Or.inl ⟨by rfl, ?_⟩) hHeld ?_
    rotate_left
    · intro w hSw
      obtain ⟨hSx, hSn, hSo, hSb⟩ := hSw
      go_simp
      with_reducible rfl
    try go_frame
    refine wpAnyH_take (i := 1) (oi := ⟨some 32, _, _, _, _, _⟩) (v := ?_) rfl (by kernel_rfl) (by kernel_rfl) (by kernel_rfl) (fun _ _ _ h => h) (Or.inl ⟨by rfl, ?_⟩) hHeld ?_
    rotate_left
    · intro w hSw
      obtain ⟨hSx, hSn, hSo, hSb⟩ := hSw
      go_simp
      with_reducible rfl
    try go_frame
    refine wpAnyH_take (i := 2) (oi := ⟨some 33, _, _, _, _, _⟩) (v := ?_) rfl (by kernel_rfl) (by kernel_rfl) (by kernel_rfl) (fun _ _ _ h => h) (Or.inl ⟨by rfl, ?_⟩) hHeld ?_
    rotate_left
    · intro w hSw
      obtain ⟨hSx, hSn, hSo, hSb⟩ := hSw
      go_simp
      with_reducible rfl
    try go_frame
    refine wpAnyH_take (i := 3) (oi := ⟨some 34, _, _, _, _, _⟩) (v := ?_) rfl (by kernel_rfl) (by kernel_rfl) (by kernel_rfl) (fun _ _ _ h => h) (Or.inl ⟨by rfl, ?_⟩) hHeld ?_
    rotate_left
    · intro w hSw
      obtain ⟨hSx, hSn, hSo, hSb⟩ := hSw
      go_simp
      with_reducible rfl
    try go_frame
    refine wpAnyH_take (i := 4) (oi := ⟨some 35, _, _, _, _, _⟩) (v := ?_) rfl (by kernel_rfl) (by kernel_rfl) (by kernel_rfl) (fun _ _ _ h => h) (Or.inl ⟨by rfl, ?_⟩) hHeld ?_
    rotate_left
    · intro w hSw
      obtain ⟨hSx, hSn, hSo, hSb⟩ := hSw
      go_simp
      with_reducible rfl
    try go_frame
    refine wpAnyH_ready (rs := [5]) (by kernel_rfl) (by simp) ?_
    refine AllReadyH.cons (o := ⟨some 36, _, _, _, _, _⟩) rfl (fun K hK => ?_) AllReadyH.nil
    go_simp
    go_at_call 9
    refine HC1.out.mono ?_
    rintro e w2 ⟨v2, rfl, k2, hS2, hb2⟩
    refine hK.out _ _ (hS2) (fun hHeld => ?_)
    clear hK K
    try go_frame
    refine wpAnyH_ready (rs := [6]) (by kernel_rfl) (by simp) ?_
    refine AllReadyH.cons (o := ⟨some 37, _, _, _, _, _⟩) rfl (fun K hK => ?_) AllReadyH.nil
    go_simp
    refine hK.out _ _ (hS2) (fun hHeld => ?_)
    clear hK K
    try go_frame
    refine wpAnyH_take (i := 7) (oi := ⟨some 38, _, _, _, _, _⟩) (v := ?_) rfl (by kernel_rfl) (by kernel_rfl) (by kernel_rfl) (fun _ _ _ h => h) (Or.inl ⟨by rfl, ?_⟩) hHeld ?_
    rotate_left
    · intro w hSw
      obtain ⟨hSx, hSn, hSo, hSb⟩ := hSw
      go_simp
      with_reducible rfl
    try go_frame
    refine wpAnyH_take (i := 8) (oi := ⟨some 39, _, _, _, _, _⟩) (v := ?_) rfl (by kernel_rfl) (by kernel_rfl) (by kernel_rfl) (fun _ _ _ h => h) (Or.inl ⟨by rfl, ?_⟩) hHeld ?_
    rotate_left
    · intro w hSw
      obtain ⟨hSx, hSn, hSo, hSb⟩ := hSw
      go_simp
      with_reducible rfl
    try go_frame
    refine wpAnyH_take (i := 9) (oi := ⟨some 40, _, _, _, _, _⟩) (v := ?_) rfl (by kernel_rfl) (by kernel_rfl) (by kernel_rfl) (fun _ _ _ h => h) (Or.inl ⟨by rfl, ?_⟩) hHeld ?_
    rotate_left
    · intro w hSw
      obtain ⟨hSx, hSn, hSo, hSb⟩ := hSw
      go_simp
      with_reducible rfl
    try go_frame
    refine wpAnyH_take (i := 10) (oi := ⟨some 41, _, _, _, _, _⟩) (v := ?_) rfl (by kernel_rfl) (by kernel_rfl) (by kernel_rfl) (fun _ _ _ h => h) (Or.inl ⟨by rfl, ?_⟩) hHeld ?_
    rotate_left
    · intro w hSw
      obtain ⟨hSx, hSn, hSo, hSb⟩ := hSw
      go_simp
      with_reducible rfl
    try go_frame
    refine wpAnyH_take (i := 11) (oi := ⟨some 42, _, _, _, _, _⟩) (v := ?_) rfl (by kernel_rfl) (by kernel_rfl) (by kernel_rfl) (fun _ _ _ h => h) (Or.inl ⟨by rfl, ?_⟩) hHeld ?_
    rotate_left
    · intro w hSw
      obtain ⟨hSx, hSn, hSo, hSb⟩ := hSw
      go_simp
      with_reducible rfl
    try go_frame
    refine wpAnyH_take (i := 12) (oi := ⟨some 43, _, _, _, _, _⟩) (v := ?_) rfl (by kernel_rfl) (by kernel_rfl) (by kernel_rfl) (fun _ _ _ h => h) (Or.inl ⟨by rfl, ?_⟩) hHeld ?_
    rotate_left
    · intro w hSw
      obtain ⟨hSx, hSn, hSo, hSb⟩ := hSw
      go_simp
      with_reducible rfl
    try go_frame
    refine wpAnyH_ready (rs := [13]) (by kernel_rfl) (by simp) ?_
    refine AllReadyH.cons (o := ⟨some 44, _, _, _, _, _⟩) rfl (fun K hK => ?_) AllReadyH.nil
    go_simp
    go_at_call 10
    refine (HC2.out _ hb2).mono ?_
    rintro e w3 ⟨v3, rfl, k3, hS3, hb3⟩
    refine hK.out _ _ (hS3) (fun hHeld => ?_)
    clear hK K
    try go_frame
    refine wpAnyH_ready (rs := [14]) (by kernel_rfl) (by simp) ?_
    refine AllReadyH.cons (o := ⟨some 45, _, _, _, _, _⟩) rfl (fun K hK => ?_) AllReadyH.nil
    go_simp
    refine hK.out _ _ (hS3) (fun hHeld => ?_)
    clear hK K
    try go_frame
    refine wpAnyH_take (i := 15) (oi := ⟨some 46, _, _, _, _, _⟩) (v := ?_) rfl (by kernel_rfl) (by kernel_rfl) (by kernel_rfl) (fun _ _ _ h => h) (Or.inl ⟨by rfl, ?_⟩) hHeld ?_
    rotate_left
    · intro w hSw
      obtain ⟨hSx, hSn, hSo, hSb⟩ := hSw
      go_simp
      with_reducible rfl
    try go_frame
    refine wpAnyH_take (i := 16) (oi := ⟨some 47, _, _, _, _, _⟩) (v := ?_) rfl (by kernel_rfl) (by kernel_rfl) (by kernel_rfl) (fun _ _ _ h => h) (Or.inl ⟨by rfl, ?_⟩) hHeld ?_
    rotate_left
    · intro w hSw
      obtain ⟨hSx, hSn, hSo, hSb⟩ := hSw
      go_simp
      with_reducible rfl
    try go_frame
    refine wpAnyH_take (i := 17) (oi := ⟨some 48, _, _, _, _, _⟩) (v := ?_) rfl (by kernel_rfl) (by kernel_rfl) (by kernel_rfl) (fun _ _ _ h => h) (Or.inl ⟨by rfl, ?_⟩) hHeld ?_
    rotate_left
    · intro w hSw
      obtain ⟨hSx, hSn, hSo, hSb⟩ := hSw
      go_simp
      with_reducible rfl
    try go_frame
    refine wpAnyH_take (i := 18) (oi := ⟨some 49, _, _, _, _, _⟩) (v := ?_) rfl (by kernel_rfl) (by kernel_rfl) (by kernel_rfl) (fun _ _ _ h => h) (Or.inl ⟨by rfl, ?_⟩) hHeld ?_
    rotate_left
    · intro w hSw
      obtain ⟨hSx, hSn, hSo, hSb⟩ := hSw
      go_simp
      with_reducible rfl
    try go_frame
    refine wpAnyH_take (i := 19) (oi := ⟨some 50, _, _, _, _, _⟩) (v := ?_) rfl (by kernel_rfl) (by kernel_rfl) (by kernel_rfl) (fun _ _ _ h => h) (Or.inl ⟨by rfl, ?_⟩) hHeld ?_
    rotate_left
    · intro w hSw
      obtain ⟨hSx, hSn, hSo, hSb⟩ := hSw
      go_simp
      with_reducible rfl
    try go_frame
    refine wpAnyH_take (i := 20) (oi := ⟨some 51, _, _, _, _, _⟩) (v := ?_) rfl (by kernel_rfl) (by kernel_rfl) (by kernel_rfl) (fun _ _ _ h => h) (Or.inl ⟨by rfl, ?_⟩) hHeld ?_
    rotate_left
    · intro w hSw
      obtain ⟨hSx, hSn, hSo, hSb⟩ := hSw
      go_simp
      with_reducible rfl
    try go_frame
    refine wpAnyH_take (i := 21) (oi := ⟨some 52, _, _, _, _, _⟩) (v := ?_) rfl (by kernel_rfl) (by kernel_rfl) (by kernel_rfl) (fun _ _ _ h => h) (Or.inl ⟨by rfl, ?_⟩) hHeld ?_
    rotate_left
    · intro w hSw
      obtain ⟨hSx, hSn, hSo, hSb⟩ := hSw
      go_simp
      with_reducible rfl
    try go_frame
    refine wpAnyH_take (i := 22) (oi := ⟨some 53, _, _, _, _, _⟩) (v := ?_) rfl (by kernel_rfl) (by kernel_rfl) (by kernel_rfl) (fun _ _ _ h => h) (Or.inl ⟨by rfl, ?_⟩) hHeld ?_
    rotate_left
    · intro w hSw
      obtain ⟨hSx, hSn, hSo, hSb⟩ := hSw
      go_simp
      with_reducible rfl
    try go_frame
    refine wpAnyH_take (i := 23) (oi := ⟨some 54, _, _, _, _, _⟩) (v := ?_) rfl (by kernel_rfl) (by kernel_rfl) (by kernel_rfl) (fun _ _ _ h => h) (Or.inl ⟨by rfl, ?_⟩) hHeld ?_
    rotate_left
    · intro w hSw
      obtain ⟨hSx, hSn, hSo, hSb⟩ := hSw
      go_simp
      with_reducible rfl
    try go_frame
    refine wpAnyH_take (i := 24) (oi := ⟨some 55, _, _, _, _, _⟩) (v := ?_) rfl (by kernel_rfl) (by kernel_rfl) (by kernel_rfl) (fun _ _ _ h => h) (Or.inl ⟨by rfl, ?_⟩) hHeld ?_
    rotate_left
    · intro w hSw
      obtain ⟨hSx, hSn, hSo, hSb⟩ := hSw
      go_simp
      with_reducible rfl
    try go_frame
    refine wpAnyH_ready (rs := [25]) (by kernel_rfl) (by simp) ?_
    refine AllReadyH.cons (o := ⟨some 56, _, _, _, _, _⟩) rfl (fun K hK => ?_) AllReadyH.nil
    go_simp
    go_at_call 5
    refine (HKN.out _ hb3).mono ?_
    rintro e w4 ⟨rfl, hS4, hb4⟩
    refine hK.out _ _ (hS4) (fun hHeld => ?_)
    clear hK K
    try go_frame
    refine wpAnyH_take (i := 26) (oi := ⟨some 57, _, _, _, _, _⟩) (v := ?_) rfl (by kernel_rfl) (by kernel_rfl) (by kernel_rfl) (fun _ _ _ h => h) (Or.inl ⟨by rfl, ?_⟩) hHeld ?_
    rotate_left
    · intro w hSw
      obtain ⟨hSx, hSn, hSo, hSb⟩ := hSw
      go_simp
      with_reducible rfl
    try go_frame
    refine wpAnyH_take (i := 27) (oi := ⟨some 10, _, _, _, _, _⟩) (v := ?_) rfl (by kernel_rfl) (by kernel_rfl) (by kernel_rfl) (fun _ _ _ h => h) (Or.inl ⟨by rfl, ?_⟩) hHeld ?_
    rotate_left
    · intro w hSw
      obtain ⟨hSx, hSn, hSo, hSb⟩ := hSw
      go_simp
      with_reducible rfl
    try go_frame
    refine wpAnyH_done (by kernel_rfl) ?_ _
    clear hS1 hS2 hS3 hS4 k2 k3 hHeld HC1 HC2 HKN
    go_wp2
    go_ret
    exact ⟨rfl, HBL.out.trans ((HB01.out.trans (hb4.mono hs5)).mono hsz0)⟩
end Go.Proofs.Ytjdpfeagicchnaa
