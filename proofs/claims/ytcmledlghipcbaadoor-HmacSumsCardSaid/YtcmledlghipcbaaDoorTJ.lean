/-
  THE WALK of the law HmacSums.
-/
import Derived.Test.YtcmledlghipcbaaDoorTI
namespace Go.Proofs.YtcmledlghipcbaaDoor
open Go.RowKit Sha

/-- Bytes read as a string. -/
def Conv (W : World) (v : Value) (bs : List UInt8) : Prop := (convert 22 9 v).run Tryd.prog W = .ok (.string (strB bs)) W
theorem Arg.conv {w : World} {v : Value} {bs : List UInt8} (h : Arg w v bs) : Conv w v bs := conv_arg h

set_option maxRecDepth 100000 in
set_option maxHeartbeats 400000 in
theorem HSums_far (A0 : Option Addr) (n0 c0 : Nat) (A1 : Option Addr) (n1 c1 : Nat) (A2 : Option Addr) (n2 c2 : Nat) (hn : 200 < n0 ∨ 200 < n1 ∨ 10 < n2) (w : World) (hT : Tab w) :
    Calls Tryd.prog 3 #[.slice A0 n0 c0, .slice A1 n1 c1, .slice A2 n2 c2] w fun e w' => e = .returned (.bool true) ∧ Below w.heap.size w w' := by
  have HT := Lib.hid hT
  clear hT
  by_cases h0 : 200 < n0
  · clear hn
    go_enter Tryd.func3, Tryd.ntmps3
    go_wp2_with fail
    refine (Hknows_any w HT.out).mono ?_
    rintro e w1 ⟨rfl, hb1⟩
    go_wp2
    go_ret
    exact ⟨rfl, hb1⟩
  · by_cases h1 : 200 < n1
    · clear hn
      go_enter Tryd.func3, Tryd.ntmps3
      go_wp2_with fail
      refine (Hknows_any w HT.out).mono ?_
      rintro e w1 ⟨rfl, hb1⟩
      go_wp2
      go_ret
      exact ⟨rfl, hb1⟩
    · have h2 : 10 < n2 := by omega
      clear hn
      go_enter Tryd.func3, Tryd.ntmps3
      go_wp2_with fail
      refine (Hknows_any w HT.out).mono ?_
      rintro e w1 ⟨rfl, hb1⟩
      go_wp2
      go_ret
      exact ⟨rfl, hb1⟩

set_option maxRecDepth 100000 in
set_option maxHeartbeats 1000000 in
theorem HSums_near (A0 : Option Addr) (n0 c0 : Nat) (A1 : Option Addr) (n1 c1 : Nat) (A2 : Option Addr) (n2 c2 : Nat) (h0 : n0 ≤ 200) (h1 : n1 ≤ 200) (h2 : n2 ≤ 10) (key b : List UInt8) (ps : List (List UInt8)) (hk : key.length = n0) (hb : b.length = n1) (w : World) (hT : Tab w)
    (ha0 : Arg w (.slice A0 n0 c0) key) (ha1 : Arg w (.slice A1 n1 c1) b) (ha2 : Parts w (.slice A2 n2 c2) ps) :
    Calls Tryd.prog 3 #[.slice A0 n0 c0, .slice A1 n1 c1, .slice A2 n2 c2] w fun e w' => e = .returned (.bool true) ∧ Below w.heap.size w w' := by
  have HT := Lib.hid hT
  have HK := Lib.hid ha0
  have HB := Lib.hid ha1
  have HP := Lib.hid ha2
  have HKl := Lib.hid hk
  have HBl := Lib.hid hb
  have HPl := Lib.hid ha2.len
  clear hT ha0 ha1 ha2 hk hb
  go_enter Tryd.func3, Tryd.ntmps3
  go_wp2
  go_loop [7] (fun i => ∃ j : Nat, j ≤ n2 ∧ i = .int .i64 j ∧ Short ps 100 j) (fun i => n2 - (intOf i).toNat)
  case atStart => exact ⟨0, by omega, rfl, Short.zero _ _⟩
  case round =>
    obtain ⟨j, hj, rfl, hsh⟩ := hrel
    by_cases hlt : j < n2
    · obtain ⟨pb, po, A', c', p, rfl, hbl, hpj, hcell, _⟩ := HP.out.at_ j hlt
      have Hsh := Lib.hid (fun hm => hsh.more hpj hm)
      clear hsh hpj
      obtain ⟨m, hm⟩ : ∃ m, m = p.length := ⟨_, rfl⟩
      rw [← hm] at hcell Hsh
      clear hm
      by_cases hml : 100 < m
      · go_wp2_with fail
        refine (Hknows_any w HT.out).mono ?_
        rintro e w1 ⟨rfl, hb1⟩
        go_wp2
        go_ret
        exact ⟨rfl, hb1⟩
      · go_wp2
        go_round
        case rel => exact ⟨j + 1, by omega, by go_num, Hsh.out (by omega)⟩
        case measure => simp [intOf]; omega
    · obtain rfl : j = n2 := by omega
      have HS : Hid (Small ps) := hsh.small HPl.out (by omega) (by omega)
      clear hsh
      have hz := zeroTag
      go_wp2_with fail
      refine (New_any _ key (by rw [HKl.out]; omega) w HK.out).mono ?_
      rintro e w1 ⟨p, rfl, hkey, hb1⟩
      have HKA := Lib.hid hkey
      clear hkey
      go_wp2_with fail
      refine (HSum_any _ _ key b (by rw [HKl.out]; omega) (by rw [HBl.out]; omega) w1 (HT.out.below hb1) (HK.out.below hb1) (HB.out.below hb1)).mono ?_
      rintro e w2 ⟨rs, Hrs, rfl, hb2⟩
      have Hsz : Hid (rs.toArray.size = 32) := Hrs.out.size
      have Hone : Hid (rs.toArray.all (·.oneCell') = true) := Hrs.out.one
      have hb3 : Below w2.heap.size w2 ((w2.alloc (.cells Z32.toArray 28)).setRow w2.heap.size rs.toArray) := below_setRow' ((Below.refl _ _).alloc (Nat.le_refl _) _) (Nat.le_refl _) _
      have HR3 : Hid (Row ((w2.alloc (.cells Z32.toArray 28)).setRow w2.heap.size rs.toArray) w2.heap.size 28 rs) := (Row.new w2 28 Z32).whole rs
      have HB13 : Hid (Below w1.heap.size w1 ((w2.alloc (.cells Z32.toArray 28)).setRow w2.heap.size rs.toArray)) := hb2.trans (hb3.mono hb2.size)
      have hs3 : ((w2.alloc (.cells Z32.toArray 28)).setRow w2.heap.size rs.toArray).heap.size = w2.heap.size + 1 := by simp
      clear hb3 hb2
      go_wp2_with (refine wpList_store_row rfl 28 (.tmp 9) (.tmp 42) rfl w2.heap.size rs.toArray rfl rfl 28 _ (Row.new w2 _ Z32) (by rw [Hsz.out]; kernel_rfl) (by rw [Hsz.out]; rfl) Hone.out ?_)
      generalize (w2.alloc (.cells Z32.toArray 28)).setRow w2.heap.size rs.toArray = w3 at *
      have hb03 : Below w.heap.size w w3 := hb1.trans (HB13.out.mono hb1.size)
      refine (Join_any _ key (by rw [HKl.out]; omega) A2 _ c2 ps HS.out w3 (HT.out.below hb03) (HK.out.below hb03) (HP.out.below hb03)).mono ?_
      rintro e w4 ⟨ts, Hts, rfl, hb4⟩
      have Htsz : Hid (ts.toArray.size = 32) := Hts.out.size
      have Htone : Hid (ts.toArray.all (·.oneCell') = true) := Hts.out.one
      go_wp2_with (refine wpList_store_row rfl 28 (.tmp 10) (.tmp 45) rfl w4.heap.size ts.toArray rfl rfl 28 _ (Row.new w4 _ Z32) (by rw [Htsz.out]; kernel_rfl) (by rw [Htsz.out]; rfl) Htone.out ?_)
      try go_frame
      refine leave_wp (fun w5 => Hid (Arg w5 (.slice (some ⟨w2.heap.size, 0, none⟩) 32 32) (mac key b)) ∧ Hid (Arg w5 (.slice (some ⟨w4.heap.size, 0, none⟩) 32 32) (mac key (joined ps))) ∧ Hid (KeyAt w5 p key) ∧ Below w.heap.size w w5) ?_ ?_
      · have hb5 : Below w4.heap.size w4 ((w4.alloc (.cells Z32.toArray 28)).setRow w4.heap.size ts.toArray) := below_setRow' ((Below.refl _ _).alloc (Nat.le_refl _) _) (Nat.le_refl _) _
        have hb35 : Below w3.heap.size w3 ((w4.alloc (.cells Z32.toArray 28)).setRow w4.heap.size ts.toArray) := hb4.trans (hb5.mono hb4.size)
        have hb15 := HB13.out.trans (hb35.mono HB13.out.size)
        refine ⟨?_, ?_, HKA.out.below hb15, hb1.trans (hb15.mono hb1.size)⟩
        · exact (Hrs.out.row (HR3.out.below hb35 (by omega))).arg 32 Hrs.out.2
        · exact (Hts.out.row ((Row.new w4 28 Z32).whole ts)).arg 32 Hts.out.2
      rintro w5 ⟨Hs5, Ht5, HK5, hb5⟩
      have h05 := hb5.size
      have HT5 : Hid (Tab w5) := HT.out.below hb5
      have HJl : Hid ((joined ps).length ≤ 900000) := by show _ ≤ _; have := HS.out.joined; omega
      have HB5 : Hid (Arg w5 (.slice A1 n1 c1) b) := HB.out.below hb5
      have HP5 : Hid (Parts w5 (.slice A2 j c2) ps) := HP.out.below hb5
      have HC : Hid (∀ W, Below w5.heap.size w5 W → ((convert 22 9 (.slice (some ⟨w2.heap.size, 0, none⟩) 32 32)).run Tryd.prog W = .ok (.string (strB (mac key b))) W ∧ (convert 22 9 (.slice (some ⟨w4.heap.size, 0, none⟩) 32 32)).run Tryd.prog W = .ok (.string (strB (mac key (joined ps)))) W)) := fun W hW => ⟨conv_arg (Hs5.out.below hW), conv_arg (Ht5.out.below hW)⟩
      have HS1 : Hid (Calls Tryd.prog 10 #[p, .slice A1 n1 c1] w5.drew fun e w' => ∃ v, e = .returned v ∧ (convert 22 9 (v)).run Tryd.prog w' = .ok (.string (strB (mac key b))) w' ∧ ((convert 22 9 (.slice (some ⟨w2.heap.size, 0, none⟩) 32 32)).run Tryd.prog w' = .ok (.string (strB (mac key b))) w' ∧ (convert 22 9 (.slice (some ⟨w4.heap.size, 0, none⟩) 32 32)).run Tryd.prog w' = .ok (.string (strB (mac key (joined ps)))) w') ∧ Below w5.heap.size w5 w') :=
        (KSum_any p key _ b (by rw [HBl.out]; omega) w5.drew HK5.out HB5.out).mono fun e w' ⟨v, he, ho, hb'⟩ => by
          have hb : Below w5.heap.size w5 w' := ⟨hb'.os, hb'.tape, hb'.output, hb'.size, hb'.block⟩
          exact ⟨v, he, conv_arg ho.arg, HC.out _ hb, hb⟩
      have HJ : Hid (∀ W, Below w5.heap.size w5 W → Calls Tryd.prog 11 #[.slice A2 j c2] W fun e w' => ∃ v, e = .returned v ∧ Hid (Arg w' v (joined ps)) ∧ ((convert 22 9 (.slice (some ⟨w2.heap.size, 0, none⟩) 32 32)).run Tryd.prog w' = .ok (.string (strB (mac key b))) w' ∧ (convert 22 9 (.slice (some ⟨w4.heap.size, 0, none⟩) 32 32)).run Tryd.prog w' = .ok (.string (strB (mac key (joined ps)))) w') ∧ Below w5.heap.size w5 w') := fun W hW =>
        (Joined_any A2 j c2 ps HS.out W (HP5.out.below hW)).mono fun e w' ⟨v, he, ho, hb'⟩ => by
          have hb := hW.trans (hb'.mono hW.size)
          exact ⟨v, he, ho.arg, HC.out _ hb, hb⟩
      have HS2 : Hid (∀ W v, Arg W v (joined ps) → Below w5.heap.size w5 W → Calls Tryd.prog 10 #[p, v] W fun e w' => ∃ v, e = .returned v ∧ (convert 22 9 (v)).run Tryd.prog w' = .ok (.string (strB (mac key (joined ps)))) w' ∧ ((convert 22 9 (.slice (some ⟨w2.heap.size, 0, none⟩) 32 32)).run Tryd.prog w' = .ok (.string (strB (mac key b))) w' ∧ (convert 22 9 (.slice (some ⟨w4.heap.size, 0, none⟩) 32 32)).run Tryd.prog w' = .ok (.string (strB (mac key (joined ps)))) w') ∧ Below w5.heap.size w5 w') := fun W v hv hW =>
        (KSum_any p key v (joined ps) HJl.out W (HK5.out.below hW) hv).mono fun e w' ⟨v, he, ho, hb'⟩ => by
          have hb := hW.trans (hb'.mono hW.size)
          exact ⟨v, he, conv_arg ho.arg, HC.out _ hb, hb⟩
      have HKN : Hid (∀ W, Below w5.heap.size w5 W → Calls Tryd.prog 6 #[] W fun e w' => e = .returned (.bool true) ∧ ((convert 22 9 (.slice (some ⟨w2.heap.size, 0, none⟩) 32 32)).run Tryd.prog w' = .ok (.string (strB (mac key b))) w' ∧ (convert 22 9 (.slice (some ⟨w4.heap.size, 0, none⟩) 32 32)).run Tryd.prog w' = .ok (.string (strB (mac key (joined ps)))) w') ∧ Below w5.heap.size w5 w') := fun W hW =>
        (Hknows_any W (HT5.out.below hW)).mono fun e w' ⟨he, hb'⟩ => by
          have hb := hW.trans (hb'.mono hW.size)
          exact ⟨he, HC.out _ hb, hb⟩
      have hS0 : ((convert 22 9 (.slice (some ⟨w2.heap.size, 0, none⟩) 32 32)).run Tryd.prog w5.drew = .ok (.string (strB (mac key b))) w5.drew ∧ (convert 22 9 (.slice (some ⟨w4.heap.size, 0, none⟩) 32 32)).run Tryd.prog w5.drew = .ok (.string (strB (mac key (joined ps)))) w5.drew) := ⟨conv_arg (w := w5.drew) Hs5.out, conv_arg (w := w5.drew) Ht5.out⟩
      clear Hs5 Ht5 HK5 HB5 HP5 HT5 HJl hz hb4 hb03 HR3 HB13 hs3 Hrs Hsz Hone Hts Htsz Htone HKA hb1 HC
      generalize mac key b = D1 at *
      generalize mac key (joined ps) = D2 at *
      refine wp_region_held_drew (S := (fun W => ((convert 22 9 (.slice (some ⟨w2.heap.size, 0, none⟩) 32 32)).run Tryd.prog W = .ok (.string (strB (D1))) W ∧ (convert 22 9 (.slice (some ⟨w4.heap.size, 0, none⟩) 32 32)).run Tryd.prog W = .ok (.string (strB (D2))) W))) (by kernel_rfl) (hS0) (fun hHeld => ?_)
      refine wpAnyH_take (i := 0) (oi := ⟨some 46, _, _, _, _, _⟩) (v := ?_) rfl (by kernel_rfl) (by kernel_rfl) (by kernel_rfl) (fun _ _ _ h => h) (Or.inl ⟨by rfl, ?_⟩) hHeld ?_
      rotate_left
      · intro w hSw
        obtain ⟨hSw1, hSw2⟩ := hSw
        go_simp
        with_reducible rfl
      try go_frame
      refine wpAnyH_take (i := 1) (oi := ⟨some 47, _, _, _, _, _⟩) (v := ?_) rfl (by kernel_rfl) (by kernel_rfl) (by kernel_rfl) (fun _ _ _ h => h) (Or.inl ⟨by rfl, ?_⟩) hHeld ?_
      rotate_left
      · intro w hSw
        obtain ⟨hSw1, hSw2⟩ := hSw
        go_simp
        with_reducible rfl
      try go_frame
      refine wpAnyH_take (i := 2) (oi := ⟨some 48, _, _, _, _, _⟩) (v := ?_) rfl (by kernel_rfl) (by kernel_rfl) (by kernel_rfl) (fun _ _ _ h => h) (Or.inl ⟨by rfl, ?_⟩) hHeld ?_
      rotate_left
      · intro w hSw
        obtain ⟨hSw1, hSw2⟩ := hSw
        go_simp
        with_reducible rfl
      try go_frame
      refine wpAnyH_take (i := 3) (oi := ⟨some 49, _, _, _, _, _⟩) (v := ?_) rfl (by kernel_rfl) (by kernel_rfl) (by kernel_rfl) (fun _ _ _ h => h) (Or.inl ⟨by rfl, ?_⟩) hHeld ?_
      rotate_left
      · intro w hSw
        obtain ⟨hSw1, hSw2⟩ := hSw
        go_simp
        with_reducible rfl
      try go_frame
      refine wpAnyH_ready (rs := [4]) (by kernel_rfl) (by simp) ?_
      refine AllReadyH.cons (o := ⟨some 50, _, _, _, _, _⟩) rfl (fun K hK => ?_) AllReadyH.nil
      go_simp
      go_at_call 10
      refine HS1.out.mono ?_
      rintro e w6 ⟨v6, rfl, k61, hS6, hb6⟩
      refine hK.out _ _ (hS6) (fun hHeld => ?_)
      clear hK K
      try go_frame
      refine wpAnyH_ready (rs := [5]) (by kernel_rfl) (by simp) ?_
      refine AllReadyH.cons (o := ⟨some 51, _, _, _, _, _⟩) rfl (fun K hK => ?_) AllReadyH.nil
      go_simp
      refine hK.out _ _ (hS6) (fun hHeld => ?_)
      clear hK K
      try go_frame
      refine wpAnyH_take (i := 6) (oi := ⟨some 52, _, _, _, _, _⟩) (v := ?_) rfl (by kernel_rfl) (by kernel_rfl) (by kernel_rfl) (fun _ _ _ h => h) (Or.inl ⟨by rfl, ?_⟩) hHeld ?_
      rotate_left
      · intro w hSw
        obtain ⟨hSw1, hSw2⟩ := hSw
        go_simp
        with_reducible rfl
      try go_frame
      refine wpAnyH_take (i := 7) (oi := ⟨some 53, _, _, _, _, _⟩) (v := ?_) rfl (by kernel_rfl) (by kernel_rfl) (by kernel_rfl) (fun _ _ _ h => h) (Or.inl ⟨by rfl, ?_⟩) hHeld ?_
      rotate_left
      · intro w hSw
        obtain ⟨hSw1, hSw2⟩ := hSw
        go_simp
        with_reducible rfl
      try go_frame
      refine wpAnyH_take (i := 8) (oi := ⟨some 54, _, _, _, _, _⟩) (v := ?_) rfl (by kernel_rfl) (by kernel_rfl) (by kernel_rfl) (fun _ _ _ h => h) (Or.inl ⟨by rfl, ?_⟩) hHeld ?_
      rotate_left
      · intro w hSw
        obtain ⟨hSw1, hSw2⟩ := hSw
        go_simp
        with_reducible rfl
      try go_frame
      refine wpAnyH_take (i := 9) (oi := ⟨some 55, _, _, _, _, _⟩) (v := ?_) rfl (by kernel_rfl) (by kernel_rfl) (by kernel_rfl) (fun _ _ _ h => h) (Or.inl ⟨by rfl, ?_⟩) hHeld ?_
      rotate_left
      · intro w hSw
        obtain ⟨hSw1, hSw2⟩ := hSw
        go_simp
        with_reducible rfl
      try go_frame
      refine wpAnyH_take (i := 10) (oi := ⟨some 56, _, _, _, _, _⟩) (v := ?_) rfl (by kernel_rfl) (by kernel_rfl) (by kernel_rfl) (fun _ _ _ h => h) (Or.inl ⟨by rfl, ?_⟩) hHeld ?_
      rotate_left
      · intro w hSw
        obtain ⟨hSw1, hSw2⟩ := hSw
        go_simp
        with_reducible rfl
      try go_frame
      refine wpAnyH_take (i := 11) (oi := ⟨some 57, _, _, _, _, _⟩) (v := ?_) rfl (by kernel_rfl) (by kernel_rfl) (by kernel_rfl) (fun _ _ _ h => h) (Or.inl ⟨by rfl, ?_⟩) hHeld ?_
      rotate_left
      · intro w hSw
        obtain ⟨hSw1, hSw2⟩ := hSw
        go_simp
        with_reducible rfl
      try go_frame
      refine wpAnyH_ready (rs := [12]) (by kernel_rfl) (by simp) ?_
      refine AllReadyH.cons (o := ⟨some 58, _, _, _, _, _⟩) rfl (fun K hK => ?_) AllReadyH.nil
      go_simp
      go_at_call 11
      refine (HJ.out _ hb6).mono ?_
      rintro e w7 ⟨v7, rfl, HA7, hS7, hb7⟩
      refine hK.out _ _ (hS7) (fun hHeld => ?_)
      clear hK K
      try go_frame
      refine wpAnyH_ready (rs := [13]) (by kernel_rfl) (by simp) ?_
      refine AllReadyH.cons (o := ⟨some 59, _, _, _, _, _⟩) rfl (fun K hK => ?_) AllReadyH.nil
      go_simp
      go_at_call 10
      refine (HS2.out _ _ HA7.out hb7).mono ?_
      rintro e w8 ⟨v8, rfl, k81, hS8, hb8⟩
      refine hK.out _ _ (hS8) (fun hHeld => ?_)
      clear hK K
      try go_frame
      refine wpAnyH_ready (rs := [14]) (by kernel_rfl) (by simp) ?_
      refine AllReadyH.cons (o := ⟨some 60, _, _, _, _, _⟩) rfl (fun K hK => ?_) AllReadyH.nil
      go_simp
      refine hK.out _ _ (hS8) (fun hHeld => ?_)
      clear hK K
      try go_frame
      refine wpAnyH_take (i := 15) (oi := ⟨some 61, _, _, _, _, _⟩) (v := ?_) rfl (by kernel_rfl) (by kernel_rfl) (by kernel_rfl) (fun _ _ _ h => h) (Or.inl ⟨by rfl, ?_⟩) hHeld ?_
      rotate_left
      · intro w hSw
        obtain ⟨hSw1, hSw2⟩ := hSw
        go_simp
        with_reducible rfl
      try go_frame
      refine wpAnyH_take (i := 16) (oi := ⟨some 62, _, _, _, _, _⟩) (v := ?_) rfl (by kernel_rfl) (by kernel_rfl) (by kernel_rfl) (fun _ _ _ h => h) (Or.inl ⟨by rfl, ?_⟩) hHeld ?_
      rotate_left
      · intro w hSw
        obtain ⟨hSw1, hSw2⟩ := hSw
        go_simp
        with_reducible rfl
      try go_frame
      refine wpAnyH_take (i := 17) (oi := ⟨some 63, _, _, _, _, _⟩) (v := ?_) rfl (by kernel_rfl) (by kernel_rfl) (by kernel_rfl) (fun _ _ _ h => h) (Or.inl ⟨by rfl, ?_⟩) hHeld ?_
      rotate_left
      · intro w hSw
        obtain ⟨hSw1, hSw2⟩ := hSw
        go_simp
        with_reducible rfl
      try go_frame
      refine wpAnyH_ready (rs := [18]) (by kernel_rfl) (by simp) ?_
      refine AllReadyH.cons (o := ⟨some 64, _, _, _, _, _⟩) rfl (fun K hK => ?_) AllReadyH.nil
      go_simp
      go_at_call 6
      refine (HKN.out _ hb8).mono ?_
      rintro e w9 ⟨rfl, hS9, hb9⟩
      refine hK.out _ _ (hS9) (fun hHeld => ?_)
      clear hK K
      try go_frame
      refine wpAnyH_take (i := 19) (oi := ⟨some 65, _, _, _, _, _⟩) (v := ?_) rfl (by kernel_rfl) (by kernel_rfl) (by kernel_rfl) (fun _ _ _ h => h) (Or.inl ⟨by rfl, ?_⟩) hHeld ?_
      rotate_left
      · intro w hSw
        obtain ⟨hSw1, hSw2⟩ := hSw
        go_simp
        with_reducible rfl
      try go_frame
      refine wpAnyH_take (i := 20) (oi := ⟨some 6, _, _, _, _, _⟩) (v := ?_) rfl (by kernel_rfl) (by kernel_rfl) (by kernel_rfl) (fun _ _ _ h => h) (Or.inl ⟨by rfl, ?_⟩) hHeld ?_
      rotate_left
      · intro w hSw
        obtain ⟨hSw1, hSw2⟩ := hSw
        go_simp
        with_reducible rfl
      try go_frame
      refine wpAnyH_done (by kernel_rfl) ?_ _
      clear hS0 hS6 hS7 hS8 hS9 hHeld
      go_wp2
      go_ret
      exact ⟨rfl, hb5.trans (hb9.mono h05)⟩
end Go.Proofs.YtcmledlghipcbaaDoor
