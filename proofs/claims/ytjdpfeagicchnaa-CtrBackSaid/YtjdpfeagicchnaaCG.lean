/-
  THE WALK of the law CtrBack.
-/
import Derived.Test.YtjdpfeagicchnaaCF
import Derived.Deep.MidRow
import Derived.Deep.RegionHeld3
namespace Go.Proofs.Ytjdpfeagicchnaa
open Go.RowKit Aes Ctr

/-- b[:m]. -/
theorem Arg.cut {w : World} {A : Option Addr} {n cap : Nat} {b : List UInt8} (h : Arg w (.slice A n cap) b) (m : Nat) (hm : m ≤ n) (W : World) :
    (Instr.sliceAt 24 (.slice A n cap) none (some (.int .i64 (m : Int))) none).run Try.prog W = .ok (.slice A m cap) W := by
  have hc : m ≤ cap ∧ (cap = 0 ∨ ∃ x o, A = some ⟨x, o, none⟩) := by
    rcases h with ⟨A', e, _⟩ | ⟨x, o, c, e, _, hl, _⟩
    · injection e with _ e2 e3; omega
    · injection e with e1 e2 e3; exact ⟨by omega, .inr ⟨x, o, e1⟩⟩
  have hu : Try.prog.underlying 24 = some (.slice (Try.prog.elem 24)) := by kernel_rfl
  have hs : (sizeOf (Try.prog.elem 24)).run Try.prog W = .ok 1 W := by kernel_rfl
  rw [run_sliceAt_slice W _ _ _ _ _ hu, run_slice_h W _ A n cap hu .i64 (m : Int) (by omega) (by omega), hs]
  simp only [Result.andThen_ok, sliced, Int.toNat_natCast, Nat.sub_zero, Nat.zero_mul]
  rcases hc.2 with rfl | ⟨x, o, rfl⟩
  · rfl
  · split
    · rfl
    · rw [Option.map_some, add_off]; rfl
theorem Arg.take {w : World} {A : Option Addr} {n cap : Nat} {b : List UInt8} (h : Arg w (.slice A n cap) b) (hn : n = b.length) (m : Nat) (hm : m ≤ n) : Arg w (.slice A m cap) (b.take m) := by
  rcases h with ⟨A', e, rfl⟩ | ⟨x, o, c, e, hx, hl, hs⟩
  · injection e with e1 e2 e3
    obtain rfl : m = 0 := by omega
    exact .inl ⟨A, by rw [e3], rfl⟩
  · injection e with e1 e2 e3
    refine .inr ⟨x, o, c, by rw [e1, e3, List.length_take, Nat.min_eq_left (by omega)], hx, by rw [List.length_take]; omega, fun j u hu => hs j u ?_⟩
    rw [List.map_take, List.getElem?_take] at hu
    split at hu
    · exact hu
    · cases hu
theorem rem_at (s n : Nat) : ((s : Int) % ((n : Int) + 1)) = ((s % (n + 1) : Nat) : Int) := by rw [Int.natCast_emod, Int.natCast_add]; rfl

set_option maxRecDepth 100000 in
set_option maxHeartbeats 1000000 in
theorem CBack_any (key nonce b : List UInt8) (kr nr : List Value) (hk : Vec 16 key kr) (hn : Vec 12 nonce nr) (v : Value) (s : Nat) (hs : s < 65536) (w : World) (h : Arg w v b) :
    Calls Try.prog 4 #[.agg kr.toArray, .agg nr.toArray, v, .int .u16 s] w fun e w' => e = .returned (.bool true) ∧ Below w.heap.size w w' := by
  obtain ⟨A, cap, rfl⟩ := h.form
  obtain ⟨n, hnl⟩ : ∃ n, n = b.length := ⟨_, rfl⟩
  rw [← hnl] at h ⊢
  have HNl := Lib.hid hnl
  have HK := Lib.hid hk
  have HN := Lib.hid hn
  have Hzk : Hid (kr.toArray.size = 16) := hk.size
  have Hzn : Hid (nr.toArray.size = 12) := hn.size
  obtain ⟨w0, hw0⟩ : ∃ w0, w0 = (w.alloc (.cells kr.toArray 22)).alloc (.cells nr.toArray 23) := ⟨_, rfl⟩
  have HR0 : Hid (Row w0 w.heap.size 22 kr) := by rw [hw0]; exact (Row.new w 22 kr).alloc _
  have HR1 : Hid (Row w0 (w.heap.size + 1) 23 nr) := by rw [hw0]; exact Row.newAt 23 nr (by simp)
  have HBL : Hid (Below w.heap.size w w0) := by rw [hw0]; exact ((Below.refl _ _).alloc (Nat.le_refl _) _).alloc (by simp) _
  have HA0 : Hid (Arg w0 (.slice A n cap) b) := h.below HBL.out
  clear hnl hk hn h
  rcases Nat.lt_or_ge 300 n with hl | hl
  · go_enter Try.func4, Try.ntmps4
    go_wp2_with fail
    rw [← hw0]
    refine (Cknows_any w0).mono ?_
    rintro e w1 ⟨rfl, hb1⟩
    go_wp2
    go_ret
    exact ⟨rfl, HBL.out.trans (hb1.mono HBL.out.size)⟩
  · obtain ⟨m, hm⟩ : ∃ m, m = s % (n + 1) := ⟨_, rfl⟩
    have hmn : m ≤ n := by have := Nat.mod_lt s (show 0 < n + 1 by omega); omega
    go_enter Try.func4, Try.ntmps4
    go_wp2_with (first
      | (refine wpList_load_row rfl 22 (.tmp 4) rfl w.heap.size rfl 22 kr.toArray (0, 0) _ (hw0 ▸ HR0.out) Try.underlying22 rfl (by rw [Hzk.out]; kernel_rfl) ?_)
      | (refine wpList_load_row rfl 23 (.tmp 5) rfl (w.heap.size + 1) rfl 23 nr.toArray (0, 0) _ (hw0 ▸ HR1.out) Try.underlying23 rfl (by rw [Hzn.out]; kernel_rfl) ?_))
    rw [← hw0]
    simp only [rem_at, ← hm]
    clear hw0 hm
    refine (Code_any key nonce b kr nr HK.out HN.out _ (by rw [← HNl.out]; omega) w0 HA0.out).mono ?_
    rw [← HNl.out]
    rintro e w1 ⟨g1, rfl, hg1, HX1, hb1⟩
    have hS0 := HBL.out.size
    have hb01 : Below w.heap.size w w1 := HBL.out.trans (hb1.mono hS0)
    have HSW : Hid (∀ W, Below w1.heap.size w1 W → W.rangeAt w.heap.size 0 kr ∧ W.rangeAt (w.heap.size + 1) 0 nr) := fun W hW =>
      ⟨((HR0.out.below hb1 HR0.out.lt).below hW (Nat.lt_of_lt_of_le HR0.out.lt hb1.size)).sees, ((HR1.out.below hb1 HR1.out.lt).below hW (Nat.lt_of_lt_of_le HR1.out.lt hb1.size)).sees⟩
    have HA1 : Hid (Arg w1 (.slice A n cap) b) := HA0.out.below hb1
    have HXA : Hid (Arg w1 (.slice (some ⟨g1, 0, none⟩) n n) (code key nonce b)) := HX1.out.arg n (by rw [code_length, HNl.out])
    have hcut1 := fun W => HA1.out.cut m hmn W
    have hcut2 := fun W => HXA.out.cut m hmn W
    have hS1 : w1.drew.rangeAt w.heap.size 0 kr ∧ w1.drew.rangeAt (w.heap.size + 1) 0 nr := HSW.out w1.drew ⟨rfl, rfl, rfl, Nat.le_refl _, fun _ _ => rfl⟩
    have hi1 : (Try.prog.info? 22).map (·.size) = some kr.length := by rw [HK.out.len]; kernel_rfl
    have hi2 : (Try.prog.info? 23).map (·.size) = some nr.length := by rw [HN.out.len]; kernel_rfl
    obtain ⟨Y, hY⟩ : ∃ Y, Y = (code key nonce b).take m := ⟨_, rfl⟩
    have HY := Lib.hid hY
    clear hY
    have HC2 : Hid (Calls Try.prog 6 #[.agg kr.toArray, .agg nr.toArray, .slice A m cap] w1.drew fun e w' => ∃ g2, e = .returned (.slice (some ⟨g2, 0, none⟩) m m) ∧ Hid (Arg w' (.slice (some ⟨g2, 0, none⟩) m m) Y) ∧ (w'.rangeAt w.heap.size 0 kr ∧ w'.rangeAt (w.heap.size + 1) 0 nr) ∧ Below w1.heap.size w1 w') := by
      have ht : Arg w1.drew (.slice A m cap) (b.take m) := Arg.take (w := w1.drew) HA1.out HNl.out m hmn
      have hlt : (b.take m).length = m := by rw [List.length_take]; have := HNl.out; omega
      refine (Code_any key nonce (b.take m) kr nr HK.out HN.out _ (by omega) w1.drew ht).mono ?_
      rw [hlt]
      rintro e w' ⟨g2, he, _, hr, hb'⟩
      have hb : Below w1.heap.size w1 w' := ⟨hb'.os, hb'.tape, hb'.output, hb'.size, hb'.block⟩
      refine ⟨g2, he, ?_, HSW.out _ hb, hb⟩
      have := hr.out.arg m (by rw [code_length, hlt])
      rw [code_take, ← HY.out] at this
      exact this
    clear HR0 HR1 HA0 HX1
    go_wp2
    refine wp_region_held_drew (S := (fun W => W.rangeAt w.heap.size 0 kr ∧ W.rangeAt (w.heap.size + 1) 0 nr)) (by kernel_rfl) (hS1) (fun hHeld => ?_)
    refine wpAnyH_take (i := 0) (oi := ⟨some 26, _, _, _, _, _⟩) (v := .agg kr.toArray) rfl (by kernel_rfl) (by kernel_rfl) (by kernel_rfl) (fun _ _ _ h => h) (yieldsIf_load_mid (by rfl) 22 (.tmp 4) rfl w.heap.size 0 rfl kr _ (fun _ h => h.1) Try.underlying22 rfl hi1) hHeld ?_
    try go_frame
    refine wpAnyH_take (i := 1) (oi := ⟨some 27, _, _, _, _, _⟩) (v := .agg nr.toArray) rfl (by kernel_rfl) (by kernel_rfl) (by kernel_rfl) (fun _ _ _ h => h) (yieldsIf_load_mid (by rfl) 23 (.tmp 5) rfl (w.heap.size + 1) 0 rfl nr _ (fun _ h => h.2) Try.underlying23 rfl hi2) hHeld ?_
    try go_frame
    refine wpAnyH_take (i := 2) (oi := ⟨some 28, _, _, _, _, _⟩) (v := ?_) rfl (by kernel_rfl) (by kernel_rfl) (by kernel_rfl) (fun _ _ _ h => h) (Or.inl ⟨by rfl, ?_⟩) hHeld ?_
    rotate_left
    · intro w hSw
      clear hSw
      go_simp
      with_reducible rfl
    try go_frame
    refine wpAnyH_take (i := 3) (oi := ⟨some 29, _, _, _, _, _⟩) (v := ?_) rfl (by kernel_rfl) (by kernel_rfl) (by kernel_rfl) (fun _ _ _ h => h) (Or.inl ⟨by rfl, ?_⟩) hHeld ?_
    rotate_left
    · intro w hSw
      clear hSw
      go_simp
      with_reducible rfl
    try go_frame
    refine wpAnyH_take (i := 4) (oi := ⟨some 30, _, _, _, _, _⟩) (v := ?_) rfl (by kernel_rfl) (by kernel_rfl) (by kernel_rfl) (fun _ _ _ h => h) (Or.inl ⟨by rfl, ?_⟩) hHeld ?_
    rotate_left
    · intro w hSw
      clear hSw
      go_simp
      with_reducible rfl
    try go_frame
    refine wpAnyH_ready (rs := [5]) (by kernel_rfl) (by simp) ?_
    refine AllReadyH.cons (o := ⟨some 31, _, _, _, _, _⟩) rfl (fun K hK => ?_) AllReadyH.nil
    go_simp
    go_at_call 6
    refine HC2.out.mono ?_
    rintro e w2 ⟨g2, rfl, HY2, hS2, hb2⟩
    refine hK.out _ _ (hS2) (fun hHeld => ?_)
    clear hK K
    try go_frame
    refine wpAnyH_take (i := 6) (oi := ⟨some 11, _, _, _, _, _⟩) (v := ?_) rfl (by kernel_rfl) (by kernel_rfl) (by kernel_rfl) (fun _ _ _ h => h) (Or.inl ⟨by rfl, ?_⟩) hHeld ?_
    rotate_left
    · intro w hSw
      clear hSw
      go_simp
      with_reducible rfl
    try go_frame
    refine wpAnyH_done (by kernel_rfl) ?_ _
    clear hS1 hHeld HC2
    have hb02 : Below w.heap.size w w2 := hb01.trans (hb2.mono hb01.size)
    have HTW : Hid (∀ W, Below w2.heap.size w2 W → (W.rangeAt w.heap.size 0 kr ∧ W.rangeAt (w.heap.size + 1) 0 nr ∧ (convert 24 9 (.slice A n cap)).run Try.prog W = .ok (.string (strB b)) W ∧ (convert 24 9 (.slice (some ⟨g2, 0, none⟩) m m)).run Try.prog W = .ok (.string (strB Y)) W ∧ (convert 24 9 (.slice (some ⟨g1, 0, none⟩) m n)).run Try.prog W = .ok (.string (strB Y)) W)) := fun W hW => by
      have hW1 : Below w1.heap.size w1 W := hb2.trans (hW.mono hb2.size)
      have hx := (HXA.out.below hW1).take (by rw [code_length, HNl.out]) m hmn
      rw [← HY.out] at hx
      exact ⟨(HSW.out W hW1).1, (HSW.out W hW1).2, conv_arg (HA1.out.below hW1), conv_arg (HY2.out.below hW), conv_arg hx⟩
    have HC3 : Hid (Calls Try.prog 6 #[.agg kr.toArray, .agg nr.toArray, .slice (some ⟨g1, 0, none⟩) n n] w2.drew fun e w' => ∃ g3, e = .returned (.slice (some ⟨g3, 0, none⟩) n n) ∧ (convert 24 9 (.slice (some ⟨g3, 0, none⟩) n n)).run Try.prog w' = .ok (.string (strB b)) w' ∧ (w'.rangeAt w.heap.size 0 kr ∧ w'.rangeAt (w.heap.size + 1) 0 nr ∧ (convert 24 9 (.slice A n cap)).run Try.prog w' = .ok (.string (strB b)) w' ∧ (convert 24 9 (.slice (some ⟨g2, 0, none⟩) m m)).run Try.prog w' = .ok (.string (strB Y)) w' ∧ (convert 24 9 (.slice (some ⟨g1, 0, none⟩) m n)).run Try.prog w' = .ok (.string (strB Y)) w') ∧ Below w2.heap.size w2 w') := by
      have ht : Arg w2.drew (.slice (some ⟨g1, 0, none⟩) n n) (code key nonce b) := (HXA.out.below hb2 : Arg w2 _ _)
      have hlt : (code key nonce b).length = n := by rw [code_length, HNl.out]
      refine (Code_any key nonce (code key nonce b) kr nr HK.out HN.out _ (by omega) w2.drew ht).mono ?_
      rw [hlt]
      rintro e w' ⟨g3, he, _, hr, hb'⟩
      have hb : Below w2.heap.size w2 w' := ⟨hb'.os, hb'.tape, hb'.output, hb'.size, hb'.block⟩
      rw [code_code] at hr
      exact ⟨g3, he, conv_arg (hr.out.arg n HNl.out.symm), HTW.out _ hb, hb⟩
    have HKN : Hid (∀ W, Below w2.heap.size w2 W → Calls Try.prog 5 #[] W fun e w' => e = .returned (.bool true) ∧ (w'.rangeAt w.heap.size 0 kr ∧ w'.rangeAt (w.heap.size + 1) 0 nr ∧ (convert 24 9 (.slice A n cap)).run Try.prog w' = .ok (.string (strB b)) w' ∧ (convert 24 9 (.slice (some ⟨g2, 0, none⟩) m m)).run Try.prog w' = .ok (.string (strB Y)) w' ∧ (convert 24 9 (.slice (some ⟨g1, 0, none⟩) m n)).run Try.prog w' = .ok (.string (strB Y)) w') ∧ Below w2.heap.size w2 w') := fun W hW =>
      (Cknows_any W).mono fun e w' ⟨he, hb'⟩ => by
        have hb := hW.trans (hb'.mono hW.size)
        exact ⟨he, HTW.out _ hb, hb⟩
    have hT2 : (w2.drew.rangeAt w.heap.size 0 kr ∧ w2.drew.rangeAt (w.heap.size + 1) 0 nr ∧ (convert 24 9 (.slice A n cap)).run Try.prog w2.drew = .ok (.string (strB b)) w2.drew ∧ (convert 24 9 (.slice (some ⟨g2, 0, none⟩) m m)).run Try.prog w2.drew = .ok (.string (strB Y)) w2.drew ∧ (convert 24 9 (.slice (some ⟨g1, 0, none⟩) m n)).run Try.prog w2.drew = .ok (.string (strB Y)) w2.drew) := HTW.out w2.drew ⟨rfl, rfl, rfl, Nat.le_refl _, fun _ _ => rfl⟩
    have hsz2 := hb02.size
    clear HSW HA1 HXA HY HY2 hS2 HTW
    go_wp2
    refine wp_region_held_drew (S := (fun W => (W.rangeAt w.heap.size 0 kr ∧ W.rangeAt (w.heap.size + 1) 0 nr ∧ (convert 24 9 (.slice A n cap)).run Try.prog W = .ok (.string (strB b)) W ∧ (convert 24 9 (.slice (some ⟨g2, 0, none⟩) m m)).run Try.prog W = .ok (.string (strB Y)) W ∧ (convert 24 9 (.slice (some ⟨g1, 0, none⟩) m n)).run Try.prog W = .ok (.string (strB Y)) W))) (by kernel_rfl) (hT2) (fun hHeld => ?_)
    refine wpAnyH_take (i := 0) (oi := ⟨some 37, _, _, _, _, _⟩) (v := .agg kr.toArray) rfl (by kernel_rfl) (by kernel_rfl) (by kernel_rfl) (fun _ _ _ h => h) (yieldsIf_load_mid (by rfl) 22 (.tmp 4) rfl w.heap.size 0 rfl kr _ (fun _ h => h.1) Try.underlying22 rfl hi1) hHeld ?_
    try go_frame
    refine wpAnyH_take (i := 1) (oi := ⟨some 38, _, _, _, _, _⟩) (v := .agg nr.toArray) rfl (by kernel_rfl) (by kernel_rfl) (by kernel_rfl) (fun _ _ _ h => h) (yieldsIf_load_mid (by rfl) 23 (.tmp 5) rfl (w.heap.size + 1) 0 rfl nr _ (fun _ h => h.2.1) Try.underlying23 rfl hi2) hHeld ?_
    try go_frame
    refine wpAnyH_take (i := 2) (oi := ⟨some 39, _, _, _, _, _⟩) (v := ?_) rfl (by kernel_rfl) (by kernel_rfl) (by kernel_rfl) (fun _ _ _ h => h) (Or.inl ⟨by rfl, ?_⟩) hHeld ?_
    rotate_left
    · intro w hSw
      obtain ⟨_, _, hSb, hSy, hSx⟩ := hSw
      go_simp
      with_reducible rfl
    try go_frame
    refine wpAnyH_take (i := 5) (oi := ⟨some 42, _, _, _, _, _⟩) (v := ?_) rfl (by kernel_rfl) (by kernel_rfl) (by kernel_rfl) (fun _ _ _ h => h) (Or.inl ⟨by rfl, ?_⟩) hHeld ?_
    rotate_left
    · intro w hSw
      obtain ⟨_, _, hSb, hSy, hSx⟩ := hSw
      go_simp
      with_reducible rfl
    try go_frame
    refine wpAnyH_take (i := 6) (oi := ⟨some 43, _, _, _, _, _⟩) (v := ?_) rfl (by kernel_rfl) (by kernel_rfl) (by kernel_rfl) (fun _ _ _ h => h) (Or.inl ⟨by rfl, ?_⟩) hHeld ?_
    rotate_left
    · intro w hSw
      obtain ⟨_, _, hSb, hSy, hSx⟩ := hSw
      go_simp
      with_reducible rfl
    try go_frame
    refine wpAnyH_ready (rs := [3]) (by kernel_rfl) (by simp) ?_
    refine AllReadyH.cons (o := ⟨some 40, _, _, _, _, _⟩) rfl (fun K hK => ?_) AllReadyH.nil
    go_simp
    go_at_call 6
    refine HC3.out.mono ?_
    rintro e w3 ⟨g3, rfl, k3, hT3, hb3⟩
    refine hK.out _ _ (hT3) (fun hHeld => ?_)
    clear hK K
    try go_frame
    refine wpAnyH_ready (rs := [4]) (by kernel_rfl) (by simp) ?_
    refine AllReadyH.cons (o := ⟨some 41, _, _, _, _, _⟩) rfl (fun K hK => ?_) AllReadyH.nil
    go_simp
    refine hK.out _ _ (hT3) (fun hHeld => ?_)
    clear hK K
    try go_frame
    refine wpAnyH_take (i := 7) (oi := ⟨some 44, _, _, _, _, _⟩) (v := ?_) rfl (by kernel_rfl) (by kernel_rfl) (by kernel_rfl) (fun _ _ _ h => h) (Or.inl ⟨by rfl, ?_⟩) hHeld ?_
    rotate_left
    · intro w hSw
      obtain ⟨_, _, hSb, hSy, hSx⟩ := hSw
      go_simp
      with_reducible rfl
    try go_frame
    refine wpAnyH_take (i := 8) (oi := ⟨some 45, _, _, _, _, _⟩) (v := ?_) rfl (by kernel_rfl) (by kernel_rfl) (by kernel_rfl) (fun _ _ _ h => h) (Or.inl ⟨by rfl, ?_⟩) hHeld ?_
    rotate_left
    · intro w hSw
      obtain ⟨_, _, hSb, hSy, hSx⟩ := hSw
      go_simp
      with_reducible rfl
    try go_frame
    refine wpAnyH_take (i := 9) (oi := ⟨some 46, _, _, _, _, _⟩) (v := ?_) rfl (by kernel_rfl) (by kernel_rfl) (by kernel_rfl) (fun _ _ _ h => h) (Or.inl ⟨by rfl, ?_⟩) hHeld ?_
    rotate_left
    · intro w hSw
      obtain ⟨_, _, hSb, hSy, hSx⟩ := hSw
      go_simp
      with_reducible rfl
    try go_frame
    refine wpAnyH_take (i := 10) (oi := ⟨some 47, _, _, _, _, _⟩) (v := ?_) rfl (by kernel_rfl) (by kernel_rfl) (by kernel_rfl) (fun _ _ _ h => h) (Or.inl ⟨by rfl, ?_⟩) hHeld ?_
    rotate_left
    · intro w hSw
      obtain ⟨_, _, hSb, hSy, hSx⟩ := hSw
      go_simp
      with_reducible rfl
    try go_frame
    refine wpAnyH_take (i := 11) (oi := ⟨some 48, _, _, _, _, _⟩) (v := ?_) rfl (by kernel_rfl) (by kernel_rfl) (by kernel_rfl) (fun _ _ _ h => h) (Or.inl ⟨by rfl, ?_⟩) hHeld ?_
    rotate_left
    · intro w hSw
      obtain ⟨_, _, hSb, hSy, hSx⟩ := hSw
      go_simp
      with_reducible rfl
    try go_frame
    refine wpAnyH_take (i := 12) (oi := ⟨some 49, _, _, _, _, _⟩) (v := ?_) rfl (by kernel_rfl) (by kernel_rfl) (by kernel_rfl) (fun _ _ _ h => h) (Or.inl ⟨by rfl, ?_⟩) hHeld ?_
    rotate_left
    · intro w hSw
      obtain ⟨_, _, hSb, hSy, hSx⟩ := hSw
      go_simp
      with_reducible rfl
    try go_frame
    refine wpAnyH_take (i := 13) (oi := ⟨some 50, _, _, _, _, _⟩) (v := ?_) rfl (by kernel_rfl) (by kernel_rfl) (by kernel_rfl) (fun _ _ _ h => h) (Or.inl ⟨by rfl, ?_⟩) hHeld ?_
    rotate_left
    · intro w hSw
      obtain ⟨_, _, hSb, hSy, hSx⟩ := hSw
      go_simp
      with_reducible rfl
    try go_frame
    refine wpAnyH_take (i := 14) (oi := ⟨some 51, _, _, _, _, _⟩) (v := ?_) rfl (by kernel_rfl) (by kernel_rfl) (by kernel_rfl) (fun _ _ _ h => h) (Or.inl ⟨by rfl, ?_⟩) hHeld ?_
    rotate_left
    · intro w hSw
      obtain ⟨_, _, hSb, hSy, hSx⟩ := hSw
      go_simp
      with_reducible rfl
    try go_frame
    refine wpAnyH_take (i := 15) (oi := ⟨some 52, _, _, _, _, _⟩) (v := ?_) rfl (by kernel_rfl) (by kernel_rfl) (by kernel_rfl) (fun _ _ _ h => h) (Or.inl ⟨by rfl, ?_⟩) hHeld ?_
    rotate_left
    · intro w hSw
      obtain ⟨_, _, hSb, hSy, hSx⟩ := hSw
      go_simp
      with_reducible rfl
    try go_frame
    refine wpAnyH_take (i := 16) (oi := ⟨some 53, _, _, _, _, _⟩) (v := ?_) rfl (by kernel_rfl) (by kernel_rfl) (by kernel_rfl) (fun _ _ _ h => h) (Or.inl ⟨by rfl, ?_⟩) hHeld ?_
    rotate_left
    · intro w hSw
      obtain ⟨_, _, hSb, hSy, hSx⟩ := hSw
      go_simp
      with_reducible rfl
    try go_frame
    refine wpAnyH_take (i := 17) (oi := ⟨some 54, _, _, _, _, _⟩) (v := ?_) rfl (by kernel_rfl) (by kernel_rfl) (by kernel_rfl) (fun _ _ _ h => h) (Or.inl ⟨by rfl, ?_⟩) hHeld ?_
    rotate_left
    · intro w hSw
      obtain ⟨_, _, hSb, hSy, hSx⟩ := hSw
      go_simp
      with_reducible rfl
    try go_frame
    refine wpAnyH_ready (rs := [18]) (by kernel_rfl) (by simp) ?_
    refine AllReadyH.cons (o := ⟨some 55, _, _, _, _, _⟩) rfl (fun K hK => ?_) AllReadyH.nil
    go_simp
    go_at_call 5
    refine (HKN.out _ hb3).mono ?_
    rintro e w4 ⟨rfl, hT4, hb4⟩
    refine hK.out _ _ (hT4) (fun hHeld => ?_)
    clear hK K
    try go_frame
    refine wpAnyH_take (i := 19) (oi := ⟨some 56, _, _, _, _, _⟩) (v := ?_) rfl (by kernel_rfl) (by kernel_rfl) (by kernel_rfl) (fun _ _ _ h => h) (Or.inl ⟨by rfl, ?_⟩) hHeld ?_
    rotate_left
    · intro w hSw
      obtain ⟨_, _, hSb, hSy, hSx⟩ := hSw
      go_simp
      with_reducible rfl
    try go_frame
    refine wpAnyH_take (i := 20) (oi := ⟨some 8, _, _, _, _, _⟩) (v := ?_) rfl (by kernel_rfl) (by kernel_rfl) (by kernel_rfl) (fun _ _ _ h => h) (Or.inl ⟨by rfl, ?_⟩) hHeld ?_
    rotate_left
    · intro w hSw
      obtain ⟨_, _, hSb, hSy, hSx⟩ := hSw
      go_simp
      with_reducible rfl
    try go_frame
    refine wpAnyH_done (by kernel_rfl) ?_ _
    clear hT2 hT3 hT4 k3 hHeld hcut1 hcut2 hi1 hi2
    go_wp2
    go_ret
    exact ⟨rfl, hb02.trans (hb4.mono hsz2)⟩
end Go.Proofs.Ytjdpfeagicchnaa
