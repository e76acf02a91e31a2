/-
  2 texts in one (LC, LDA): each says at its own head what it holds.
-/
import Derived.Test.YtiafmghdiidniaaLB
import Derived.Deep.OwnRows
import Derived.Deep.RegionHeld3
import Derived.Lib.SmallJoins

section
/-
  THE WALKS of the reference's Part, Sized.
-/
namespace Go.Proofs.Ytiafmghdiidniaa
open Go.RowKit Cdc Inn Fil

theorem wrapI (z : Int) (h : In64 z) : IntKind.i64.wrap z = z := by
  obtain ⟨h1, h2⟩ := h
  show (if true && decide (z % (2 ^ 64 : Int) ≥ (2 ^ 63 : Int)) then z % (2 ^ 64 : Int) - (2 ^ 64 : Int) else z % (2 ^ 64 : Int)) = z
  rw [Bool.true_and]
  split
  · next h => have := of_decide_eq_true h; omega
  · next h => rw [decide_eq_true_eq] at h; omega
theorem strB_size (s : List UInt8) : (strB s).size = s.length := by unfold strB; simp [ByteArray.size]
theorem strB_extract (s : List UInt8) (i j : Nat) : (strB s).extract i j = strB ((s.take j).drop i) := by
  apply ByteArray.ext
  unfold strB
  rw [ByteArray.data_extract]
  apply Array.toList_inj.1
  rw [Array.toList_extract]
  simp [List.extract_eq_take_drop, List.drop_take]
theorem strB_append (a b : List UInt8) : strB a ++ strB b = strB (a ++ b) := by
  apply ByteArray.ext
  unfold strB
  rw [ByteArray.data_append]
  simp
theorem piece_out {s : List UInt8} {off n : Int} (h : (s.length : Int) ≤ off) : piece s off n = [] := by
  unfold piece
  rw [List.drop_eq_nil_of_le (by omega), List.take_nil]

set_option maxRecDepth 100000 in
set_option maxHeartbeats 400000 in
theorem RFiPart_any (s : List UInt8) (off n : Int) (ho : 0 ≤ off) (hn : 0 ≤ n) (w : World) :
    Calls Try.prog 18 #[.string (strB s), .int .i64 off, .int .i64 n] w fun e w' => e = .returned (.string (strB (piece s off n))) ∧ w' = w := by
  obtain ⟨m, hm⟩ : ∃ m, m = s.length := ⟨_, rfl⟩
  have hsz : (strB s).size = m := by rw [strB_size, hm]
  have Hm := Lib.hid hm
  clear hm
  go_enter Try.func18, Try.ntmps18
  rcases Int.lt_or_le off m with h | h
  · obtain ⟨o, rfl⟩ : ∃ o : Nat, off = o := ⟨off.toNat, by omega⟩
    have E1 : Hid ((strB s).extract o m = strB (s.drop o)) := by
      show _ = _
      rw [strB_extract, Hm.out, List.take_length]
    rcases Int.lt_or_le n ((m : Int) - o) with h2 | h2
    · have E2 : Hid (((strB s).extract o m).extract 0 n.toNat = strB (piece s o n)) := by show _ = _; rw [E1.out, strB_extract, List.drop_zero]; rfl
      go_wp2
      go_ret
      rw [← E2.out]
      exact ⟨rfl, rfl⟩
    · have E2 : Hid ((strB s).extract o m = strB (piece s o n)) := by
        show _ = _
        rw [E1.out]
        unfold piece
        rw [Int.toNat_natCast, List.take_of_length_le]
        rw [List.length_drop, ← Hm.out]; omega
      go_wp2
      go_ret
      rw [← E2.out]
      exact ⟨rfl, rfl⟩
  · have he : piece s off n = [] := piece_out (by rw [← Hm.out]; exact h)
    rw [he]
    go_wp2
    go_ret
    exact ⟨rfl, rfl⟩

theorem madeZ (n : Nat) (hn : n ≤ 1000000) (W : World) : (Instr.makeSlice 41 (.int .i64 (n : Int)) (.int .i64 (n : Int))).run Try.prog W = .ok (.slice (some ⟨W.heap.size, 0, none⟩) n n) (W.alloc (.cells ((List.replicate n 0).map V8).toArray 5)) := by
  have h := run_make_row' (P := Try.prog) 41 5 (.int .u8 0) 1 Try.underlying41 info8 rfl .i64 .i64 n (by omega) (by omega) W
  rw [show madeCells #[Value.int .u8 0] n = ((List.replicate n 0).map V8).toArray from by
    unfold madeCells
    apply Array.ext
    · simp
    · intro i h1 h2
      simp [V8, Nat.mod_one]] at h
  exact h
theorem zeros_conv (n : Nat) (W : World) (g : Nat) (h : Row W g 5 ((List.replicate n 0).map V8)) : (convert 41 9 (.slice (some ⟨g, 0, none⟩) n n)).run Try.prog W = .ok (.string (strB (List.replicate n 0))) W :=
  conv_arg (.inr ⟨g, 0, n, by rw [List.length_replicate], h.lt, by rw [List.length_replicate]; exact Nat.le_refl _, h.sees⟩)

set_option maxRecDepth 100000 in
set_option maxHeartbeats 400000 in
theorem RFiSized_any (s : List UInt8) (hs : s.length ≤ 1000000) (n : Nat) (hn : n ≤ 1000000) (w : World) :
    Calls Try.prog 32 #[.string (strB s), .int .i64 n] w fun e w' => e = .returned (.string (strB (sized s n))) ∧ Below w.heap.size w w' := by
  obtain ⟨m, hm⟩ : ∃ m, m = s.length := ⟨_, rfl⟩
  have hsz : (strB s).size = m := by rw [strB_size, hm]
  have Hm := Lib.hid hm
  rw [← hm] at hs
  clear hm
  go_enter Try.func32, Try.ntmps32
  by_cases h : n ≤ m
  · have E : Hid ((strB s).extract 0 n = strB (sized s n)) := by
      show _ = _
      rw [strB_extract, List.drop_zero, sized_short (by rw [← Hm.out]; exact h)]
    go_wp2
    go_ret
    rw [← E.out]
    exact ⟨rfl, Below.refl _ _⟩
  · obtain ⟨k, hk⟩ : ∃ k, n = m + k := ⟨n - m, by omega⟩
    have E : Hid (strB s ++ strB (List.replicate k 0) = strB (sized s n)) := by
      show _ = _
      rw [strB_append, sized_long (by rw [← Hm.out]; omega), ← Hm.out, show n - m = k by omega]
    subst hk
    have hmk : ∀ W, (Instr.makeSlice 41 (.int .i64 ((m : Int) + k - m)) (.int .i64 ((m : Int) + k - m))).run Try.prog W = .ok (.slice (some ⟨W.heap.size, 0, none⟩) k k) (W.alloc (.cells ((List.replicate k 0).map V8).toArray 5)) := fun W => by
      rw [show (m : Int) + k - m = k by omega]; exact madeZ k (by omega) W
    have hcv := zeros_conv k (w.alloc (.cells ((List.replicate k 0).map V8).toArray 5)) w.heap.size (Row.new w _ _)
    have HC : Hid (Below w.heap.size w (w.alloc (.cells ((List.replicate k 0).map V8).toArray 5))) := (Below.refl _ _).alloc (Nat.le_refl _) _
    generalize ((List.replicate k 0).map V8).toArray = cs at *
    have hzk : (strB (List.replicate k 0)).size = k := by rw [strB_size, List.length_replicate]
    go_wp2
    go_ret
    rw [← E.out]
    exact ⟨rfl, HC.out⟩
end Go.Proofs.Ytiafmghdiidniaa
end

section
/-
  THE WALKS of layer 14's reference: May.
-/
namespace Go.Proofs.Ytiafmghdiidniaa
open Go.RowKit Cdc Inn Fil

set_option maxRecDepth 100000 in
set_option maxHeartbeats 1000000 in
theorem RFiMay_any (g : Geo) (w : World) :
    Calls Try.prog 8 #[.agg #[.int .i64 g.n, .int .i64 g.k]] w fun e w' => e = .returned (.bool (gmay g)) ∧ Below w.heap.size w w' := by
  have hF : 0 ≤ g.k → g.k ≤ 32 → ∀ W, Calls Try.prog 11 #[.agg #[.int .i64 g.n, .int .i64 g.k]] W fun e w' => e = .returned (.int .i64 (gfirst g)) ∧ Below W.heap.size W w' := fun h0 hk W => RFiFirst_any g h0 hk W
  have hiff := @gmay_iff g
  obtain ⟨r, hr⟩ : ∃ r, r = gmay g := ⟨_, rfl⟩
  rw [← hr] at hiff ⊢
  clear hr
  generalize gfirst g = F at *
  obtain ⟨n, k⟩ := g
  simp only at *
  obtain ⟨w0, hw0⟩ : ∃ w0, w0 = w.alloc (.cells #[.int .i64 n, .int .i64 k] 23) := ⟨_, rfl⟩
  have HR : Hid (Row w0 w.heap.size 23 [.int .i64 n, .int .i64 k]) := by rw [hw0]; exact Row.new w _ _
  have HC : Hid (Below w.heap.size w w0) := by rw [hw0]; exact (Below.refl _ _).alloc (Nat.le_refl _) _
  have c0 : w0.cell? ⟨w.heap.size, 0, none⟩ = some (.int .i64 n) := HR.out.cell 0
  have c1 : w0.cell? ⟨w.heap.size, 1, none⟩ = some (.int .i64 k) := HR.out.cell 1
  go_enter Try.func8, Try.ntmps8
  by_cases hin : 8 ≤ n ∧ n ≤ 128 ∧ 2 ≤ k ∧ k ≤ 32
  · obtain ⟨h1, h2, h3, h4⟩ := hin
    have HF := Lib.hid (hF (by omega) h4)
    have Hr : Hid (r = decide ((F : Int) < n)) := by
      show _ = _
      by_cases hl : (F : Int) < n
      · rw [decide_eq_true hl]; exact hiff.2 ⟨h1, h2, h3, h4, hl⟩
      · rw [decide_eq_false hl, ← Bool.not_eq_true]; exact fun h => hl (hiff.1 h).2.2.2.2
    clear hF hiff
    go_wp2
    rw [← hw0]
    have HKeep : Hid (∀ W, Below w0.heap.size w0 W → W.cell? ⟨w.heap.size, 0, none⟩ = some (.int .i64 n) ∧ W.cell? ⟨w.heap.size, 1, none⟩ = some (.int .i64 k)) := fun W hW => by
      have h := HR.out.below hW HR.out.lt
      exact ⟨h.cell 0, h.cell 1⟩
    clear hw0 c0 c1 HR
    have hC : Below w0.heap.size w0 w0.drew := below_drewN (Below.refl _ _) 1
    refine wp_region_held_drew (S := (fun W => W.cell? ⟨w.heap.size, 0, none⟩ = some (.int .i64 n) ∧ W.cell? ⟨w.heap.size, 1, none⟩ = some (.int .i64 k))) (by kernel_rfl) (HKeep.out _ hC) (fun hHeld => ?_)
    generalize w0.drew = w0d at *
    refine wpAnyH_take (i := 0) (oi := ⟨some 21, _, _, _, _, _⟩) (v := ?_) rfl (by kernel_rfl) (by kernel_rfl) (by kernel_rfl) (fun _ _ _ h => h) (Or.inl ⟨by rfl, ?_⟩) hHeld ?_
    rotate_left
    · intro w hSw
      obtain ⟨s0, s1⟩ := hSw
      go_simp
      with_reducible rfl
    try go_frame
    refine wpAnyH_take (i := 2) (oi := ⟨some 23, _, _, _, _, _⟩) (v := ?_) rfl (by kernel_rfl) (by kernel_rfl) (by kernel_rfl) (fun _ _ _ h => h) (Or.inl ⟨by rfl, ?_⟩) hHeld ?_
    rotate_left
    · intro w hSw
      go_simp
      with_reducible rfl
    try go_frame
    refine wpAnyH_take (i := 3) (oi := ⟨some 24, _, _, _, _, _⟩) (v := ?_) rfl (by kernel_rfl) (by kernel_rfl) (by kernel_rfl) (fun _ _ _ h => h) (Or.inl ⟨by rfl, ?_⟩) hHeld ?_
    rotate_left
    · intro w hSw
      obtain ⟨s0, s1⟩ := hSw
      go_simp
      with_reducible rfl
    try go_frame
    refine wpAnyH_ready (rs := [1]) (by kernel_rfl) (by simp) ?_
    refine AllReadyH.cons (o := ⟨some 22, _, _, _, _, _⟩) rfl (fun K hK => ?_) AllReadyH.nil
    go_simp
    go_at_call 11
    refine (HF.out w0d).mono ?_
    rintro e w0d_fi ⟨rfl, hb⟩
    replace hC := hC.trans (hb.mono hC.size)
    refine hK.out _ _ (HKeep.out _ hC) (fun hHeld => ?_)
    clear hK K hb 
    try go_frame
    refine wpAnyH_take (i := 4) (oi := ⟨some 25, _, _, _, _, _⟩) (v := ?_) rfl (by kernel_rfl) (by kernel_rfl) (by kernel_rfl) (fun _ _ _ h => h) (Or.inl ⟨by rfl, ?_⟩) hHeld ?_
    rotate_left
    · intro w hSw
      go_simp
      with_reducible rfl
    try go_frame
    refine wpAnyH_take (i := 5) (oi := ⟨some 2, _, _, _, _, _⟩) (v := ?_) rfl (by kernel_rfl) (by kernel_rfl) (by kernel_rfl) (fun _ _ _ h => h) (Or.inl ⟨by rfl, ?_⟩) hHeld ?_
    rotate_left
    · intro w hSw
      go_simp
      with_reducible rfl
    try go_frame
    refine wpAnyH_done (by kernel_rfl) ?_ _
    clear hHeld HKeep
    have HCF : Hid (Below w.heap.size w w0d_fi) := HC.out.trans (hC.mono HC.out.size)
    go_wp2
    go_ret
    rw [Hr.out]
    exact ⟨rfl, HCF.out⟩
  · have hno : r = false := by rw [← Bool.not_eq_true]; exact fun h => hin ⟨(hiff.1 h).1, (hiff.1 h).2.1, (hiff.1 h).2.2.1, (hiff.1 h).2.2.2.1⟩
    have Hno := Lib.hid hno
    clear hno hiff hF HR
    rcases Int.lt_or_le n 8 with h1 | h1
    · go_wp2
      go_ret
      rw [← hw0, Hno.out]
      exact ⟨rfl, HC.out⟩
    rcases Int.lt_or_le 128 n with h2 | h2
    · go_wp2
      go_ret
      rw [← hw0, Hno.out]
      exact ⟨rfl, HC.out⟩
    rcases Int.lt_or_le k 2 with h3 | h3
    · go_wp2
      go_ret
      rw [← hw0, Hno.out]
      exact ⟨rfl, HC.out⟩
    have h4 : 32 < k := by omega
    go_wp2
    go_ret
    rw [← hw0, Hno.out]
    exact ⟨rfl, HC.out⟩
end Go.Proofs.Ytiafmghdiidniaa
end
