/-
  THE WALKS of ones, pick, and of the law's own example (knows).
-/
import Derived.Test.YtkghppobefllkaaDU
namespace Go.Proofs.Ytkghppobefllkaa
open Go.RowKit Dsk

def o72 : List UInt8 := List.replicate 72 1
theorem o72_length : o72.length = 72 := by simp [o72]
theorem o72_at (k : Nat) (hk : k < 72) : o72.getD k 0 = 1 := by rw [o72, List.getD_eq_getElem?_getD, List.getElem?_replicate, if_pos hk]; rfl

set_option maxRecDepth 100000 in
set_option maxHeartbeats 400000 in
theorem Dones_any (w : World) : Calls Try.prog 26 #[] w fun e w' => e = .returned (.string (strB o72)) ∧ Below w.heap.size w w' := by
  have hmk : (Instr.makeSlice 30 (.int .i64 72) (.int .i64 72)).run Try.prog w = .ok (.slice (some ⟨w.heap.size, 0, none⟩) 72 72) (w.alloc (.cells (z72.map V8).toArray 5)) := made8 72 (by omega) w
  have H0 : Hid (Row (w.alloc (.cells (z72.map V8).toArray 5)) w.heap.size 5 ((upd o72 z72 0).map V8) ∧ Below w.heap.size w (w.alloc (.cells (z72.map V8).toArray 5))) := by
    refine ⟨?_, (Below.refl _ _).alloc (Nat.le_refl _) _⟩
    rw [upd_zero]; exact Row.new w 5 (z72.map V8)
  generalize (z72.map V8).toArray = cs at *
  go_enter Try.func26, Try.ntmps26
  go_wp2
  go_loopw [2] (fun i wr => ∃ k : Nat, k ≤ 72 ∧ i = .int .i64 k ∧ Hid (Row wr w.heap.size 5 ((upd o72 z72 k).map V8) ∧ Below w.heap.size w wr)) (fun i _ => 72 - (intOf i).toNat)
  case atStart => exact ⟨0, by omega, rfl, H0⟩
  case round =>
    obtain ⟨k, hk, rfl, HR⟩ := hrel
    clear H0 hmk
    by_cases hlt : k < 72
    · have hc := upd_cell HR.out.1 (by rw [z72_length, o72_length]) k (Nat.le_refl _) (by rw [o72_length]; exact hlt)
      have hf := HR.out.1.free k
      have HE : Hid (Row (wr.setCell ⟨w.heap.size, k, none⟩ (.int .u8 1)) w.heap.size 5 ((upd o72 z72 (k + 1)).map V8) ∧ Below w.heap.size w (wr.setCell ⟨w.heap.size, k, none⟩ (.int .u8 1))) :=
        ⟨upd_put HR.out.1 (by rw [z72_length, o72_length]) (by rw [o72_length]; exact hlt) (by rw [o72_at k hlt]; rfl), HR.out.2.setCell (Nat.le_refl _) _⟩
      generalize (z72.getD k 0).toNat = y at *
      clear HR
      go_wp2
      go_roundw
      case rel => exact ⟨k + 1, by omega, by go_num, HE⟩
      case measure => simp [intOf]; omega
    · obtain rfl : k = 72 := by omega
      rw [show ((72 : Nat) : Int) = 72 from rfl]
      have hr := HR.out.1
      rw [upd_all o72_length z72_length] at hr
      have hcv := conv_arg (hr.arg 72 o72_length)
      have HB : Hid (Below w.heap.size w wr) := HR.out.2
      obtain ⟨s, hs⟩ : ∃ s, s = strB o72 := ⟨_, rfl⟩
      rw [← hs] at hcv
      have HS := Lib.hid hs
      clear hr HR hs
      go_wp2
      go_ret
      exact ⟨by rw [← HS.out]; rfl, HB.out⟩

/-- What is done: one of seven. -/
def pk (c : Int) : Nat := (if c < 0 then -(c + 1) else c).toNat % 7

set_option maxRecDepth 100000 in
set_option maxHeartbeats 400000 in
theorem Dpick_any (c : Int) (h1 : -9223372036854775808 ≤ c) (h2 : c ≤ 9223372036854775807) (w : World) : Calls Try.prog 8 #[.int .i64 c, .int .i64 7] w fun e w' => e = .returned (.int .i64 (pk c)) ∧ w' = w := by
  go_enter Try.func8, Try.ntmps8
  by_cases h0 : c < 0
  · obtain ⟨m, rfl⟩ : ∃ m : Nat, c = -(m : Int) - 1 := ⟨(-(c + 1)).toNat, by omega⟩
    have e1 : IntKind.i64.wrap (-(m : Int) - 1 + 1) = -(m : Int) := by rw [IntWalk.i64_in _ (by omega)]; omega
    have e2 : IntKind.i64.wrap (-(-(m : Int))) = (m : Int) := by rw [IntWalk.i64_in _ (by omega)]; omega
    have e3 : pk (-(m : Int) - 1) = m % 7 := by rw [pk, if_pos h0]; congr 1; omega
    rw [e3]
    go_wp2
    go_ret
    exact ⟨congrArg (fun z => Ending.returned (Value.int .i64 z)) (by omega), rfl⟩
  · obtain ⟨m, rfl⟩ : ∃ m : Nat, c = (m : Int) := ⟨c.toNat, by omega⟩
    have e3 : pk (m : Int) = m % 7 := by rw [pk, if_neg h0]; rfl
    rw [e3]
    go_wp2
    go_ret
    exact ⟨congrArg (fun z => Ending.returned (Value.int .i64 z)) (by omega), rfl⟩

theorem below_chg {a w w' : World} {F : Nat → Prop} (hb : Below a.heap.size a w) (hc : Chg (fun k _ => F k) w w') (hF : ∀ k, F k → a.heap.size ≤ k) : Below a.heap.size a w' :=
  hb.trans ⟨hc.os, hc.tape, hc.output, hc.size, fun k hk => hc.block k (Nat.lt_of_lt_of_le hk hb.size) fun _ hf => by have := hF k hf; omega⟩
theorem Chg.after {a w w' : World} {F F1 : Nat → Prop} {D : Nat} {L : List Blk} (hc : Chg (fun k _ => F k) a w) (h : After w F1 w' D L) (h1 : ∀ k, F1 k → F k ∨ a.heap.size ≤ k) : ∃ F2, DiskAt w' F2 D L ∧ (∀ k, F2 k → F k ∨ a.heap.size ≤ k) ∧ Chg (fun k _ => F k) a w' := by
  obtain ⟨F2, h2, h3, h4⟩ := h
  refine ⟨F2, h2, fun k hk => ?_, hc.trans h4 fun k _ hk hf => ?_⟩
  · rcases h3 k hk with h | h
    · exact h1 k h
    · exact .inr (Nat.le_trans hc.size h)
  · rcases h1 k hf with h | h
    · exact h
    · omega

theorem know1 : okW (List.replicate 2 Blk.zero) 1 o72 = true := by decide +kernel
theorem know2 : cnt (writeL (List.replicate 2 Blk.zero) 1 o72) = 1 := by decide +kernel
theorem know3 : getB (crash (fun n => ([] : List Bool).getD n false) (writeL (List.replicate 2 Blk.zero) 1 o72)) 1 = some ⟨z72, none, z72⟩ := by rfl

set_option maxRecDepth 100000 in
set_option maxHeartbeats 1000000 in
theorem Dknows_any (w : World) : Calls Try.prog 5 #[] w fun e w' => e = .returned (.bool true) ∧ Below w.heap.size w w' := by
  have HZ : Hid (∀ W, Calls Try.prog 27 #[] W fun e w' => e = .returned (.string (strB z72)) ∧ Below W.heap.size W w') := RDZeros_any
  have HN := Lib.hid (DNew_any 2 (by omega) (by omega) w)
  have HO := Lib.hid Dones_any
  have HN0 : Hid (∀ W, Calls Try.prog 6 #[.int .i64 0] W fun e w' => e = .returned (.tuple #[.pointer none, .int .i64 1]) ∧ w' = W) := DNew_bad 0 (by omega)
  go_enter Try.func5, Try.ntmps5
  go_wp2_with fail
  refine HN.out.mono ?_
  rintro e w1 ⟨D, F, rfl, hD, hF, hb1⟩
  have HD1 := Lib.hid hD
  have HF := Lib.hid hF
  have HB1 := Lib.hid hb1
  clear hD hF hb1 HN
  go_wp2_with fail
  refine (HN0.out w1).mono ?_
  rintro e w2 ⟨rfl, rfl⟩
  clear HN0
  go_wp2_with fail
  refine (HO.out w2).mono ?_
  rintro e w3 ⟨rfl, hb3⟩
  have HD3 := Lib.hid (HD1.out.below hb3)
  have HX3 : Hid (Chg (fun k _ => F k) w2 w3) := Chg.below hb3 _
  clear hb3 HD1 HO
  obtain ⟨cap, w4, hcv, hHere, hb4, hcap⟩ := conv_new o72 w3
  rw [o72_length] at hcv
  have hArg : Arg w4 (.slice (some ⟨w3.heap.size, 0, none⟩) 72 cap) o72 := .inr ⟨w3.heap.size, 0, cap, by rw [o72_length], hHere.lt (by rw [List.length_map, o72_length]; omega), hcap, hHere.sees⟩
  have hW := DWrite_any (HD3.out.below hb4) 1 _ o72 hArg
  rw [know1] at hW
  have HW := Lib.hid hW
  have HX4 : Hid (Chg (fun k _ => F k) w2 w4) := HX3.out.then (Chg.below hb4 _)
  clear hHere hb4 hcap hArg hW HX3 HD3
  go_wp2_with fail
  refine HW.out.mono ?_
  rintro e w5 ⟨rfl, hA⟩
  obtain ⟨F1, hD5, hF5, hX5⟩ := HX4.out.after hA fun _ h => .inl h
  have hDi := DDirty_any hD5
  rw [know2] at hDi
  have HDi := Lib.hid hDi
  have HD5 := Lib.hid hD5
  have HF5 := Lib.hid hF5
  have HX5 := Lib.hid hX5
  clear hA hD5 hF5 hX5 hDi HW HX4 hcv
  go_wp2_with fail
  refine HDi.out.mono ?_
  rintro e w6 ⟨rfl, hb6⟩
  have HC := Lib.hid (DCrash_any (HD5.out.below hb6) none 0 0 [] rfl (.inl ⟨none, rfl, rfl⟩) (fun _ _ h _ => by cases h))
  have HX6 : Hid (Chg (fun k _ => F k) w2 w6) := HX5.out.then (Chg.below hb6 _)
  clear hb6 HD5 HX5 HDi
  go_wp2_with fail
  refine HC.out.mono ?_
  rintro e w7 ⟨rfl, hA⟩
  obtain ⟨F2, hD7, hF7, hX7⟩ := HX6.out.after hA HF5.out
  have hR := DRead_in hD7 1 _ know3
  obtain ⟨q, hq⟩ : ∃ q, q = w7.heap.size := ⟨_, rfl⟩
  rw [← hq] at hR
  have HR : Hid (Calls Try.prog 20 #[.pointer (some ⟨D, 0, none⟩), .int .i64 1] w7 fun e w' => e = .returned (.tuple #[.slice (some ⟨q, 0, none⟩) 72 72, .int .i64 0]) ∧ Here w' q 0 (z72.map V8) ∧ Below w7.heap.size w7 w') := by rw [← hq]; exact hR
  have HB7 : Hid (Below w.heap.size w w7) := below_chg HB1.out hX7 HF.out
  clear hA hD7 hF7 hX7 hR HC HX6 hq HF5
  go_wp2_with fail
  refine HR.out.mono ?_
  rintro e w8 ⟨rfl, hH, hb8⟩
  have HB8 : Hid (Below w.heap.size w w8) := HB7.out.trans (hb8.mono HB7.out.size)
  have hA8 : Arg w8 (.slice (some ⟨q, 0, none⟩) 72 72) z72 := .inr ⟨q, 0, 72, by rw [z72_length], hH.lt (by rw [List.length_map, z72_length]; omega), by rw [z72_length]; omega, hH.sees⟩
  have hS1 : (convert 30 9 (.slice (some ⟨q, 0, none⟩) 72 72)).run Try.prog w8.drew = .ok (.string (strB z72)) w8.drew := conv_arg (w := w8.drew) hA8
  have HS : Hid (∀ W, Below w8.heap.size w8 W → (convert 30 9 (.slice (some ⟨q, 0, none⟩) 72 72)).run Try.prog W = .ok (.string (strB z72)) W) := fun W hW => conv_arg (hA8.below hW)
  clear hH hb8 hA8 HR HB7 HB1 HF
  generalize strB z72 = s0 at *
  go_wp2
  refine wp_region_held_drew (S := (fun W => (convert 30 9 (.slice (some ⟨q, 0, none⟩) 72 72)).run Try.prog W = .ok (.string s0) W)) (by kernel_rfl) (hS1) (fun hHeld => ?_)
  refine wpAnyH_take (i := 0) (oi := ⟨some 36, _, _, _, _, _⟩) (v := ?_) rfl (by kernel_rfl) (by kernel_rfl) (by kernel_rfl) (fun _ _ _ h => h) (Or.inl ⟨by rfl, ?_⟩) hHeld ?_
  rotate_left
  · intro w hSw
    skip
    go_simp
    with_reducible rfl
  try go_frame
  refine wpAnyH_take (i := 1) (oi := ⟨some 37, _, _, _, _, _⟩) (v := ?_) rfl (by kernel_rfl) (by kernel_rfl) (by kernel_rfl) (fun _ _ _ h => h) (Or.inl ⟨by rfl, ?_⟩) hHeld ?_
  rotate_left
  · intro w hSw
    skip
    go_simp
    with_reducible rfl
  try go_frame
  refine wpAnyH_take (i := 2) (oi := ⟨some 38, _, _, _, _, _⟩) (v := ?_) rfl (by kernel_rfl) (by kernel_rfl) (by kernel_rfl) (fun _ _ _ h => h) (Or.inl ⟨by rfl, ?_⟩) hHeld ?_
  rotate_left
  · intro w hSw
    skip
    go_simp
    with_reducible rfl
  try go_frame
  refine wpAnyH_take (i := 3) (oi := ⟨some 39, _, _, _, _, _⟩) (v := ?_) rfl (by kernel_rfl) (by kernel_rfl) (by kernel_rfl) (fun _ _ _ h => h) (Or.inl ⟨by rfl, ?_⟩) hHeld ?_
  rotate_left
  · intro w hSw
    skip
    go_simp
    with_reducible rfl
  try go_frame
  refine wpAnyH_take (i := 4) (oi := ⟨some 40, _, _, _, _, _⟩) (v := ?_) rfl (by kernel_rfl) (by kernel_rfl) (by kernel_rfl) (fun _ _ _ h => h) (Or.inl ⟨by rfl, ?_⟩) hHeld ?_
  rotate_left
  · intro w hSw
    skip
    go_simp
    with_reducible rfl
  try go_frame
  refine wpAnyH_take (i := 5) (oi := ⟨some 41, _, _, _, _, _⟩) (v := ?_) rfl (by kernel_rfl) (by kernel_rfl) (by kernel_rfl) (fun _ _ _ h => h) (Or.inl ⟨by rfl, ?_⟩) hHeld ?_
  rotate_left
  · intro w hSw
    skip
    go_simp
    with_reducible rfl
  try go_frame
  refine wpAnyH_take (i := 6) (oi := ⟨some 42, _, _, _, _, _⟩) (v := ?_) rfl (by kernel_rfl) (by kernel_rfl) (by kernel_rfl) (fun _ _ _ h => h) (Or.inl ⟨by rfl, ?_⟩) hHeld ?_
  rotate_left
  · intro w hSw
    skip
    go_simp
    with_reducible rfl
  try go_frame
  refine wpAnyH_take (i := 7) (oi := ⟨some 43, _, _, _, _, _⟩) (v := ?_) rfl (by kernel_rfl) (by kernel_rfl) (by kernel_rfl) (fun _ _ _ h => h) (Or.inl ⟨by rfl, ?_⟩) hHeld ?_
  rotate_left
  · intro w hSw
    skip
    go_simp
    with_reducible rfl
  try go_frame
  refine wpAnyH_take (i := 8) (oi := ⟨some 44, _, _, _, _, _⟩) (v := ?_) rfl (by kernel_rfl) (by kernel_rfl) (by kernel_rfl) (fun _ _ _ h => h) (Or.inl ⟨by rfl, ?_⟩) hHeld ?_
  rotate_left
  · intro w hSw
    skip
    go_simp
    with_reducible rfl
  try go_frame
  refine wpAnyH_take (i := 9) (oi := ⟨some 45, _, _, _, _, _⟩) (v := ?_) rfl (by kernel_rfl) (by kernel_rfl) (by kernel_rfl) (fun _ _ _ h => h) (Or.inl ⟨by rfl, ?_⟩) hHeld ?_
  rotate_left
  · intro w hSw
    skip
    go_simp
    with_reducible rfl
  try go_frame
  refine wpAnyH_take (i := 10) (oi := ⟨some 46, _, _, _, _, _⟩) (v := ?_) rfl (by kernel_rfl) (by kernel_rfl) (by kernel_rfl) (fun _ _ _ h => h) (Or.inl ⟨by rfl, ?_⟩) hHeld ?_
  rotate_left
  · intro w hSw
    skip
    go_simp
    with_reducible rfl
  try go_frame
  refine wpAnyH_take (i := 11) (oi := ⟨some 47, _, _, _, _, _⟩) (v := ?_) rfl (by kernel_rfl) (by kernel_rfl) (by kernel_rfl) (fun _ _ _ h => h) (Or.inl ⟨by rfl, ?_⟩) hHeld ?_
  rotate_left
  · intro w hSw
    skip
    go_simp
    with_reducible rfl
  try go_frame
  refine wpAnyH_take (i := 12) (oi := ⟨some 48, _, _, _, _, _⟩) (v := ?_) rfl (by kernel_rfl) (by kernel_rfl) (by kernel_rfl) (fun _ _ _ h => h) (Or.inl ⟨by rfl, ?_⟩) hHeld ?_
  rotate_left
  · intro w hSw
    skip
    go_simp
    with_reducible rfl
  try go_frame
  refine wpAnyH_ready (rs := [13]) (by kernel_rfl) (by simp) ?_
  refine AllReadyH.cons (o := ⟨some 49, _, _, _, _, _⟩) rfl (fun K hK => ?_) AllReadyH.nil
  go_simp
  refine (HZ.out _).mono ?_
  rintro e w9 ⟨rfl, hb9'⟩
  have hb9 : Below w8.heap.size w8 w9 := ⟨hb9'.os, hb9'.tape, hb9'.output, hb9'.size, hb9'.block⟩
  clear hb9'
  have hS2 := HS.out w9 hb9
  refine hK.out _ _ (hS2) (fun hHeld => ?_)
  clear hK K
  try go_frame
  refine wpAnyH_take (i := 14) (oi := ⟨some 50, _, _, _, _, _⟩) (v := ?_) rfl (by kernel_rfl) (by kernel_rfl) (by kernel_rfl) (fun _ _ _ h => h) (Or.inl ⟨by rfl, ?_⟩) hHeld ?_
  rotate_left
  · intro w hSw
    skip
    go_simp
    with_reducible rfl
  try go_frame
  refine wpAnyH_take (i := 15) (oi := ⟨some 51, _, _, _, _, _⟩) (v := ?_) rfl (by kernel_rfl) (by kernel_rfl) (by kernel_rfl) (fun _ _ _ h => h) (Or.inl ⟨by rfl, ?_⟩) hHeld ?_
  rotate_left
  · intro w hSw
    skip
    go_simp
    with_reducible rfl
  try go_frame
  refine wpAnyH_take (i := 16) (oi := ⟨some 52, _, _, _, _, _⟩) (v := ?_) rfl (by kernel_rfl) (by kernel_rfl) (by kernel_rfl) (fun _ _ _ h => h) (Or.inl ⟨by rfl, ?_⟩) hHeld ?_
  rotate_left
  · intro w hSw
    skip
    go_simp
    with_reducible rfl
  try go_frame
  refine wpAnyH_take (i := 17) (oi := ⟨some 53, _, _, _, _, _⟩) (v := ?_) rfl (by kernel_rfl) (by kernel_rfl) (by kernel_rfl) (fun _ _ _ h => h) (Or.inl ⟨by rfl, ?_⟩) hHeld ?_
  rotate_left
  · intro w hSw
    skip
    go_simp
    with_reducible rfl
  try go_frame
  refine wpAnyH_take (i := 18) (oi := ⟨some 54, _, _, _, _, _⟩) (v := ?_) rfl (by kernel_rfl) (by kernel_rfl) (by kernel_rfl) (fun _ _ _ h => h) (Or.inl ⟨by rfl, ?_⟩) hHeld ?_
  rotate_left
  · intro w hSw
    skip
    go_simp
    with_reducible rfl
  try go_frame
  refine wpAnyH_take (i := 19) (oi := ⟨some 55, _, _, _, _, _⟩) (v := ?_) rfl (by kernel_rfl) (by kernel_rfl) (by kernel_rfl) (fun _ _ _ h => h) (Or.inl ⟨by rfl, ?_⟩) hHeld ?_
  rotate_left
  · intro w hSw
    skip
    go_simp
    with_reducible rfl
  try go_frame
  refine wpAnyH_take (i := 20) (oi := ⟨some 0, _, _, _, _, _⟩) (v := ?_) rfl (by kernel_rfl) (by kernel_rfl) (by kernel_rfl) (fun _ _ _ h => h) (Or.inl ⟨by rfl, ?_⟩) hHeld ?_
  rotate_left
  · intro w hSw
    skip
    go_simp
    with_reducible rfl
  try go_frame
  refine wpAnyH_done (by kernel_rfl) ?_ _
  go_wp2
  go_ret
  exact ⟨rfl, HB8.out.trans (Below.mono hb9 HB8.out.size)⟩
end Go.Proofs.Ytkghppobefllkaa
