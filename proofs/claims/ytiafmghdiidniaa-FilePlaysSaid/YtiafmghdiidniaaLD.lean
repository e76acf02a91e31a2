/-
  THE WALKS of layer 14's reference: Left.
-/
import Derived.Test.YtiafmghdiidniaaLDA
import Derived.Test.YtiafmghdiidniaaIB
namespace Go.Proofs.Ytiafmghdiidniaa
open Go.RowKit Cdc Inn Fil

/-- Bytes as a string's cell. -/
abbrev SV (bs : List UInt8) : Value := .string (strB bs)
/-- How the document's files lie: the head at o, their texts in the block lb. -/
structure FlAt (w : World) (o lb : Nat) (g : Geo) (fs : List (List UInt8)) : Prop where
  head : Row w o 36 [.int .i64 g.n, .int .i64 g.k, .slice (some ⟨lb, 0, none⟩) 4 4, .slice none 0 0]
  row : Row w lb 9 (fs.map SV)
  four : fs.length = 4
  len : ∀ s ∈ fs, s.length ≤ 2304
  off : o ≠ lb
theorem FlAt.below {w w' : World} {o lb : Nat} {g : Geo} {fs : List (List UInt8)} (h : FlAt w o lb g fs) (hb : Below w.heap.size w w') : FlAt w' o lb g fs :=
  ⟨h.head.below hb h.head.lt, h.row.below hb h.row.lt, h.four, h.len, h.off⟩
theorem FlAt.cell {w : World} {o lb : Nat} {g : Geo} {fs : List (List UInt8)} (h : FlAt w o lb g fs) (i : Nat) (hi : i < 4) : w.cell? ⟨lb, i, none⟩ = some (.string (strB (fs.getD i []))) := by
  rw [h.row.cell, List.getElem?_map, List.getElem?_eq_getElem (by rw [h.four]; exact hi)]
  simp [h.four, hi]
theorem FlAt.at_ {w : World} {o lb : Nat} {g : Geo} {fs : List (List UInt8)} (h : FlAt w o lb g fs) (i : Nat) (hi : i < 4) : (fs.getD i []).length ≤ 2304 := by
  rw [List.getD_eq_getElem?_getD, List.getElem?_eq_getElem (by rw [h.four]; exact hi)]
  exact h.len _ (List.getElem_mem _)
/-- How many blocks the first i files need. -/
def needsN (fs : List (List UInt8)) (i : Nat) : Nat := needs (fs.take i)
theorem needsN_succ (fs : List (List UInt8)) (i : Nat) (hi : i < fs.length) : needsN fs (i + 1) = needsN fs i + need (fs.getD i []).length := by
  unfold needsN
  rw [take_snoc fs i hi [], needs_snoc]
theorem needsN_le (fs : List (List UInt8)) (h : ∀ s ∈ fs, s.length ≤ 2304) (i : Nat) : needsN fs i ≤ 37 * i := by
  induction i with
  | zero => simp [needsN, needs]
  | succ i ih =>
    by_cases hi : i < fs.length
    · rw [needsN_succ fs i hi]
      have : need (fs.getD i []).length ≤ 37 := need_le (by
        rw [List.getD_eq_getElem?_getD, List.getElem?_eq_getElem hi]
        have := h _ (List.getElem_mem hi)
        simp only [Option.getD_some]
        omega)
      omega
    · have : needsN fs (i + 1) = needsN fs i := by unfold needsN; rw [List.take_of_length_le (by omega), List.take_of_length_le (by omega)]
      omega

set_option maxRecDepth 100000 in
set_option maxHeartbeats 1000000 in
theorem RFiLeft_any (g : Geo) (hg : gmay g = true) (fs : List (List UInt8)) (o lb : Nat) (w : World) (h : FlAt w o lb g fs) :
    Calls Try.prog 20 #[.pointer (some ⟨o, 0, none⟩)] w fun e w' => e = .returned (.int .i64 (gleft g fs)) ∧ Below w.heap.size w w' := by
  obtain ⟨h1, h2, h3, h4, h5⟩ := gmay_iff.1 hg
  have hF1 := gfirst_le h4
  have HF : Hid (∀ W, Calls Try.prog 11 #[.agg #[.int .i64 g.n, .int .i64 g.k]] W fun e w' => e = .returned (.int .i64 (gfirst g)) ∧ Below W.heap.size W w') := fun W => RFiFirst_any g (by omega) h4 W
  have HG : Hid (gleft g fs = g.n - gfirst g - needsN fs 4) := by show _ = _; rw [gleft, needsN, List.take_of_length_le (by rw [h.four]; omega)]
  obtain ⟨r, hr⟩ : ∃ r, r = gleft g fs := ⟨_, rfl⟩
  rw [← hr] at HG ⊢
  have HN : Hid (∀ i, i < 4 → needsN fs (i + 1) = needsN fs i + need (fs.getD i []).length) := fun i hi => needsN_succ fs i (by rw [h.four]; exact hi)
  have HNL : Hid (∀ i, needsN fs i ≤ 37 * i) := needsN_le fs h.len
  clear hr hg
  generalize gfirst g = F at *
  obtain ⟨n, k⟩ := g
  simp only at *
  have HL := Lib.hid h
  have HKeep : Hid (∀ W, Below w.heap.size w W → W.cell? ⟨o, 0, none⟩ = some (.int .i64 n) ∧ W.cell? ⟨o, 1, none⟩ = some (.int .i64 k)) := fun W hW => by
    have h := HL.out.below hW
    exact ⟨h.head.cell 0, h.head.cell 1⟩
  clear h
  go_enter Try.func20, Try.ntmps20
  go_wp2
  have hC : Below w.heap.size w w.drew := below_drewN (Below.refl _ _) 1
  refine wp_region_held_drew (S := (fun W => W.cell? ⟨o, 0, none⟩ = some (.int .i64 n) ∧ W.cell? ⟨o, 1, none⟩ = some (.int .i64 k))) (by kernel_rfl) (HKeep.out _ hC) (fun hHeld => ?_)
  generalize w.drew = wd at *
  refine wpAnyH_take (i := 0) (oi := ⟨some 5, _, _, _, _, _⟩) (v := ?_) rfl (by kernel_rfl) (by kernel_rfl) (by kernel_rfl) (fun _ _ _ h => h) (Or.inl ⟨by rfl, ?_⟩) hHeld ?_
  rotate_left
  · intro w hSw
    go_simp
    with_reducible rfl
  try go_frame
  refine wpAnyH_take (i := 1) (oi := ⟨some 6, _, _, _, _, _⟩) (v := ?_) rfl (by kernel_rfl) (by kernel_rfl) (by kernel_rfl) (fun _ _ _ h => h) (Or.inl ⟨by rfl, ?_⟩) hHeld ?_
  rotate_left
  · intro w hSw
    obtain ⟨s0, s1⟩ := hSw
    go_simp
    with_reducible rfl
  try go_frame
  refine wpAnyH_take (i := 2) (oi := ⟨some 7, _, _, _, _, _⟩) (v := ?_) rfl (by kernel_rfl) (by kernel_rfl) (by kernel_rfl) (fun _ _ _ h => h) (Or.inl ⟨by rfl, ?_⟩) hHeld ?_
  rotate_left
  · intro w hSw
    go_simp
    with_reducible rfl
  try go_frame
  refine wpAnyH_take (i := 3) (oi := ⟨some 8, _, _, _, _, _⟩) (v := ?_) rfl (by kernel_rfl) (by kernel_rfl) (by kernel_rfl) (fun _ _ _ h => h) (Or.inl ⟨by rfl, ?_⟩) hHeld ?_
  rotate_left
  · intro w hSw
    go_simp
    with_reducible rfl
  try go_frame
  refine wpAnyH_take (i := 4) (oi := ⟨some 9, _, _, _, _, _⟩) (v := ?_) rfl (by kernel_rfl) (by kernel_rfl) (by kernel_rfl) (fun _ _ _ h => h) (Or.inl ⟨by rfl, ?_⟩) hHeld ?_
  rotate_left
  · intro w hSw
    obtain ⟨s0, s1⟩ := hSw
    go_simp
    with_reducible rfl
  try go_frame
  refine wpAnyH_take (i := 5) (oi := ⟨some 10, _, _, _, _, _⟩) (v := ?_) rfl (by kernel_rfl) (by kernel_rfl) (by kernel_rfl) (fun _ _ _ h => h) (Or.inl ⟨by rfl, ?_⟩) hHeld ?_
  rotate_left
  · intro w hSw
    go_simp
    with_reducible rfl
  try go_frame
  refine wpAnyH_take (i := 6) (oi := ⟨some 11, _, _, _, _, _⟩) (v := ?_) rfl (by kernel_rfl) (by kernel_rfl) (by kernel_rfl) (fun _ _ _ h => h) (Or.inl ⟨by rfl, ?_⟩) hHeld ?_
  rotate_left
  · intro w hSw
    obtain ⟨s0, s1⟩ := hSw
    go_simp
    with_reducible rfl
  try go_frame
  refine wpAnyH_take (i := 7) (oi := ⟨some 12, _, _, _, _, _⟩) (v := ?_) rfl (by kernel_rfl) (by kernel_rfl) (by kernel_rfl) (fun _ _ _ h => h) (Or.inl ⟨by rfl, ?_⟩) hHeld ?_
  rotate_left
  · intro w hSw
    go_simp
    with_reducible rfl
  try go_frame
  refine wpAnyH_take (i := 8) (oi := ⟨some 13, _, _, _, _, _⟩) (v := ?_) rfl (by kernel_rfl) (by kernel_rfl) (by kernel_rfl) (fun _ _ _ h => h) (Or.inl ⟨by rfl, ?_⟩) hHeld ?_
  rotate_left
  · intro w hSw
    obtain ⟨s0, s1⟩ := hSw
    go_simp
    with_reducible rfl
  try go_frame
  refine wpAnyH_ready (rs := [9]) (by kernel_rfl) (by simp) ?_
  refine AllReadyH.cons (o := ⟨some 14, _, _, _, _, _⟩) rfl (fun K hK => ?_) AllReadyH.nil
  go_simp
  go_at_call 11
  refine (HF.out wd).mono ?_
  rintro e wd_fi ⟨rfl, hb⟩
  replace hC := hC.trans (hb.mono hC.size)
  refine hK.out _ _ (HKeep.out _ hC) (fun hHeld => ?_)
  clear hK K hb 
  try go_frame
  refine wpAnyH_take (i := 10) (oi := ⟨some 15, _, _, _, _, _⟩) (v := ?_) rfl (by kernel_rfl) (by kernel_rfl) (by kernel_rfl) (fun _ _ _ h => h) (Or.inl ⟨by rfl, ?_⟩) hHeld ?_
  rotate_left
  · intro w hSw
    go_simp
    with_reducible rfl
  try go_frame
  refine wpAnyH_take (i := 11) (oi := ⟨some 3, _, _, _, _, _⟩) (v := ?_) rfl (by kernel_rfl) (by kernel_rfl) (by kernel_rfl) (fun _ _ _ h => h) (Or.inl ⟨by rfl, ?_⟩) hHeld ?_
  rotate_left
  · intro w hSw
    go_simp
    with_reducible rfl
  try go_frame
  refine wpAnyH_done (by kernel_rfl) ?_ _
  clear hHeld HKeep HF
  have HL2 : Hid (FlAt wd_fi o lb ⟨n, k⟩ fs) := HL.out.below hC
  have HC : Hid (Below w.heap.size w wd_fi) := hC
  clear hC HL
  generalize wd_fi = w1 at *
  go_wp2
  go_loopw [3, 4] (fun c i wr => ∃ j : Nat, j ≤ 4 ∧ i = .int .i64 j ∧ c = .int .i64 (n - F - needsN fs j) ∧ Hid (FlAt wr o lb ⟨n, k⟩ fs) ∧ Hid (Below w.heap.size w wr)) (fun _ i _ => 4 - (intOf i).toNat)
  case atStart => exact ⟨0, by omega, rfl, by simp [needsN, needs, wrapI (n - (F : Int)) ⟨by omega, by omega⟩], HL2, HC⟩
  case round =>
    clear HL2 HC
    obtain ⟨j, hj, rfl, rfl, HL2, HC⟩ := hrel
    have hnj := HNL.out j
    by_cases hlt : j < 4
    · have c2 : wr.cell? ⟨o, 2, none⟩ = some (.slice (some ⟨lb, 0, none⟩) 4 4) := HL2.out.head.cell 2
      have cs := HL2.out.cell j hlt
      have hsl := HL2.out.at_ j hlt
      have HNj := Lib.hid (HN.out j hlt)
      have hnj1 := HNL.out (j + 1)
      have hsz : (strB (fs.getD j [])).size = (fs.getD j []).length := strB_size _
      generalize fs.getD j [] = s at *
      have HNd : Hid (∀ W, Calls Try.prog 31 #[.int .i64 (s.length : Int)] W fun e w' => e = .returned (.int .i64 (need s.length)) ∧ Below W.heap.size W w') := fun W => RInNeed_any _ (by omega) ⟨by omega, by omega⟩ W
      have hnd := need_le (z := (s.length : Int)) (by omega)
      generalize need s.length = N0 at *
      go_wp2_with fail
      refine (HNd.out wr).mono ?_
      rintro e w3 ⟨rfl, hb⟩
      replace HL2 := Lib.hid (HL2.out.below hb)
      replace HC := Lib.hid (HC.out.trans (hb.mono HC.out.size))
      clear hb HNd c2 cs
      go_wp2
      go_roundw
      case rel => exact ⟨j + 1, by omega, by go_num, by rw [HNj.out]; congr 1; omega, HL2, HC⟩
      case measure => simp [intOf] <;> omega
    · obtain rfl : j = 4 := by omega
      have c2 : wr.cell? ⟨o, 2, none⟩ = some (.slice (some ⟨lb, 0, none⟩) 4 4) := HL2.out.head.cell 2
      go_wp2
      go_ret
      rw [HG.out]
      exact ⟨rfl, HC.out⟩
end Go.Proofs.Ytiafmghdiidniaa
