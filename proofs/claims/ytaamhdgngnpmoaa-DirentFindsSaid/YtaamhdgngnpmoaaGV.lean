/-
  PLAIN: the only entry that may have given bytes, and what is looked at; THE WALKS of decode, bytes.Equal.
-/
import Derived.Test.YtaamhdgngnpmoaaGU
namespace Go.Proofs.Ytaamhdgngnpmoaa
open Go.RowKit Dir

namespace Dir
/-- The entry that the program takes 16 bytes for. -/
def decP (c : List UInt8) : En := ⟨(c.drop 2).take (min (c.getD 1 0).toNat 14), ((c.getD 0 0).toNat : Int)⟩
def entsP (b : List UInt8) : List En := (List.range (b.length / 16)).map fun i => decP ((b.drop (16 * i)).take 16)
theorem entsP_length (b : List UInt8) : (entsP b).length = b.length / 16 := by simp [entsP]
theorem getD_take {α : Type} (l : List α) (n i : Nat) (d : α) (h : i < n) : (l.take n).getD i d = l.getD i d := by
  rw [List.getD_eq_getElem?_getD, List.getD_eq_getElem?_getD, List.getElem?_take, if_pos h]
theorem decP_eq (c : List UInt8) (h : (c.getD 1 0).toNat ≤ 14) : decP (c.take 16) = decE c := by
  unfold decP decE
  rw [getD_take _ _ _ _ (by omega), getD_take _ _ _ _ (by omega), Nat.min_eq_left h, List.drop_take, List.take_take, Nat.min_eq_left (by omega)]
theorem ents_eq {b : List UInt8} (h : ∀ i, i < b.length / 16 → (b.getD (16 * i + 1) 0).toNat ≤ 14) : entsP b = ents b := by
  unfold entsP ents
  refine List.map_congr_left fun i hi => ?_
  refine decP_eq _ ?_
  have := h i (List.mem_range.1 hi)
  rw [List.getD_eq_getElem?_getD] at this ⊢
  rwa [List.getElem?_drop]
theorem nodup_small : ∀ (m : Nat) (l : List Nat), l.Nodup → (∀ x ∈ l, x < m) → l.length ≤ m
  | 0, l, _, h => by
    cases l with
    | nil => exact Nat.le_refl _
    | cons a l => have := h a (by simp); omega
  | m + 1, l, hn, h => by
    by_cases hm : m ∈ l
    · have h1 := nodup_small m (l.erase m) (hn.erase m) (fun x hx => by
        have h2 := (hn.mem_erase_iff).1 hx
        have := h x h2.2
        have := h2.1
        omega)
      rw [List.length_erase_of_mem hm] at h1
      omega
    · have := nodup_small m l hn (fun x hx => by
        have h2 := h x hx
        have : x ≠ m := fun e => hm (e ▸ hx)
        omega)
      omega
/-- At most thirty-one entries are a list. -/
theorem fine_31 {l : List En} (h : fine l = true) : l.length ≤ 31 := by
  have hnd : (l.map fun e => e.k.toNat).Nodup := by
    rw [List.nodup_iff_pairwise_ne, List.pairwise_map, List.pairwise_iff_getElem]
    intro i j hi hj hij
    have h1 := (fine_at h j hj).2 i hij
    have h2 := okE_iff.1 (fine_mem h (List.getElem_mem hi))
    have h3 := okE_iff.1 (fine_mem h (List.getElem_mem hj))
    rw [unlike, Bool.and_eq_true] at h1
    have h4 := h1.2
    rw [List.getD_eq_getElem?_getD, List.getElem?_eq_getElem hi, List.getD_eq_getElem?_getD, List.getElem?_eq_getElem hj] at h4
    simp only [Option.getD_some, Bool.not_eq_true', decide_eq_false_iff_not] at h4
    omega
  have h31 : ∀ x ∈ l.map fun e => e.k.toNat, x < 32 := fun x hx => by
    obtain ⟨e, he, rfl⟩ := List.mem_map.1 hx
    have h2 := okE_iff.1 (fine_mem h he)
    omega
  have h0 : 0 ∉ l.map fun e => e.k.toNat := fun hx => by
    obtain ⟨e, he, h3⟩ := List.mem_map.1 hx
    have h2 := okE_iff.1 (fine_mem h he)
    omega
  have := nodup_small 32 (0 :: l.map fun e => e.k.toNat) (List.nodup_cons.2 ⟨h0, hnd⟩) (fun x hx => by
    rcases List.mem_cons.1 hx with rfl | hx
    · decide
    · exact h31 x hx)
  simpa using this
theorem encL_of_fine {l : List En} (h : fine l = true) : (encL l).length = 16 * l.length := encL_length fun _ he => (nameE_ok (okE_iff.1 (fine_mem h he)).1).2
/-- What the program asks of bytes is what they must be. -/
theorem ok_iff (b : List UInt8) : okG b = (fine (entsP b) && decide (encL (entsP b) = b)) := by
  rw [Bool.eq_iff_iff, Bool.and_eq_true, decide_eq_true_eq]
  constructor
  · intro h
    obtain ⟨_, h2, h3, h4⟩ := okG_iff.1 h
    rw [ents_eq h2]
    exact ⟨h3, h4⟩
  · rintro ⟨h1, h2⟩
    have := (back_put h1).1
    rwa [h2] at this
theorem get_eq {b : List UInt8} (h : okG b = true) : getL b = entsP b := by
  obtain ⟨_, h2, _, _⟩ := okG_iff.1 h
  rw [getL, if_pos h, ents_eq h2]
theorem ok_long {b : List UInt8} (h : okG b = true) : b.length ≤ 496 := by
  obtain ⟨_, _, h3, h4⟩ := okG_iff.1 h
  have h5 := fine_31 h3
  have h6 := encL_of_fine h3
  rw [h4] at h6
  omega
end Dir

theorem ByEqual_any (a b : List UInt8) (v u : Value) (w : World) (ha : Arg w v a) (hb : Arg w u b) : Calls Try.prog 27 #[v, u] w fun e w' => e = .returned (.bool (decide (a = b))) ∧ w' = w := by
  have c1 := conv_arg ha
  have c2 := conv_arg hb
  obtain ⟨R, hR⟩ : ∃ R, R = decide (a = b) := ⟨_, rfl⟩
  have HR : Hid (((strB a).toList == (strB b).toList) = R) := by
    show _ = _
    rw [strB_list, strB_list, hR, Bool.eq_iff_iff]
    simp
  rw [← hR]
  clear ha hb hR
  generalize strB a = s at *
  generalize strB b = t at *
  go_enter Try.func27, Try.ntmps27
  go_wp2
  go_ret
  exact ⟨congrArg (fun x => Ending.returned (.bool x)) HR.out, rfl⟩

set_option maxRecDepth 100000 in
set_option maxHeartbeats 1000000 in
theorem DiDecode_any (c : List UInt8) (hc : c.length = 16) (w : World) :
    Calls Try.prog 26 #[.agg (c.map V8).toArray] w fun e w' => e = .returned (.agg #[SB (decP c).n, .int .i64 (decP c).k]) ∧ Below w.heap.size w w' := by
  obtain ⟨CC, hCC⟩ : ∃ CC, CC = c.map V8 := ⟨_, rfl⟩
  obtain ⟨x, hx⟩ : ∃ x, x = (c.getD 0 0).toNat := ⟨_, rfl⟩
  obtain ⟨y, hy⟩ : ∃ y, y = (c.getD 1 0).toNat := ⟨_, rfl⟩
  have hx255 : x < 256 := by rw [hx]; exact UInt8.toNat_lt _
  have hy255 : y < 256 := by rw [hy]; exact UInt8.toNat_lt _
  have HD : Hid (decP c = ⟨(c.drop 2).take (min y 14), (x : Int)⟩) := by show _ = _; rw [hx, hy]; rfl
  have hc0 : CC[0]? = some (.int .u8 (x : Int)) := by rw [hCC, hx, List.getElem?_map, List.getD_eq_getElem?_getD, List.getElem?_eq_getElem (by omega : 0 < c.length)]; rfl
  have hc1 : CC[1]? = some (.int .u8 (y : Int)) := by rw [hCC, hy, List.getElem?_map, List.getD_eq_getElem?_getD, List.getElem?_eq_getElem (by omega : 1 < c.length)]; rfl
  have HC := Lib.hid hCC
  have Hc0 := Lib.hid hc0
  have Hc1 := Lib.hid hc1
  obtain ⟨s, hs⟩ : ∃ s : Nat, s = min y 14 := ⟨_, rfl⟩
  have HS := Lib.hid hs
  have hs14 : s ≤ 14 := by omega
  have hmn : min (y : Int) 14 = (s : Int) := by omega
  rw [HD.out, ← hCC, ← hs]
  simp only
  clear hCC hx hy HD hs
  go_enter Try.func26, Try.ntmps26
  go_wp2
  obtain ⟨T, hT⟩ : ∃ T, T = strB ((c.drop 2).take s) := ⟨_, rfl⟩
  have Hone : Hid (([.string T, .int .i64 (x : Int)] : List Value).toArray.all (·.oneCell') = true) := by show _ = _; simp [Value.oneCell']
  have HCl : Hid (∀ W, Row W w.heap.size 52 CC → W.cell? ⟨w.heap.size, 0, none⟩ = some (.int .u8 (x : Int)) ∧ (convert 23 9 (.slice (some ⟨w.heap.size, 2, none⟩) s 14)).run Try.prog W = .ok (.string T) W) := fun W h => by
    refine ⟨by rw [h.cell, Hc0.out], ?_⟩
    have hl : ((c.drop 2).take s).length = s := by rw [List.length_take, List.length_drop, hc]; omega
    have hA : Arg W (.slice (some ⟨w.heap.size, 2, none⟩) s 14) ((c.drop 2).take s) := .inr ⟨w.heap.size, 2, 14, by rw [hl], h.lt, by omega, by
      have := h.sees.piece 2 s
      rw [HC.out, ← List.map_drop, ← List.map_take] at this
      exact this⟩
    rw [hT]
    exact conv_arg hA
  obtain ⟨W1, hW1⟩ : ∃ W, W = (w.alloc (.cells CC.toArray 52)).alloc (.cells #[.string ⟨#[]⟩, .int .i64 0] 26) := ⟨_, rfl⟩
  have HR1 : Hid (Row W1 w.heap.size 52 CC) := by rw [hW1]; exact (Row.new w 52 CC).alloc _
  have HR2 : Hid (Row W1 (w.heap.size + 1) 26 [.string ⟨#[]⟩, .int .i64 0]) := by
    rw [hW1]
    have := Row.new (w.alloc (.cells CC.toArray 52)) 26 [.string ⟨#[]⟩, .int .i64 0]
    rwa [World.size_alloc] at this
  have HB1 : Hid (Below w.heap.size w W1) := by rw [hW1]; exact ((Below.refl _ _).alloc (Nat.le_refl _) _).alloc (by simp) _
  rw [← hW1]
  have Hs := Lib.hid hT
  clear hW1 hc0 hc1 hT
  have HRd1 : Hid (Row W1.drew w.heap.size 52 CC) := HR1.out
  have HRd2 : Hid (Row W1.drew (w.heap.size + 1) 26 [.string ⟨#[]⟩, .int .i64 0]) := HR2.out
  have HBd : Hid (Below w.heap.size w W1.drew) := below_drewN HB1.out 1
  refine wp_region_held_drew (S := (fun W => W.cell? ⟨w.heap.size, 0, none⟩ = some (.int .u8 (x : Int)) ∧ (convert 23 9 (.slice (some ⟨w.heap.size, 2, none⟩) s 14)).run Try.prog W = .ok (.string T) W)) (by kernel_rfl) (HCl.out _ HRd1.out) (fun hHeld => ?_)
  generalize W1.drew = Wd at *
  clear HR1 HR2 HB1
  refine wpAnyH_take (i := 0) (oi := ⟨some 8, _, _, _, _, _⟩) (v := ?_) rfl (by kernel_rfl) (by kernel_rfl) (by kernel_rfl) (fun _ _ _ h => h) (Or.inl ⟨by rfl, ?_⟩) hHeld ?_
  rotate_left
  · intro w hSw
    go_simp
    with_reducible rfl
  try go_frame
  refine wpAnyH_take (i := 1) (oi := ⟨some 9, _, _, _, _, _⟩) (v := ?_) rfl (by kernel_rfl) (by kernel_rfl) (by kernel_rfl) (fun _ _ _ h => h) (Or.inl ⟨by rfl, ?_⟩) hHeld ?_
  rotate_left
  · intro w hSw
    have hw2 : IntKind.i64.wrap (2 + (s : Int)) = 2 + (s : Int) := wrap_small _ (by omega) (by omega)
    go_simp
    with_reducible rfl
  try go_frame
  refine wpAnyH_take (i := 2) (oi := ⟨some 10, _, _, _, _, _⟩) (v := ?_) rfl (by kernel_rfl) (by kernel_rfl) (by kernel_rfl) (fun _ _ _ h => h) (Or.inl ⟨by rfl, ?_⟩) hHeld ?_
  rotate_left
  · intro w hSw
    have hb2 : (2 : Int) ≤ 2 + (s : Int) ∧ 2 + (s : Int) ≤ 16 := by omega
    have ht2 : (2 + (s : Int)).toNat = s + 2 := by omega
    have ht3 : (2 + (s : Int)).toNat - 2 = s := by omega
    go_simp
    with_reducible rfl
  try go_frame
  refine wpAnyH_take (i := 3) (oi := ⟨some 11, _, _, _, _, _⟩) (v := ?_) rfl (by kernel_rfl) (by kernel_rfl) (by kernel_rfl) (fun _ _ _ h => h) (Or.inl ⟨by rfl, ?_⟩) hHeld ?_
  rotate_left
  · intro w hSw
    have hcv := hSw.2
    go_simp
    with_reducible rfl
  try go_frame
  refine wpAnyH_take (i := 4) (oi := ⟨some 12, _, _, _, _, _⟩) (v := ?_) rfl (by kernel_rfl) (by kernel_rfl) (by kernel_rfl) (fun _ _ _ h => h) (Or.inl ⟨by rfl, ?_⟩) hHeld ?_
  rotate_left
  · intro w hSw
    go_simp
    with_reducible rfl
  try go_frame
  refine wpAnyH_take (i := 5) (oi := ⟨some 13, _, _, _, _, _⟩) (v := ?_) rfl (by kernel_rfl) (by kernel_rfl) (by kernel_rfl) (fun _ _ _ h => h) (Or.inl ⟨by rfl, ?_⟩) hHeld ?_
  rotate_left
  · intro w hSw
    have hc0 := hSw.1
    go_simp
    with_reducible rfl
  try go_frame
  refine wpAnyH_take (i := 6) (oi := ⟨some 14, _, _, _, _, _⟩) (v := ?_) rfl (by kernel_rfl) (by kernel_rfl) (by kernel_rfl) (fun _ _ _ h => h) (Or.inl ⟨by rfl, ?_⟩) hHeld ?_
  rotate_left
  · intro w hSw
    have hwx : IntKind.i64.wrap (x : Int) = (x : Int) := wrap_small _ (by omega) (by omega)
    go_simp
    with_reducible rfl
  try go_frame
  refine wpAnyH_take (i := 7) (oi := ⟨some 15, _, _, _, _, _⟩) (v := ?_) rfl (by kernel_rfl) (by kernel_rfl) (by kernel_rfl) (fun _ _ _ h => h) (Or.inl ⟨by rfl, ?_⟩) hHeld ?_
  rotate_left
  · intro w hSw
    go_simp
    with_reducible rfl
  try go_frame
  refine wpAnyH_ready (rs := [8]) (by kernel_rfl) (by simp) ?_
  refine AllReadyH.cons (o := ⟨none, _, _, _, _, _⟩) rfl (fun K hK => ?_) AllReadyH.nil
  rw [if_pos (by rfl)]
  refine Go.wp_store_row 26 (.tmp 2) (.tmp 15) rfl (w.heap.size + 1) [.string T, .int .i64 (x : Int)].toArray rfl rfl 26 _ HRd2.out (by kernel_rfl) rfl Hone.out ?_
  have hlast := HRd2.out.whole [.string T, .int .i64 (x : Int)]
  have hR1 : Row (Wd.setRow (w.heap.size + 1) [.string T, .int .i64 (x : Int)].toArray) w.heap.size 52 CC := HRd1.out.wholeOff (by omega) _
  have hBe : Below w.heap.size w (Wd.setRow (w.heap.size + 1) [.string T, .int .i64 (x : Int)].toArray) := below_setRow' HBd.out (by omega) _
  refine hK.out _ _ (HCl.out _ hR1) (fun hHeld => ?_)
  clear hK K
  generalize Wd.setRow (w.heap.size + 1) [.string T, .int .i64 (x : Int)].toArray = We at *
  try go_frame
  refine wpAnyH_done (by kernel_rfl) ?_ _
  go_wp2
  have hl2 : We.heap[w.heap.size + 1]? = some (.cells #[.string T, .int .i64 (x : Int)] 26 (0, 0)) := hlast
  refine bodyPost_ret (v := .agg #[.string T, .int .i64 (x : Int)]) (results_cell_row rfl _ We (w.heap.size + 1) 26 #[.string T, .int .i64 (x : Int)] (0, 0) _ rfl hl2 Try.underlying26 rfl (by kernel_rfl)) rfl ?_
  exact ⟨by rw [Hs.out]; rfl, hBe⟩
end Go.Proofs.Ytaamhdgngnpmoaa
