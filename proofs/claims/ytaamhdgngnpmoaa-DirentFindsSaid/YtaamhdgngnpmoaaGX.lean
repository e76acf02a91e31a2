/-
  THE WALK of Names: all names, sorted.
-/
import Derived.Test.YtaamhdgngnpmoaaGQ
import Derived.Test.YtaamhdgngnpmoaaGH
import Derived.Test.YtaamhdgngnpmoaaGT0
import Derived.Sort.OwnSorted
namespace Go.Proofs.Ytaamhdgngnpmoaa
open Go.RowKit Dir Go.Sort Go.Proofs

namespace Dir
theorem bytes_lt : ∀ (x y : List UInt8), Op.bytesLess x y = decide (x < y)
  | [], [] => by simp [Op.bytesLess]
  | _ :: _, [] => by simp [Op.bytesLess]
  | [], _ :: _ => by simp [Op.bytesLess]
  | a :: x, b :: y => by
    rw [Op.bytesLess, bytes_lt x y]
    simp only [List.cons_lt_cons_iff]
    by_cases h1 : a < b <;> by_cases h2 : a = b <;> by_cases h3 : x < y <;> simp [h1, h2, h3]
theorem leB_iff (x y : List UInt8) : leB x y = true ↔ x ≤ y := by
  unfold leB
  rw [bytes_lt, List.le_iff_lt_or_eq]
  simp
theorem takeWhile_all {α : Type} (p : α → Bool) : ∀ l : List α, ∀ x ∈ l.takeWhile p, p x = true
  | [], _, h => by simp at h
  | a :: l, x, h => by
    rw [List.takeWhile_cons] at h
    split at h
    · rcases List.mem_cons.1 h with rfl | h
      · assumption
      · exact takeWhile_all p l x h
    · simp at h
theorem dropWhile_all {s : List UInt8} : ∀ l : List (List UInt8), l.Pairwise (· ≤ ·) → ∀ x ∈ l.dropWhile (fun x => leB x s), s ≤ x
  | [], _, _, h => by simp at h
  | a :: l, hp, x, h => by
    rw [List.dropWhile_cons] at h
    obtain ⟨h1, h2⟩ := List.pairwise_cons.1 hp
    split at h
    · exact dropWhile_all l h2 x h
    · rename_i hn
      have ha : s ≤ a := (List.le_total s a).resolve_right fun e => hn ((leB_iff a s).2 e)
      rcases List.mem_cons.1 h with rfl | h
      · exact ha
      · exact List.le_trans ha (h1 x h)
theorem insN_sorted (out : List (List UInt8)) (s : List UInt8) (h : out.Pairwise (· ≤ ·)) : (insN out s).Pairwise (· ≤ ·) := by
  have e := List.takeWhile_append_dropWhile (p := fun x => leB x s) (l := out)
  have h' := h
  rw [← e, List.pairwise_append] at h'
  obtain ⟨h1, h2, h3⟩ := h'
  unfold insN
  rw [List.pairwise_append, List.pairwise_cons]
  refine ⟨h1, ⟨dropWhile_all out h, h2⟩, fun x hx y hy => ?_⟩
  have hxs : x ≤ s := (leB_iff x s).1 (takeWhile_all _ out x hx)
  rcases List.mem_cons.1 hy with rfl | hy
  · exact hxs
  · exact h3 x hx y hy
theorem insN_perm (out : List (List UInt8)) (s : List UInt8) : (insN out s).Perm (s :: out) := by
  have e := List.takeWhile_append_dropWhile (p := fun x => leB x s) (l := out)
  unfold insN
  refine List.perm_middle.trans ?_
  rw [e]
theorem names_fold : ∀ (ss out : List (List UInt8)), out.Pairwise (· ≤ ·) → (ss.foldl insN out).Pairwise (· ≤ ·) ∧ (ss.foldl insN out).Perm (out ++ ss)
  | [], out, h => ⟨h, by simp⟩
  | s :: r, out, h => by
    rw [List.foldl_cons]
    obtain ⟨a, b⟩ := names_fold r (insN out s) (insN_sorted out s h)
    refine ⟨a, b.trans ?_⟩
    refine ((insN_perm out s).append_right r).trans ?_
    exact List.perm_middle.symm
theorem names_sorted (l : List En) : (l.map fun e => e.n).mergeSort (fun x y => decide (x ≤ y)) = namesL l := by
  obtain ⟨a, b⟩ := names_fold (l.map fun e => e.n) [] .nil
  refine List.Perm.eq_of_pairwise (le := fun x y : List UInt8 => x ≤ y) (fun x y _ _ h1 h2 => List.le_antisymm h1 h2) ?_ a ((List.mergeSort_perm _ _).trans b.symm)
  refine (List.pairwise_mergeSort (le := fun x y : List UInt8 => decide (x ≤ y)) (fun x y z h1 h2 => ?_) (fun x y => ?_) (l.map fun e => e.n)).imp (fun h => by simpa using h)
  · simp only [decide_eq_true_eq] at h1 h2 ⊢; exact List.le_trans h1 h2
  · simp only [Bool.or_eq_true, decide_eq_true_eq]; exact List.le_total x y
end Dir

theorem sortS_any (g cap : Nat) (ss : List (List UInt8)) (cs : List Value) (B : Nat) (w : World) (hr : Row w g 9 cs) (hcs : cs = ss.map SB) (hB : B ≤ g) (hcap : cap = ss.length) (hl : ss.length ≤ 100000) :
    Calls Try.prog 29 #[.slice (some ⟨g, 0, none⟩) ss.length cap] w fun e w' => e = .returned (.tuple #[]) ∧ Own w' B 9 (.slice (some ⟨g, 0, none⟩) ss.length cap) ((ss.mergeSort fun x y => decide (x ≤ y)).map SB) ∧ w.grownBy w' (some g) := by
  have hH : Holds encStr w g 0 ss.toArray := fun j hj => by
    rw [List.size_toArray] at hj
    rw [Nat.zero_add]
    refine ⟨?_, hr.free j⟩
    rw [hr.cell, hcs, List.getElem?_map, List.getElem?_eq_getElem hj]
    rw [getElem!_pos ss.toArray j (by simpa using hj)]
    rfl
  have := Any.slices_Sort_string Try.sortLay g 0 cap ss w hH hr.lt (by omega)
  change Calls Try.prog 29 _ _ _ at this
  refine this.mono ?_
  rintro e w' ⟨rfl, n, os, rfl⟩
  refine ⟨rfl, ?_, grownBy_sorted _⟩
  have h1 := ownsRow_sorted (w := w) (base := B) (g := g) (cap := cap) (n := n) (e := 9) (os := os) (cur := cs.toArray) (ts := ss.mergeSort fun x y => decide (x ≤ y)) (ss := ss) (List.length_mergeSort _) hB hr (by omega) (by rw [hcap]; simp only [maxLen]; omega) (by rw [List.size_toArray, hcs, List.length_map, hcap, Nat.mul_one])
  show World.ownsRow _ _ _ _ _ _ _
  rw [List.length_map, List.length_mergeSort]
  exact h1
theorem madeStr (c : Nat) (hc : c ≤ 1000) : ∃ zs : List Value, zs.length = c ∧ ∀ W, (Instr.makeSlice 44 (.int .i64 (c : Int)) (.int .i64 (c : Int))).run Try.prog W = .ok (.slice (some ⟨W.heap.size, 0, none⟩) c c) (W.alloc (.cells zs.toArray 9)) := by
  obtain ⟨i, hi, hz0, hz1, hz2⟩ := info_parts infoStr
  refine ⟨(madeCells (Value.string ⟨#[]⟩).cells (c * i.size)).toList, ?_, fun W => ?_⟩
  · rw [Array.length_toList, size_madeCells, hz1, Nat.mul_one]
  · have := run_make (P := Try.prog) W 44 9 i (.string ⟨#[]⟩) Try.underlying44 hi hz0 .i64 .i64 (c : Int) (c : Int) (by omega) (by omega) (by rw [hz2]; omega) (by omega)
    simpa using this

set_option maxRecDepth 100000 in
set_option maxHeartbeats 1000000 in
theorem DiNames_any (l : List En) (hn : l.length ≤ 1000) (v : Value) (w : World) (h : EntsAt w v l) :
    Calls Try.prog 17 #[v] w fun e w' => ∃ r, e = .returned r ∧ Hid (From w' r ((namesL l).map SB)) ∧ Below w.heap.size w w' := by
  have HNs := Lib.hid (names_sorted l)
  obtain ⟨A, cap, rfl, hs⟩ := h
  obtain ⟨n, hnl⟩ : ∃ n, n = l.length := ⟨_, rfl⟩
  have HNl := Lib.hid hnl
  rw [← hnl] at hn hs ⊢
  have HS := Lib.hid hs
  obtain ⟨zs, hzl, hmk⟩ := madeStr n hn
  have HZl := Lib.hid hzl
  have HSo : Hid (∀ W (cs : List Value), Row W w.heap.size 9 cs → cs = (l.map fun e => e.n).map SB → Calls Try.prog 29 #[.slice (some ⟨w.heap.size, 0, none⟩) n n] W fun e w' => e = .returned (.tuple #[]) ∧ Own w' w.heap.size 9 (.slice (some ⟨w.heap.size, 0, none⟩) n n) ((namesL l).map SB) ∧ W.grownBy w' (some w.heap.size)) := fun W cs h1 h2 => by
    have := sortS_any w.heap.size n (l.map fun e => e.n) cs w.heap.size W h1 h2 (Nat.le_refl _) (by rw [List.length_map, hnl]) (by rw [List.length_map]; omega)
    rw [List.length_map, ← hnl, HNs.out] at this
    exact this
  clear hs hnl hzl
  go_enter Try.func17, Try.ntmps17
  go_wp2
  have HR0 : Hid (Row (w.alloc (.cells zs.toArray 9)) w.heap.size 9 zs) := Row.new w 9 zs
  have HB0 : Hid (Below w.heap.size w (w.alloc (.cells zs.toArray 9))) := (Below.refl _ _).alloc (Nat.le_refl _) _
  clear hmk
  go_loopw [11] (fun i wr => ∃ (k : Nat), k ≤ n ∧ i = .int .i64 k ∧ Hid (Row wr w.heap.size 9 (((l.take k).map fun e => SB e.n) ++ zs.drop k)) ∧ Hid (Below w.heap.size w wr)) (fun i _ => n - (intOf i).toNat)
  case atStart => exact ⟨0, by omega, rfl, HR0.out, HB0.out⟩
  case round =>
    clear HR0 HB0
    obtain ⟨k, hk, rfl, Hr, Hbel⟩ := hrel
    by_cases hlt : k < n
    · obtain ⟨bb, o, rfl, hb, hsee⟩ := HS.out (by omega)
      obtain ⟨hx, hx1⟩ := atE (hsee.below Hbel.out hb) k (by rw [← HNl.out]; exact hlt)
      have Ht := Lib.hid (take_snoc l k (by rw [← HNl.out]; exact hlt) ⟨[], 0⟩)
      clear hsee HS
      generalize l.getD k ⟨[], 0⟩ = x at *
      obtain ⟨xn, xk⟩ := x
      unfold SB at hx
      simp only at hx hx1
      rename World => wx
      have Hlen : Hid (((l.take k).map fun e => SB e.n).length = k) := by show _ = _; rw [List.length_map, List.length_take, Nat.min_eq_left (by rw [← HNl.out]; omega)]
      have Htot : Hid ((((l.take k).map fun e => SB e.n) ++ zs.drop k).length = n) := by show _ = _; rw [List.length_append, Hlen.out, List.length_drop, HZl.out]; omega
      have HR1 : Hid (Row (wx.alloc (.cells #[.string (strB xn), .int .i64 xk] 26)) w.heap.size 9 (((l.take k).map fun e => SB e.n) ++ zs.drop k)) := Hr.out.alloc _
      have Hb1 : Hid (Below w.heap.size w (wx.alloc (.cells #[.string (strB xn), .int .i64 xk] 26))) := Hbel.out.alloc Hbel.out.size _
      have hlx : w.heap.size < wx.heap.size := Hr.out.lt
      have hne : ¬ w.heap.size = wx.heap.size := by omega
      have f0 := HR1.out.free k
      have c0 := HR1.out.cell k
      obtain ⟨u, hu⟩ : ∃ u, (((l.take k).map fun e => SB e.n) ++ zs.drop k)[k]? = some u := ⟨_, List.getElem?_eq_getElem (by rw [Htot.out]; exact hlt)⟩
      rw [hu] at c0
      have HRs : Hid (Row ((wx.setCell ⟨w.heap.size, k, none⟩ (.string (strB xn))).alloc (.cells #[.string (strB xn), .int .i64 xk] 26)) w.heap.size 9 (((l.take (k + 1)).map fun e => SB e.n) ++ zs.drop (k + 1))) := by
        have := (Hr.out.set k (SB xn)).alloc (.cells #[.string (strB xn), .int .i64 xk] 26)
        have e : (((l.take k).map fun e => SB e.n) ++ zs.drop k).set k (SB xn) = ((l.take (k + 1)).map fun e => SB e.n) ++ zs.drop (k + 1) := by
          rw [List.set_append_right _ _ (by rw [Hlen.out]; exact Nat.le_refl _), Hlen.out, Nat.sub_self, Ht.out, List.map_append, List.append_assoc, List.drop_eq_getElem_cons (by rw [HZl.out]; exact hlt)]
          rfl
        rw [e] at this
        exact this
      have HBs : Hid (Below w.heap.size w ((wx.setCell ⟨w.heap.size, k, none⟩ (.string (strB xn))).alloc (.cells #[.string (strB xn), .int .i64 xk] 26))) := (Hbel.out.setCell (p := ⟨w.heap.size, k, none⟩) (Nat.le_refl _) _).alloc (by simpa using Hbel.out.size) _
      clear hu Hr Hbel
      go_wp2
      refine ⟨⟨k + 1, by omega, by go_num, HRs, HBs⟩, ?_⟩
      simp [intOf]
      omega
    · obtain rfl : k = n := by omega
      have HE : Hid (((l.take k).map fun e => SB e.n) ++ zs.drop k = (l.map fun e => e.n).map SB) := by
        show _ = _
        rw [List.take_of_length_le (by rw [← HNl.out]; exact Nat.le_refl _), List.drop_eq_nil_of_le (by rw [HZl.out]; exact Nat.le_refl _), List.append_nil, List.map_map]
        rfl
      go_wp2_with (go_at_call 29; refine (HSo.out _ _ Hr.out HE.out).mono ?_; rintro e w3 ⟨rfl, hO, hg⟩)
      go_ret
      exact ⟨_, rfl, hO.from_, Hbel.out.grown hg Hbel.out.size (fun k hk => by injection hk with hk; omega)⟩
end Go.Proofs.Ytaamhdgngnpmoaa
