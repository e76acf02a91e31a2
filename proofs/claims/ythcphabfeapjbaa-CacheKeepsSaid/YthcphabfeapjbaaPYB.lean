/-
  THE WALK of Has: the blocks of the places that are taken, sorted.
-/
import Derived.Test.YthcphabfeapjbaaPYA
import Derived.Test.YthcphabfeapjbaaPY0
import Derived.Sort.OwnSortedInts
import Derived.Shelf.Slices.In.SortNone
namespace Go.Proofs.Ythcphabfeapjbaa
open Go.RowKit Ca Go.Sort Go.Proofs

/-- The blocks that have entries, by their places. -/
def blk (L : List Ent) : List Int := (L.filter fun e => decide (0 ≤ e.block)).map (·.block)
theorem blk_take (L : List Ent) (k : Nat) (hk : k < L.length) : blk (L.take (k + 1)) = if 0 ≤ (L.getD k Ent.free).block then blk (L.take k) ++ [(L.getD k Ent.free).block] else blk (L.take k) := by
  unfold blk
  rw [take_snocC L k hk Ent.free, List.filter_append, List.map_append]
  by_cases h : 0 ≤ (L.getD k Ent.free).block
  · rw [if_pos h, List.filter_cons_of_pos (by simpa using h)]; rfl
  · rw [if_neg h, List.filter_cons_of_neg (by simpa using h)]; simp
theorem blk_length (L : List Ent) : (blk L).length ≤ L.length := by
  unfold blk
  rw [List.length_map]
  exact List.length_filter_le _ _
theorem ins_perm (x : Int) : ∀ l, (ins x l).Perm (x :: l)
  | [] => .refl _
  | y :: r => by
    rw [ins]
    split
    · exact ((ins_perm x r).cons y).trans (.swap _ _ _)
    · exact .refl _
theorem ins_sorted (x : Int) : ∀ l : List Int, l.Pairwise (· ≤ ·) → (ins x l).Pairwise (· ≤ ·)
  | [], _ => by simp [ins]
  | y :: r, h => by
    rw [ins]
    have h1 := List.pairwise_cons.1 h
    split
    · rename_i hy
      refine List.pairwise_cons.2 ⟨fun z hz => ?_, ins_sorted x r h1.2⟩
      rcases mem_ins x z r hz with e | e
      · omega
      · exact h1.1 z e
    · refine List.pairwise_cons.2 ⟨fun z hz => ?_, h⟩
      rcases List.mem_cons.1 hz with e | e
      · omega
      · have := h1.1 z e; omega
theorem fold_sorted : ∀ (L : List Ent) (out : List Int), out.Pairwise (· ≤ ·) → (L.foldl (fun out e => if e.block < 0 then out else ins e.block out) out).Pairwise (· ≤ ·)
    ∧ (L.foldl (fun out e => if e.block < 0 then out else ins e.block out) out).Perm (out ++ blk L)
  | [], out, h => ⟨h, by simp [blk]⟩
  | e :: r, out, h => by
    rw [List.foldl_cons]
    by_cases hb : e.block < 0
    · obtain ⟨a, b⟩ := fold_sorted r out h
      rw [if_pos hb]
      refine ⟨a, ?_⟩
      have : blk (e :: r) = blk r := by unfold blk; rw [List.filter_cons_of_neg (by simp; omega)]
      rw [this]; exact b
    · obtain ⟨a, b⟩ := fold_sorted r (ins e.block out) (ins_sorted _ _ h)
      rw [if_neg hb]
      refine ⟨a, ?_⟩
      have : blk (e :: r) = e.block :: blk r := by unfold blk; rw [List.filter_cons_of_pos (by simp; omega)]; rfl
      rw [this]
      refine b.trans ?_
      refine ((ins_perm e.block out).append_right (blk r)).trans ?_
      exact List.perm_middle.symm
theorem hasL_sorted (L : List Ent) : (blk L).mergeSort (fun x y => decide (x ≤ y)) = hasL L := by
  obtain ⟨a, b⟩ := fold_sorted L [] .nil
  refine List.Perm.eq_of_pairwise (le := fun x y : Int => x ≤ y) (fun x y _ _ h1 h2 => by omega) ?_ a ((List.mergeSort_perm _ _).trans b.symm)
  refine (List.pairwise_mergeSort (le := fun x y : Int => decide (x ≤ y)) (fun x y z h1 h2 => ?_) (fun x y => ?_) (blk L)).imp (fun h => by simpa using h)
  · simp only [decide_eq_true_eq] at h1 h2 ⊢; omega
  · simp only [Bool.or_eq_true, decide_eq_true_eq]; omega

theorem Csort_any (v : Value) (l : List Int) (B : Nat) (w : World) (hO : Own w B 3 v (l.map VC)) (hl : l.length ≤ 100000) : Calls Try.prog 29 #[v] w fun e w' => e = .returned (.tuple #[]) ∧ Own w' B 3 v ((l.mergeSort fun x y => decide (x ≤ y)).map VC) ∧ w.grownBy w' v.ownBlock := by
  rcases hO.2 with ⟨rfl, h0⟩ | ⟨g, cap, cur, rfl, hb, hg, hc, hcm, hcs, ht⟩
  · have hl0 : l = [] := List.eq_nil_of_length_eq_zero (by simpa using h0)
    subst hl0
    have := Any.slices_Sort_int_none Try.sortLay none 0 w
    change Calls Try.prog 29 _ _ _ at this
    refine this.mono ?_
    rintro e w' ⟨rfl, rfl⟩
    exact ⟨rfl, by rw [List.mergeSort_nil]; exact Own.nil _ _ _, World.grownBy.refl _ _⟩
  · rw [List.length_map] at hc
    rw [Nat.mul_one] at ht
    have hgl : g < w.heap.size := (Array.getElem?_eq_some_iff.1 hg).1
    have ht2 : cur.toList.take l.length = l.map (Value.int .i64) := by rw [List.length_map] at ht; exact ht
    have := Any.slices_Sort_int Try.sortLay g 0 cap l w (holds_of_blockI hg ht2) hgl (by omega)
    rw [List.length_map]
    change Calls Try.prog 29 _ _ _ at this
    refine this.mono ?_
    rintro e w' ⟨rfl, n, os, rfl⟩
    refine ⟨rfl, ?_, grownBy_sortedI _⟩
    have h1 := ownsRow_sortedI (w := w) (base := B) (n := n) (os := os) (ts := l.mergeSort fun x y => decide (x ≤ y)) (ss := l) (List.length_mergeSort _) hb hg hc hcm hcs
    show World.ownsRow _ _ _ _ _ _ _
    rw [List.length_map, List.length_mergeSort]
    exact h1


set_option maxRecDepth 100000 in
set_option maxHeartbeats 2000000 in
theorem CHas_any {w0 : World} {F : Nat → Prop} {D sh room q : Nat} {s : St} (h : Lies w0 F D sh room q s) : Calls Try.prog 19 #[.pointer (some ⟨D, 0, none⟩)] w0 fun e w' => ∃ v, e = .returned v ∧ Hid (Own w' w0.heap.size 3 v ((hasL s.L).map VC)) ∧ Below w0.heap.size w0 w' := by
  obtain ⟨ro, a, ca, ps, rs, vs, hF, hR⟩ := h
  have HR := Lib.hid hR
  have c0 := hR.c0
  have hs := hR.sh1
  have hr := hR.rm1
  have hbd : sh * room ≤ 64 * 64 := Nat.mul_le_mul hR.sh1.2 hR.rm1.2
  have HLen : Hid (s.L.length = sh * room) := hR.fit.len
  have HSz : Hid (D < w0.heap.size ∧ a < w0.heap.size) := ⟨hR.lt _ (by rw [hR.rD]; decide), hR.lt _ (by rw [hR.ra]; decide)⟩
  have HBD := Lib.hid hbd
  have HOL : Hid (∀ n, n ≤ sh * room → (blk (s.L.take n)).length ≤ 4096) := fun n hn => by have := blk_length (s.L.take n); rw [List.length_take] at this; omega
  clear hF hR hbd
  go_enter Try.func19, Try.ntmps19
  go_wp2
  go_loopw [3, 15] (fun v k wr => ∃ (t : Nat), t ≤ sh ∧ k = .int .i64 (t : Int) ∧ Hid (Own wr w0.heap.size 3 v ((blk (s.L.take (t * room))).map VC)) ∧ Hid (Below w0.heap.size w0 wr)) (fun _ k _ => sh - (intOf k).toNat)
  case atStart => exact ⟨0, by omega, rfl, by rw [Nat.zero_mul]; exact Own.nil _ _ _, Below.refl _ _⟩
  case round =>
    obtain ⟨t, ht, rfl, HO, HB⟩ := hrel
    rename World => w1
    by_cases hlt : t < sh
    · have s0 := (HR.out.below HB.out).s0 hlt
      have s1 := (HR.out.below HB.out).s1 hlt
      go_wp2
      go_loopw [3, 22] (fun v j wr => ∃ (jj : Nat), jj ≤ room ∧ j = .int .i64 (jj : Int) ∧ Hid (Own wr w0.heap.size 3 v ((blk (s.L.take (t * room + jj))).map VC)) ∧ Hid (Below w0.heap.size w0 wr)) (fun _ j _ => room - (intOf j).toNat)
      case atStart => exact ⟨0, by omega, rfl, HO.out.alloc _, HB.out.alloc HB.out.size _⟩
      case round =>
        obtain ⟨j, hj, rfl, HO2, HB2⟩ := hrel
        rename World => w2
        clear s0 s1 HO HB
        by_cases hjl : j < room
        · have hR2 := HR.out.below HB2.out
          have d0 := hR2.ent hlt hjl 0 _ rfl
          have d1 := hR2.ent hlt hjl 1 _ rfl
          have d2 := hR2.ent hlt hjl 2 _ rfl
          have d3 := hR2.ent hlt hjl 3 _ rfl
          have d4 := hR2.ent hlt hjl 4 _ rfl
          rw [Nat.add_zero] at d0
          obtain ⟨A9, n9, c9, hcv⟩ : ∃ A n c, vs (t * room + j) = .slice A n c := by
            rcases hR2.cnt (t * room + j) with ⟨e, _⟩ | ⟨b, cap, e, _⟩
            · exact ⟨_, _, _, e⟩
            · exact ⟨_, _, _, e⟩
          rw [hcv] at d2
          have hkl : t * room + j < s.L.length := hR2.fit.lt hlt (by omega)
          have Hst := Lib.hid (blk_take s.L (t * room + j) hkl)
          have HLn : Hid ((blk (s.L.take (t * room + j))).length ≤ 4096) := HOL.out _ (by rw [← HLen.out]; omega)
          obtain ⟨bk, hbk⟩ : ∃ x, x = (s.L.getD (t * room + j) Ent.free).block := ⟨_, rfl⟩
          rw [← hbk] at d0 d1 Hst
          generalize (s.L.getD (t * room + j) Ent.free).flag = fl at d3
          generalize (s.L.getD (t * room + j) Ent.free).pins = pn at d4
          generalize ps t = pt at *
          clear hbk hcv hkl hR2
          obtain ⟨l, hl⟩ : ∃ l, l = blk (s.L.take (t * room + j)) := ⟨_, rfl⟩
          rw [← hl] at HO2 Hst HLn
          clear hl
          by_cases hb : 0 ≤ bk
          · have HF : Hid (blk (s.L.take (t * room + (j + 1))) = l ++ [bk]) := by show _ = _; rw [← Nat.add_assoc, Hst.out, if_pos hb]
            rw [decide_eq_true hb] at d0
            rw [if_pos hb] at d1
            have HFN : Hid (∀ o, From ((w2.alloc o).alloc (.cells #[.int .i64 bk] 3)) (.slice (some ⟨w2.heap.size + 1, 0, none⟩) 1 1) [VC bk]) := fun o => by
              have := from_new (w2.alloc o) 3 [VC bk]
              rwa [show (w2.alloc o).heap.size = w2.heap.size + 1 from by simp] at this
            have hsz2 := HB2.out.size
            clear hb Hst
            go_wp2_with (at_builtin; refine wpList_app rfl (.tmp 28) (.tmp 31) 43 rfl w0.heap.size 3 Try.underlying43 infoInt10 rfl (by decide) _ (l.map VC) rfl ((HO2.out.alloc _).alloc _) _ [VC bk] rfl (HFN.out _) (by intro y hy; rw [List.mem_singleton.1 hy]; rfl) (by have := HLn.out; simp; omega) (by simp; omega) ?_; intro v1 w3 hO1 hg1 _; have hb3 : Below w0.heap.size w0 w3 := below_app ((HB2.out.alloc HB2.out.size _).alloc (Nat.le_trans HB2.out.size (by simp)) _) ((HO2.out.alloc _).alloc _) hg1 (Nat.le_refl _) (by simp; omega); have HO3 : Hid (Own w3 w0.heap.size 3 v1 ((blk (s.L.take (t * room + (j + 1)))).map VC)) := (by rw [HF.out, List.map_append]; exact hO1); have HB3 := Lib.hid hb3; clear hO1 hg1 hb3)
            exact ⟨⟨j + 1, by omega, by go_num, HO3, HB3⟩, by show room - ((j : Int) + 1).toNat < room - ((j : Int)).toNat; omega⟩
          · have HF : Hid (blk (s.L.take (t * room + (j + 1))) = l) := by show _ = _; rw [← Nat.add_assoc, Hst.out, if_neg hb]
            rw [decide_eq_false hb] at d0
            rw [if_neg hb] at d1
            clear hb Hst
            go_wp2
            exact ⟨⟨j + 1, by omega, by go_num, (by rw [HF.out]; exact HO2.out.alloc _), HB2.out.alloc HB2.out.size _⟩, by show room - ((j : Int) + 1).toNat < room - ((j : Int)).toNat; omega⟩
        · obtain rfl : j = room := by omega
          go_wp2
          exact ⟨⟨t + 1, by omega, by go_num, (by rw [Nat.succ_mul]; exact HO2.out), HB2⟩, by show sh - ((t : Int) + 1).toNat < sh - ((t : Int)).toNat; omega⟩
    · obtain rfl : t = sh := by omega
      have hl0 := HOL.out _ (Nat.le_refl _)
      have HSo := Lib.hid (Csort_any _ _ _ _ HO.out (Nat.le_trans hl0 (by decide)))
      have hob : Hid (∀ k, u3.ownBlock = some k → w0.heap.size ≤ k) := fun k hk => (HO.out.lt hk).1
      clear hl0
      go_wp2_with (refine HSo.out.mono ?_; rintro e w2 ⟨rfl, hO, hg⟩; have HO2 := Lib.hid hO; have HB2 : Hid (Below w0.heap.size w0 w2) := HB.out.grown hg HB.out.size (fun k hk => hob.out k hk); clear hO hg)
      go_ret
      refine ⟨_, rfl, ?_, HB2.out⟩
      have := HO2.out
      rw [hasL_sorted, ← HLen.out, List.take_length] at this
      exact this
end Go.Proofs.Ythcphabfeapjbaa
