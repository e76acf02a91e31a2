/-
  THE WALK of the program's Put.
-/
import Derived.Test.YtcpdhfgigopfoaaIW
namespace Go.Proofs.Ytcpdhfgigopfoaa
open Go.RowKit Cdc Inn

theorem infoU8 : (Try.prog.info? 40).map (fun i => (i.zero, i.size, i.bytes)) = some (some (.int .u64 0), 1, 8) := by kernel_rfl
theorem oneU (l : List Nat) : ∀ y ∈ l.map VU, y.oneCell' = true := fun y hy => by obtain ⟨x, _, rfl⟩ := List.mem_map.1 hy; rfl
theorem wrapU (z : Int) (h0 : 0 ≤ z) (h : z ≤ 1000000) : IntKind.u64.wrap z = (z.toNat : Int) := by
  show (if false && decide (z % (2 ^ 64 : Int) ≥ (2 ^ 63 : Int)) then z % (2 ^ 64 : Int) - (2 ^ 64 : Int) else z % (2 ^ 64 : Int)) = z.toNat
  rw [Bool.false_and, if_neg (by decide)]
  have e : (2 : Int) ^ 64 = 18446744073709551616 := by decide
  rw [e]
  omega

set_option maxRecDepth 100000 in
set_option maxHeartbeats 4000000 in
theorem InPut_any (x : Ino) (hf : x.fits) (w : World) :
    Calls Try.prog 6 #[.agg (inoC x)] w fun e w' => ∃ r, e = .returned (.tuple #[r, .int .i64 (putE x)]) ∧ Hid (Arg w' r (Inn.putB x)) ∧ Below w.heap.size w w' := by
  obtain ⟨w0, hw0⟩ : ∃ w0, w0 = w.alloc (.cells (inoC x) 24) := ⟨_, rfl⟩
  have HR : Hid (Row w0 w.heap.size 24 (x.l.map VI)) := by rw [hw0]; exact Row.new w 24 (x.l.map VI)
  have HC : Hid (Below w.heap.size w w0) := by rw [hw0]; exact (Below.refl _ _).alloc (Nat.le_refl _) _
  have HM := Lib.hid (InMay_any x hf w0)
  have HNum : Hid (∀ W, Calls Try.prog 14 #[.agg (inoC x)] W fun e w' => e = .returned (.agg ((nm x).map VI).toArray) ∧ Below W.heap.size W w') := fun W => InNumbersOf_any x W
  obtain ⟨cs, hcs⟩ : ∃ cs, cs = inoC x := ⟨_, rfl⟩
  have Hcs : Hid (cs = (x.l.map VI).toArray) := hcs
  have Hsz : Hid (cs.size = 7) := by show _ = _; rw [hcs]; rfl
  rw [← hcs] at hw0 HM HNum ⊢
  clear hcs
  obtain ⟨m, hm⟩ : ∃ m, m = may x := ⟨_, rfl⟩
  rw [← hm] at HM
  cases m
  · have hE : putE x = 1 := by unfold putE; rw [← hm]; rfl
    have hB : Inn.putB x = [] := by unfold Inn.putB; rw [← hm]; rfl
    rw [hE, hB]
    clear hE hB hm HNum
    go_enter Try.func6, Try.ntmps6
    go_wp2_with (refine wpList_load_row rfl 24 (.tmp 1) rfl w.heap.size rfl 24 cs (0, 0) _ (by rw [← hw0, Hcs.out]; exact HR.out) Try.underlying24 rfl (by rw [Hsz.out]; kernel_rfl) ?_)
    rw [← hw0]
    refine HM.out.mono ?_
    rintro e w1 ⟨rfl, hb⟩
    have HC1 := Lib.hid (HC.out.trans (hb.mono HC.out.size))
    clear hb
    go_wp2
    go_ret2
    exact ⟨_, rfl, .inl ⟨none, rfl, rfl⟩, HC1.out⟩
  · have hmx : may x = true := hm.symm
    have hE : putE x = 0 := if_pos hmx
    obtain ⟨hok, henc⟩ := encs_vals hmx
    have hB : Inn.putB x = Cdc.putB widthsL (vals x) := by
      rw [show Inn.putB x = enc x from if_pos hmx, Cdc.putB, if_pos hok, henc]
    rw [hE, hB]
    have hbd := may_bounds hmx
    have HErr : Hid (errI (okP widthsL (vals x)) = 0) := errI_ok hok
    have HKP : Hid (∀ v u W, From W v (widthsL.map VI) → From W u ((vals x).map VU) → Calls Try.prog 15 #[v, u] W fun e w' => ∃ r, e = .returned (.tuple #[r, .int .i64 0]) ∧ Hid (Arg w' r (Cdc.putB widthsL (vals x))) ∧ Below W.heap.size W w') := fun v u W h1 h2 => by
      have := KPut_any widthsL (by decide) (vals x) (vals_small hmx) v u W h1 h2
      rwa [HErr.out] at this
    have Hsm : Hid (∀ j, j < 5 → 0 ≤ (nm x).getD j 0 ∧ (nm x).getD j 0 ≤ 127) := nm_small hmx
    have Hva : Hid (∀ j, j < 5 → (vals x).getD (2 + j) 0 = ((nm x).getD j 0).toNat) := vals_at x
    have Hv0 : Hid ((vals x).take 2 = [x.k.toNat, x.b.toNat]) := rfl
    have Hvl : Hid ((vals x).length = 7) := vals_len x
    have hk0 : 0 ≤ x.k ∧ x.k ≤ 2 := ⟨hbd.1, hbd.2.1⟩
    have hb0 : 0 ≤ x.b ∧ x.b ≤ 2304 := ⟨hbd.2.2.1, hbd.2.2.2.1⟩
    have Hnl : Hid (((nm x).map VI).toArray.size = 5) := rfl
    obtain ⟨ns, hns⟩ : ∃ ns, ns = ((nm x).map VI).toArray := ⟨_, rfl⟩
    have Hns : Hid (∀ j, j < 5 → ns[j]? = some (.int .i64 ((nm x).getD j 0))) := fun j hj => by rw [hns, List.getElem?_toArray, List.getElem?_map, List.getElem?_eq_getElem (by rw [nm_len]; exact hj), List.getD_eq_getElem?_getD, List.getElem?_eq_getElem (by rw [nm_len]; exact hj)]; rfl
    rw [← hns] at HNum
    have ck : Hid (∀ W, Below w0.heap.size w0 W → W.cell? ⟨w.heap.size, 0, none⟩ = some (.int .i64 x.k) ∧ W.cell? ⟨w.heap.size, 1, none⟩ = some (.int .i64 x.b) ∧ W.heap[w.heap.size]? = some (.cells cs 24 (0, 0))) := fun W hW => by
      have h := HR.out.below hW HR.out.lt
      exact ⟨rowI h 0 (by rw [l_len]; omega), rowI h 1 (by rw [l_len]; omega), by rw [Hcs.out]; exact h⟩
    clear hE hB hm hok henc hbd hmx hns Hnl
    generalize nm x = nl at *
    generalize vals x = vl at *
    have Hk : Hid (IntKind.u64.wrap x.k = (x.k.toNat : Int)) := wrapU x.k (by omega) (by omega)
    have Hb : Hid (IntKind.u64.wrap x.b = (x.b.toNat : Int)) := wrapU x.b (by omega) (by omega)
    clear hk0 hb0
    generalize x.k = k at *
    generalize x.b = b at *
    go_enter Try.func6, Try.ntmps6
    go_wp2_with (refine wpList_load_row rfl 24 (.tmp 1) rfl w.heap.size rfl 24 cs (0, 0) _ (by rw [← hw0, Hcs.out]; exact HR.out) Try.underlying24 rfl (by rw [Hsz.out]; kernel_rfl) ?_)
    rw [← hw0]
    refine HM.out.mono ?_
    rintro e w1 ⟨rfl, hb⟩
    have HC1 := Lib.hid (HC.out.trans (hb.mono HC.out.size))
    obtain ⟨c0, c1, cw⟩ := ck.out w1 hb
    have hw12 : Below w1.heap.size w1 (w1.alloc (.cells #[.int .u64 (IntKind.u64.wrap k), .int .u64 (IntKind.u64.wrap b)] 40)) := (Below.refl _ _).alloc (Nat.le_refl _) _
    have Hcw : Hid ((w1.alloc (.cells #[.int .u64 (IntKind.u64.wrap k), .int .u64 (IntKind.u64.wrap b)] 40)).heap[w.heap.size]? = some (.cells cs 24 (0, 0))) := (ck.out _ (hb.trans (hw12.mono hb.size))).2.2
    clear hw12
    have HO : Hid (Own (w1.alloc (.cells #[.int .u64 (IntKind.u64.wrap k), .int .u64 (IntKind.u64.wrap b)] 40)) w.heap.size 40 (.slice (some ⟨w1.heap.size, 0, none⟩) 2 2) ((vl.take 2).map VU)) := by
      have := Own.lit w1 w.heap.size 40 [VU k.toNat, VU b.toNat] HC1.out.size (by show 2 ≤ 1000000; decide)
      rw [Hv0.out, Hk.out, Hb.out]
      exact this
    have HC2 : Hid (Below w.heap.size w (w1.alloc (.cells #[.int .u64 (IntKind.u64.wrap k), .int .u64 (IntKind.u64.wrap b)] 40))) := HC1.out.alloc HC1.out.size _
    clear hb HM cw hw0 HR ck HC1
    go_wp2_with (refine wpList_load_row rfl 24 (.tmp 1) rfl w.heap.size rfl 24 cs (0, 0) _ Hcw.out Try.underlying24 rfl (by rw [Hsz.out]; kernel_rfl) ?_)
    obtain ⟨w2, hw2⟩ : ∃ w2, w2 = w1.alloc (.cells #[.int .u64 (IntKind.u64.wrap k), .int .u64 (IntKind.u64.wrap b)] 40) := ⟨_, rfl⟩
    rw [← hw2] at HO HC2 ⊢
    generalize (⟨w1.heap.size, 0, none⟩ : Addr) = ad at *
    clear hw2 Hcw Hv0
    refine (HNum.out w2).mono ?_
    rintro e w3 ⟨rfl, hb⟩
    replace HO := Lib.hid (HO.out.below hb (Nat.le_refl _))
    replace HC2 := Lib.hid (HC2.out.trans (hb.mono HC2.out.size))
    clear hb HNum
    go_wp2
    go_loopw [4, 6, 19] (fun l _ i wr => ∃ (j : Nat) (l0 : Value), l0 = l ∧ j ≤ 5 ∧ i = .int .i64 j ∧ Hid (Own wr w.heap.size 40 l0 ((vl.take (2 + j)).map VU)) ∧ Hid (Below w.heap.size w wr)) (fun _ _ i _ => 5 - (intOf i).toNat)
    case atStart => exact ⟨0, _, rfl, by omega, rfl, HO, HC2⟩
    case round =>
      clear HO HC2
      obtain ⟨j, l, rfl, hj, rfl, HO, HC⟩ := hrel
      by_cases hlt : j < 5
      · have hix := run_index_num ns j hlt _ (Hns.out j hlt)
        obtain ⟨hs1, hs2⟩ := Hsm.out j hlt
        have Htk : Hid (vl.take (2 + (j + 1)) = vl.take (2 + j) ++ [vl.getD (2 + j) 0]) := by
          show _ = _
          rw [show 2 + (j + 1) = 2 + j + 1 by omega]
          exact take_snoc vl (2 + j) (by rw [Hvl.out]; omega) 0
        have Hy : Hid (vl.getD (2 + j) 0 = (nl.getD j 0).toNat) := Hva.out j hlt
        generalize nl.getD j 0 = y at *
        have Hw := Lib.hid (wrapU y (by omega) (by omega))
        have Hone : Hid (∀ z ∈ [Value.int .u64 (IntKind.u64.wrap y)], z.oneCell' = true) := fun z hz => by rw [List.mem_singleton] at hz; rw [hz]; rfl
        have Hlen : Hid (((vl.take (2 + j)).map VU).length + [Value.int .u64 (IntKind.u64.wrap y)].length ≤ 100000000) := by show _ ≤ _; simp; omega
        have Hsz2 : Hid (w.heap.size ≤ (wr.alloc (.cells #[.int .u64 (IntKind.u64.wrap y)] 40)).heap.size) := by show _ ≤ _; have := HC.out.size; simp; omega
        have HC3 : Hid (Below w.heap.size w (wr.alloc (.cells #[.int .u64 (IntKind.u64.wrap y)] 40))) := HC.out.alloc HC.out.size _
        have HO3 : Hid (Own (wr.alloc (.cells #[.int .u64 (IntKind.u64.wrap y)] 40)) w.heap.size 40 l ((vl.take (2 + j)).map VU)) := HO.out.alloc _
        clear HO HC hs1 hs2
        go_wp2_with (at_builtin; refine wpList_app rfl (.tmp 22) (.tmp 25) 41 rfl w.heap.size 40 Try.underlying41 infoU8 rfl (by decide) _ ((vl.take (2 + j)).map VU) rfl HO3.out _ [.int .u64 (IntKind.u64.wrap y)] rfl (from_new wr 40 [.int .u64 (IntKind.u64.wrap y)]) Hone.out Hlen.out Hsz2.out ?_; intro v' w5 hown5 hg5 _; have HO5 := Lib.hid hown5; have HC5 := Lib.hid (below_app HC3.out HO3.out hg5 (Nat.le_refl _) Hsz2.out); clear hown5 hg5)
        go_roundw
        case rel =>
          refine ⟨j + 1, _, rfl, by omega, by go_num, ?_, HC5⟩
          show Own _ _ _ _ _
          have := HO5.out
          rw [Hw.out] at this
          rw [Htk.out, List.map_append, Hy.out]
          exact this
        case measure => simp [intOf] <;> omega
      · obtain rfl : j = 5 := by omega
        have HF : Hid (From wr l (vl.map VU)) := by
          have := HO.out.from_
          rwa [List.take_of_length_le (by rw [Hvl.out]; omega)] at this
        clear HO
        go_wp2_with fail
        refine (InWidths_any wr).mono ?_
        rintro e w6 ⟨v6, rfl, HW, hb⟩
        replace HF := Lib.hid (HF.out.below hb)
        replace HC := Lib.hid (HC.out.trans (hb.mono HC.out.size))
        clear hb
        go_wp2_with fail
        refine (HKP.out v6 l w6 HW.out HF.out).mono ?_
        rintro e w7 ⟨r, rfl, HA, hb⟩
        replace HC := Lib.hid (HC.out.trans (hb.mono HC.out.size))
        clear hb
        go_wp2
        go_ret2
        exact ⟨_, rfl, HA, HC.out⟩
end Go.Proofs.Ytcpdhfgigopfoaa
