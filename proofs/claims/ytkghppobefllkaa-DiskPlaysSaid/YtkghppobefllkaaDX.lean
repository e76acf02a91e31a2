/-
  THE WALK of the law DiskKeeps.
-/
import Derived.Test.YtkghppobefllkaaDW
namespace Go.Proofs.Ytkghppobefllkaa
open Go.RowKit Dsk

namespace Dsk
theorem writeL_length (L : List Blk) (i : Int) (bs : List UInt8) : (writeL L i bs).length = L.length := by
  unfold writeL
  split
  · exact upd1_length _ _ _
  · rfl
end Dsk

theorem both_new {w w1 w2 : World} {D M : Nat} {F G : Nat → Prop} {L : List Blk} (hD : DiskAt w1 F D L) (hF : ∀ k, F k → w.heap.size ≤ k) (hb1 : Below w.heap.size w w1) (hR : RefAt w2 G M L) (hG : ∀ k, G k → w1.heap.size ≤ k) (hb2 : Below w1.heap.size w1 w2) :
    Both w w2 (fun _ => False) D M L L :=
  ⟨F, G, hD.below hb2, hR, fun k hk => ⟨hF k hk, fun x => x⟩, fun k hk => ⟨Nat.le_trans hb1.size (hG k hk), fun x => x⟩, fun k hk hg => by have := hD.lt k hk; have := hG k hg; omega, fun _ x => x.elim, hb1.trans (hb2.mono hb1.size)⟩

/-- The cells of deed i, at a later world. -/
theorem Deeds.at_ {w : World} {A : Option Addr} {n cap : Nat} {l : List Deed} (h : Deeds w (.slice A n cap) l) {i : Nat} (hi : i < n) :
    ∃ (b o : Nat) (d : Deed), A = some ⟨b, o, none⟩ ∧ l[i]? = some d ∧ d.ok w ∧ ∀ W, Below w.heap.size w W →
      W.cell? ⟨b, o + i * 6, none⟩ = some (.int .i64 d.what) ∧ W.cell? ⟨b, o + i * 6 + 1, none⟩ = some (.int .i64 d.i) ∧ W.cell? ⟨b, o + i * 6 + 2, none⟩ = some (.int .i64 d.k) ∧ W.cell? ⟨b, o + i * 6 + 3, none⟩ = some (.int .u8 d.x.toNat) ∧
      W.cell? ⟨b, o + i * 6 + 4, none⟩ = some d.vb ∧ W.cell? ⟨b, o + i * 6 + 5, none⟩ = some d.vk := by
  obtain ⟨A', cap', e, h1, h2⟩ := h
  injection e with e1 e2 e3
  subst e1 e2 e3
  obtain ⟨b, o, rfl, hb, hs⟩ := h1 (by omega)
  obtain ⟨d, hd⟩ : ∃ d, l[i]? = some d := ⟨_, List.getElem?_eq_getElem hi⟩
  refine ⟨b, o, d, rfl, hd, h2 d (List.mem_of_getElem? hd), fun W hW => ?_⟩
  have hs' := (hs i d hd).below hW hb
  exact ⟨hs'.at_ (j := 0) rfl, hs'.at_ (j := 1) rfl, hs'.at_ (j := 2) rfl, hs'.at_ (j := 3) rfl, hs'.at_ (j := 4) rfl, hs'.at_ (j := 5) rfl⟩

/-- What was read of each block ahead is what is durable now. -/
def Kept (L1 L3 : List Blk) : Prop := L3.length = L1.length ∧ ∀ (i : Nat) (x y : Blk), L1[i]? = some x → L3[i]? = some y → y.dur = x.cur
/-- The last texts, "" for none. -/
def lasts (L : List Blk) : List Value := L.map fun y => VS (y.wr.getD [])
theorem lasts_length (L : List Blk) : (lasts L).length = L.length := by simp [lasts]
theorem lasts_at {L : List Blk} {i : Nat} {y : Blk} (h : L[i]? = some y) : (lasts L)[i]? = some (.string (strB (y.wr.getD []))) := by rw [lasts, List.getElem?_map, h]; rfl
theorem lasts_set (L : List Blk) (i : Nat) (y : Blk) (bs : List UInt8) : lasts (L.set i (y.write bs)) = (lasts L).set i (.string (strB bs)) := by rw [lasts, lasts, List.map_set]; rfl
theorem flushed (L : List Blk) : Kept L (crash (fun _ => true) L) ∧ lasts (crash (fun _ => true) L) = List.replicate L.length (VS []) := by
  refine ⟨⟨by rw [crash, crashTo_length], fun i x y hx hy => ?_⟩, ?_⟩
  · have hi := (List.getElem?_eq_some_iff.1 hx).1
    rw [crash, crashTo_get, hx, Option.map_some, if_pos hi] at hy
    injection hy with hy
    rw [← hy]; rfl
  · apply List.ext_getElem?
    intro i
    rw [lasts, List.getElem?_map, crash, crashTo_get, List.getElem?_replicate]
    by_cases hi : i < L.length
    · rw [if_pos hi, List.getElem?_eq_getElem hi, Option.map_some, Option.map_some, if_pos hi]; rfl
    · rw [if_neg hi, List.getElem?_eq_none (by omega)]; rfl
theorem Kept.write {L1 L3 : List Blk} (h : Kept L1 L3) (i : Nat) {y : Blk} (hy : L3[i]? = some y) (bs : List UInt8) : Kept L1 (L3.set i (y.write bs)) := by
  refine ⟨by rw [List.length_set]; exact h.1, fun j x z hx hz => ?_⟩
  rw [List.getElem?_set] at hz
  split at hz
  · rename_i e
    subst e
    split at hz
    · injection hz with hz
      rw [← hz]; exact h.2 i x y hx hy
    · cases hz
  · exact h.2 j x z hx hz
theorem madeStr (n : Nat) (hn : n ≤ 1000) (W : World) : (Instr.makeSlice 47 (.int .i64 (n : Int)) (.int .i64 (n : Int))).run Try.prog W = .ok (.slice (some ⟨W.heap.size, 0, none⟩) n n) (W.alloc (.cells (List.replicate n (VS [])).toArray 9)) := by
  have h := run_make_row' (P := Try.prog) 47 9 (.string ⟨#[]⟩) 16 Try.underlying47 infoStr rfl .i64 .i64 n (by omega) (by omega) W
  rw [show madeCells #[Value.string ⟨#[]⟩] n = (List.replicate n (VS [])).toArray from by
    unfold madeCells
    apply Array.ext
    · simp
    · intro i h1 h2
      simp [VS, strB_nil, Nat.mod_one]] at h
  exact h
/-- What is read of block k behind the crash. -/
theorem crash_read {L1 L3 : List Blk} (h : Kept L1 L3) (keep : Nat → Bool) {k : Nat} {x y : Blk} (hx : L1[k]? = some x) (hy : L3[k]? = some y) :
    ∃ b, getB (crash keep L3) (k : Int) = some b ∧ ((y.wr = none → b.cur = x.cur) ∧ ∀ p, y.wr = some p → b.cur = if keep (cntK L3 k) then p else x.cur) := by
  have hk := (List.getElem?_eq_some_iff.1 hy).1
  refine ⟨_, by rw [getB_ofNat, crash, crashTo_get, hy, Option.map_some, if_pos hk], fun hn => ?_, fun p hp => ?_⟩
  · show (if keep (cnt (L3.take k)) then y.cur else y.dur) = _
    have : y.cur = y.dur := by rw [Blk.cur, hn]; rfl
    rw [this, ite_self]; exact h.2 k x y hx hy
  · show (if keep (cnt (L3.take k)) then y.cur else y.dur) = _
    have : y.cur = p := by rw [Blk.cur, hp]; rfl
    rw [this, h.2 k x y hx hy]; rfl

set_option maxRecDepth 100000 in
set_option maxHeartbeats 8000000 in
theorem DKeeps_short (n : Nat) (h1 : 1 ≤ n) (h2 : n ≤ 20) (A0 : Option Addr) (n0 c0 : Nat) (A1 : Option Addr) (n1 c1 : Nat) (A2 : Option Addr) (n2 c2 : Nat) (la lb : List Deed) (ks : List Bool) (hn0 : n0 ≤ 30) (hn1 : n1 ≤ 30) (hn2 : n2 ≤ 100) (w : World)
    (da : Deeds w (.slice A0 n0 c0) la) (db : Deeds w (.slice A1 n1 c1) lb) (hk : From w (.slice A2 n2 c2) (ks.map Value.bool)) (hkn : ks.length = n2) :
    Calls Try.prog 4 #[.int .i64 n, .slice A0 n0 c0, .slice A1 n1 c1, .slice A2 n2 c2] w fun e w' => e = .returned (.bool true) ∧ Below w.heap.size w w' := by
  have HN := Lib.hid (DNew_any n h1 (by omega) w)
  have HRN : Hid (∀ W, _) := fun W => RDNew_any n h1 (by omega) W
  have HLen : Hid ((List.replicate n Blk.zero).length = n) := List.length_replicate
  have HDa := Lib.hid da
  have HDb := Lib.hid db
  have HK := Lib.hid hk
  have HKn := Lib.hid hkn
  generalize List.replicate n Blk.zero = L0 at *
  clear da db hk hkn
  go_enter Try.func4, Try.ntmps4
  go_wp2_with fail
  refine HN.out.mono ?_
  rintro e w1 ⟨D, F, rfl, hD, hF, hb1⟩
  have HD := Lib.hid hD
  have HF := Lib.hid hF
  have HB1 := Lib.hid hb1
  clear hD hF hb1 HN
  go_wp2_with fail
  refine (HRN.out w1).mono ?_
  rintro e w2 ⟨M, G, rfl, hR, hG, hb2⟩
  have HB : Hid (Both w w2 (fun _ => False) D M L0 L0) := both_new HD.out HF.out HB1.out hR hG hb2
  clear hR hG hb2 HD HF HB1 HRN
  go_wp2
  go_loopw [12] (fun i wr => ∃ (k : Nat) (L : List Blk), k ≤ n0 ∧ i = .int .i64 k ∧ Hid (Both w wr (fun _ => False) D M L L ∧ L.length = n)) (fun i _ => n0 - (intOf i).toNat)
  case atStart => exact ⟨0, L0, by omega, rfl, HB.out, HLen.out⟩
  case round =>
    obtain ⟨k, L, hk, rfl, HB2⟩ := hrel
    clear HB HLen
    by_cases hlt : k < n0
    · obtain ⟨b, o, d, rfl, hd, hok, hcell⟩ := HDa.out.at_ hlt
      have HOk := Lib.hid hok
      have HCell := Lib.hid hcell
      have hb0 := HB2.out.1.below
      obtain ⟨_, q1, _, _, q4, _⟩ := HCell.out wr hb0
      have HW := HB2.out.1.stay (below_drewN (Below.refl _ wr) 1)
      have HW2 := Lib.hid (HW.disk (f := 9) (args := #[.pointer (some ⟨D, 0, none⟩), .int .i64 d.i, d.vb]) (Q := fun e => e = .returned (.int .i64 (errI (okW L d.i d.b)))) (Ld' := writeL L d.i d.b) (P := Try.prog) fun F hF _ => DWrite_any hF d.i d.vb d.b (HOk.out.arg.below HW.below))
      have hlt' : (k : Int) < (n0 : Int) := by omega
      have HLen : Hid (L.length = n) := HB2.out.2
      clear hcell hd hok hb0 HW HB2
      go_wp2
      refine wp_region_still_tail 11 (by kernel_rfl) (by kernel_rfl) ?_
      simp only [List.take_succ_cons, List.take_zero, List.drop_succ_cons, List.drop_zero]
      repeat still_step
      refine wpStill_nil ?_
      change wpList _ _ _ _ _ wr.drew
      go_wp2_with fail
      refine HW2.out.mono ?_
      rintro e w3 ⟨rfl, hB3, _⟩
      have hb3 := hB3.below
      obtain ⟨_, r1, _, _, r4, _⟩ := HCell.out w3 hb3
      have hW3 := hB3.stay (below_drewN (Below.refl _ w3) 1)
      have hcv : (convert 30 9 d.vb).run Try.prog w3.drew = .ok (.string (strB d.b)) w3.drew := conv_arg (HOk.out.arg.below hW3.below)
      have HV2 := Lib.hid (hW3.ref (f := 10) (args := #[.pointer (some ⟨M, 0, none⟩), .int .i64 d.i, .string (strB d.b)]) (Q := fun e => e = .returned (.bool (okW L d.i d.b))) (Lr' := writeL L d.i d.b) (P := Try.prog) fun G hG _ => RDWrite_any hG d.i d.b)
      clear hB3 hb3 hW3 q1 q4 HW2
      go_wp2
      refine wp_region_still_tail 12 (by kernel_rfl) (by kernel_rfl) ?_
      simp only [List.take_succ_cons, List.take_zero, List.drop_succ_cons, List.drop_zero]
      repeat still_step
      refine wpStill_nil ?_
      change wpList _ _ _ _ _ w3.drew
      go_wp2_with fail
      refine HV2.out.mono ?_
      rintro e w4 ⟨rfl, hB4, _⟩
      have HB4 : Hid (Both w w4 (fun _ => False) D M (writeL L d.i d.b) (writeL L d.i d.b) ∧ (writeL L d.i d.b).length = n) := ⟨hB4, by rw [writeL_length, HLen.out]⟩
      clear hB4 HV2 r1 r4 hcv
      go_wp2
      go_roundw
      case rel => exact ⟨k + 1, _, by omega, by go_num, HB4⟩
      case measure => simp [intOf]; omega
    · obtain rfl : k = n0 := by omega
      have HLn : Hid (L.length = n) := HB2.out.2
      have HFl := Lib.hid (HB2.out.1.disk (f := 11) (args := #[.pointer (some ⟨D, 0, none⟩)]) (Q := fun e => e = .returned (.tuple #[])) (Ld' := crash (fun _ => true) L) (P := Try.prog) fun F hF _ => DFlush_any hF)
      have HFk := Lib.hid (flushed L)
      rw [HLn.out] at HFk
      clear HB2 HDa
      go_wp2_with fail
      refine HFl.out.mono ?_
      rintro e w3 ⟨rfl, hB3, _⟩
      obtain ⟨L2, hL2⟩ : ∃ L2, L2 = crash (fun _ => true) L := ⟨_, rfl⟩
      rw [← hL2] at hB3 HFk
      have hmk := madeStr n (by omega) w3
      obtain ⟨q, hq⟩ : ∃ q, q = w3.heap.size := ⟨_, rfl⟩
      rw [← hq] at hmk
      have HB4 : Hid (Both w (w3.alloc (.cells (List.replicate n (VS [])).toArray 9)) (fun k => k = q) D M L2 L ∧ Kept L L2 ∧ Here (w3.alloc (.cells (List.replicate n (VS [])).toArray 9)) q 0 (lasts L2)) := by
        refine ⟨hB3.also ((Below.refl _ _).alloc (Nat.le_refl _) _) _ (fun k hk => .inr ⟨by omega, by simp; omega⟩), HFk.out.1, ?_⟩
        rw [HFk.out.2, hq]
        exact (Row.new w3 9 _).here
      have HQ : Hid (w.heap.size ≤ q) := by show _ ≤ _; rw [hq]; exact hB3.below.size
      generalize List.replicate n (VS []) = l0 at *
      clear hB3 HFl HFk hL2 hq
      go_wp2
      clear hmk
      go_loopw [14] (fun i wr => ∃ (k : Nat) (L3 : List Blk), k ≤ n1 ∧ i = .int .i64 k ∧ Hid (Both w wr (fun k => k = q) D M L3 L ∧ Kept L L3 ∧ Here wr q 0 (lasts L3))) (fun i _ => n1 - (intOf i).toNat)
      case atStart => exact ⟨0, L2, by omega, rfl, HB4⟩
      case round =>
        obtain ⟨k, L3, hk, rfl, HB3⟩ := hrel
        clear HB4
        by_cases hlt : k < n1
        · obtain ⟨b, o, d, rfl, hd, hok, hcell⟩ := HDb.out.at_ hlt
          have HOk := Lib.hid hok
          have HCell := Lib.hid hcell
          have hb0 := HB3.out.1.below
          obtain ⟨_, q1, _, _, q4, _⟩ := HCell.out wr hb0
          have HW := HB3.out.1.stay (below_drewN (Below.refl _ wr) 1)
          have HW2 := Lib.hid (HW.disk (f := 9) (args := #[.pointer (some ⟨D, 0, none⟩), .int .i64 d.i, d.vb]) (Q := fun e => e = .returned (.int .i64 (errI (okW L3 d.i d.b)))) (Ld' := writeL L3 d.i d.b) (P := Try.prog) fun F hF _ => DWrite_any hF d.i d.vb d.b (HOk.out.arg.below HW.below))
          have hlt' : (k : Int) < (n1 : Int) := by omega
          have HKt : Hid (Kept L L3) := HB3.out.2.1
          have HLa : Hid (Here wr.drew q 0 (lasts L3)) := HB3.out.2.2
          clear hcell hd hok hb0 HW HB3
          cases hok : okW L3 d.i d.b with
          | false =>
            have hwr : writeL L3 d.i d.b = L3 := by rw [writeL, hok]; rfl
            rw [hok, hwr, show errI false = 1 from rfl] at HW2
            clear hwr hok
            go_wp2
            refine wp_region_still_tail 11 (by kernel_rfl) (by kernel_rfl) ?_
            simp only [List.take_succ_cons, List.take_zero, List.drop_succ_cons, List.drop_zero]
            repeat still_step
            refine wpStill_nil ?_
            change wpList _ _ _ _ _ wr.drew
            go_wp2_with fail
            refine HW2.out.mono ?_
            rintro e w4 ⟨rfl, hB4, hC4⟩
            have HE : Hid (Both w w4 (fun k => k = q) D M L3 L ∧ Kept L L3 ∧ Here w4 q 0 (lasts L3)) := ⟨hB4, HKt.out, HLa.out.chg hC4 fun j _ hs => hs.2 rfl⟩
            clear hB4 hC4 HW2 HLa HKt q1 q4
            go_wp2
            go_roundw
            case rel => exact ⟨k + 1, _, by omega, by go_num, HE⟩
            case measure => simp [intOf]; omega
          | true =>
            obtain ⟨y, hy⟩ : ∃ y, getB L3 d.i = some y := by
              cases hg : getB L3 d.i with
              | none => rw [okW, hg] at hok; cases hok
              | some y => exact ⟨y, rfl⟩
            obtain ⟨m, hm, hym⟩ := getB_nat hy
            have hwr : writeL L3 d.i d.b = L3.set m (y.write d.b) := by rw [writeL, hok, if_pos rfl, hm, upd1_some hym]
            have hml := (List.getElem?_eq_some_iff.1 hym).1
            have hmn : m < n := by have := HKt.out.1; have := HLn.out; omega
            rw [hok, hwr, hm, show errI true = 0 from rfl] at HW2
            rw [hm] at q1
            clear hwr hok hy
            go_wp2
            refine wp_region_still_tail 11 (by kernel_rfl) (by kernel_rfl) ?_
            simp only [List.take_succ_cons, List.take_zero, List.drop_succ_cons, List.drop_zero]
            repeat still_step
            refine wpStill_nil ?_
            change wpList _ _ _ _ _ wr.drew
            go_wp2_with fail
            refine HW2.out.mono ?_
            rintro e w4 ⟨rfl, hB4, hC4⟩
            have hLa4 : Here w4 q 0 (lasts L3) := HLa.out.chg hC4 fun j _ hs => hs.2 rfl
            obtain ⟨_, r1, _, _, r4, _⟩ := HCell.out w4 hB4.below
            rw [hm] at r1
            have hcv : (convert 30 9 d.vb).run Try.prog w4.drew = .ok (.string (strB d.b)) w4.drew := conv_arg (HOk.out.arg.below (hB4.stay (below_drewN (Below.refl _ w4) 1)).below)
            have hq4 : w4.cell? ⟨q, m, none⟩ = some (.string (strB (y.wr.getD []))) := hLa4.head (lasts_at hym)
            have hf4 : w4.frozen? ⟨q, m, none⟩ = false := hLa4.headFree (by rw [lasts_length]; exact hml)
            have hmn' : (m : Int) < (n : Int) := by omega
            have HE : Hid (Both w (w4.drew.setCell ⟨q, m, none⟩ (.string (strB d.b))) (fun k => k = q) D M (L3.set m (y.write d.b)) L ∧ Kept L (L3.set m (y.write d.b)) ∧ Here (w4.drew.setCell ⟨q, m, none⟩ (.string (strB d.b))) q 0 (lasts (L3.set m (y.write d.b)))) := by
              refine ⟨hB4.chg (S := fun k _ => k = q) (((Chg.refl _ w4).drew).setCell rfl (fun _ => rfl) (by show (w4.cell? _).isSome = true; rw [hq4]; rfl) _) (fun k o _ hs => ⟨hs, by rw [hs]; exact HQ.out⟩), HKt.out.write m hym d.b, ?_⟩
              rw [lasts_set]
              have h4 : Here w4.drew q 0 (lasts L3) := hLa4
              have := h4.put m (by rw [lasts_length]; exact hml) (.string (strB d.b))
              rwa [Nat.zero_add] at this
            generalize L3.set m (y.write d.b) = L4 at *
            generalize strB d.b = sb at *
            generalize strB (y.wr.getD []) = so at *
            clear hB4 hC4 HW2 HLa HKt q1 q4 hLa4 hml hym hm
            go_wp2
            refine wp_region_still_tail 13 (by kernel_rfl) (by kernel_rfl) ?_
            simp only [List.take_succ_cons, List.take_zero, List.drop_succ_cons, List.drop_zero]
            repeat still_step
            refine wpStill_nil ?_
            change wpList _ _ _ _ _ w4.drew
            go_wp2
            go_roundw
            case rel => exact ⟨k + 1, _, by omega, by go_num, HE⟩
            case measure => simp [intOf]; omega
        · obtain rfl : k = n1 := by omega
          have HKF : Hid (∀ F : Nat → Prop, (∀ k, F k → w.heap.size ≤ k) → ∀ b o, A2 = some ⟨b, o, none⟩ → 0 < n2 → ¬ F b) := fun F hF => keep_apart HK.out HKn.out hF
          have HOk3 : Hid (∀ (i : Nat) (y : Blk), L3[i]? = some y → y.ok) := by
            obtain ⟨_, _, ⟨_, _, hW⟩, _⟩ := HB3.out.1
            exact hW.ok
          have HCr := Lib.hid (HB3.out.1.disk (f := 13) (args := #[.pointer (some ⟨D, 0, none⟩), .slice A2 n2 c2]) (Q := fun e => e = .returned (.tuple #[])) (Ld' := crash (fun n => ks.getD n false) L3) (P := Try.prog) fun F hF h => DCrash_any hF A2 n2 c2 ks HKn.out (HK.out.below HB3.out.1.below) (HKF.out _ fun k hk => (h k hk).1))
          have HKt : Hid (Kept L L3) := HB3.out.2.1
          have HLa : Hid (Here wr q 0 (lasts L3)) := HB3.out.2.2
          have HCnt : Hid (cnt (crash (fun n => ks.getD n false) L3) = 0) := cnt_crash _ _
          have HRd : Hid (∀ (k : Nat) (x y : Blk), L[k]? = some x → L3[k]? = some y → ∃ b, getB (crash (fun n => ks.getD n false) L3) (k : Int) = some b ∧ ((y.wr = none → b.cur = x.cur) ∧ ∀ p, y.wr = some p → b.cur = if ks.getD (cntK L3 k) false then p else x.cur)) := fun k x y hx hy => crash_read HKt.out _ hx hy
          have HCle : Hid (∀ k, cntK L3 k ≤ 20) := fun k => by
            have h1 := cnt_take_le L3 k
            have h2 := HKt.out.1
            have h3 := HLn.out
            unfold cntK
            omega
          have HL3n : Hid (L3.length = n) := by show _ = _; rw [HKt.out.1, HLn.out]
          obtain ⟨L4, hL4⟩ : ∃ L4, L4 = crash (fun n => ks.getD n false) L3 := ⟨_, rfl⟩
          rw [← hL4] at HCr HCnt HRd
          clear HB3 HKF hL4 HKt HDb
          go_wp2_with fail
          refine HCr.out.mono ?_
          rintro e w4 ⟨rfl, hB4, hC4⟩
          have HB4' : Hid (Both w w4 (fun k => k = q) D M L4 L ∧ Here w4 q 0 (lasts L3)) := ⟨hB4, HLa.out.chg hC4 fun j _ hs => hs.2 rfl⟩
          have hcn0 : cntK L3 0 = 0 := rfl
          clear hB4 hC4 HCr HLa
          go_wp2
          go_loopw [15, 16, 17, 18, 19] (fun m i _ _ _ wr => ∃ k : Nat, k ≤ n ∧ i = .int .i64 k ∧ m = .int .i64 (cntK L3 k) ∧ Hid (Both w wr (fun k => k = q) D M L4 L ∧ Here wr q 0 (lasts L3))) (fun _ i _ _ _ _ => n - (intOf i).toNat)
          case atStart => exact ⟨0, by omega, rfl, by rw [hcn0]; rfl, HB4'⟩
          case round =>
            clear hcn0
            obtain ⟨j, hj, rfl, rfl, HB5⟩ := hrel
            clear HB4'
            by_cases hlt : j < n
            · obtain ⟨x, hx⟩ : ∃ x, L[j]? = some x := ⟨_, List.getElem?_eq_getElem (by rw [HLn.out]; exact hlt)⟩
              obtain ⟨y, hy⟩ : ∃ y, L3[j]? = some y := ⟨_, List.getElem?_eq_getElem (by rw [HL3n.out]; exact hlt)⟩
              obtain ⟨b, hb, hcn, hcs⟩ := HRd.out j x y hx hy
              obtain ⟨F, G, hFD, hGR, -, -, -, -, -⟩ := HB5.out.1
              obtain ⟨r, hr⟩ : ∃ r, r = wr.heap.size := ⟨_, rfl⟩
              have hbl : b.cur.length = 72 := by
                obtain ⟨g, ps, hW⟩ := hFD
                obtain ⟨m, hm, hbm⟩ := getB_nat hb
                exact (hW.ok m b hbm).cur
              have HR1 : Hid (Calls Try.prog 20 #[.pointer (some ⟨D, 0, none⟩), .int .i64 j] wr fun e w' => e = .returned (.tuple #[.slice (some ⟨r, 0, none⟩) 72 72, .int .i64 0]) ∧ Here w' r 0 (b.cur.map V8) ∧ Below wr.heap.size wr w') := by
                rw [hr]; exact DRead_in hFD j b hb
              have HR2 : Hid (∀ w', Below wr.heap.size wr w' → Calls Try.prog 22 #[.pointer (some ⟨M, 0, none⟩), .int .i64 j] w' fun e w2 => e = .returned (.string (strB x.cur)) ∧ w2 = w') := fun w' hw' => RDRead_any (hGR.below hw') j x hx w' rfl
              have hs := cnt_snoc hy
              have HKe : Hid (∀ (W : World), Below w.heap.size w W → cntK L3 j < n2 → ∃ bb bo, A2 = some ⟨bb, bo, none⟩ ∧ W.cell? ⟨bb, bo + cntK L3 j, none⟩ = some (.bool (ks.getD (cntK L3 j) false))) := fun W hX hm => by
                obtain ⟨A', cap', hA, hs⟩ := HK.out.parts
                injection hA with hA1 _ _
                subst hA1
                obtain ⟨bb, bo, rfl, hbl, hsee⟩ := hs (by rw [List.length_map, HKn.out]; omega)
                exact ⟨bb, bo, rfl, at_bool (hsee.below hX hbl) _ (by rw [HKn.out]; exact hm)⟩
              have hle := HCle.out j
              have hlq : (j : Int) < (n : Int) := by omega
              clear hFD hGR hr
              go_wp2_with fail
              refine HR1.out.mono ?_
              rintro e w5 ⟨rfl, hH5, hb5⟩
              have hA5 : Arg w5 (.slice (some ⟨r, 0, none⟩) 72 72) b.cur := .inr ⟨r, 0, 72, by rw [hbl], hH5.lt (by rw [List.length_map, hbl]; omega), by omega, hH5.sees⟩
              have hcv : (convert 30 9 (.slice (some ⟨r, 0, none⟩) 72 72)).run Try.prog w5 = .ok (.string (strB b.cur)) w5 := conv_arg hA5
              have HE : Hid (Both w w5 (fun k => k = q) D M L4 L ∧ Here w5 q 0 (lasts L3)) := ⟨HB5.out.1.stay hb5, HB5.out.2.stay hb5⟩
              have HR3 := Lib.hid (HR2.out w5 hb5)
              have hcq : w5.cell? ⟨q, j, none⟩ = some (.string (strB (y.wr.getD []))) := HE.out.2.head (lasts_at hy)
              have hbw := HE.out.1.below
              clear hH5 hb5 hA5 HB5 HR1 HR2
              go_wp2_with fail
              refine HR3.out.mono ?_
              rintro e w6 ⟨rfl, rfl⟩
              clear HR3
              cases hw : y.wr with
              | none =>
                have Hs : Hid (cntK L3 (j + 1) = cntK L3 j) := by show _ = _; rw [cntK, cntK, hs, Blk.dirty, hw]; simp
                rw [hw] at hcq
                have hcq' : w6.cell? ⟨q, j, none⟩ = some (.string ⟨#[]⟩) := hcq
                rw [hcn hw] at hcv
                generalize strB x.cur = s at *
                clear hcq hcn hcs hw hs hbl hb hx hy HKe hbw
                go_wp2
                go_roundw
                case rel => exact ⟨j + 1, by omega, by go_num, by rw [Hs.out], HE⟩
                case measure => simp [intOf]; omega
              | some p =>
                have Hs : Hid (cntK L3 (j + 1) = cntK L3 j + 1) := by show _ = _; rw [cntK, cntK, hs, Blk.dirty, hw]; simp
                have hne := strB_ne ((HOk3.out j y hy).wr p hw)
                rw [hw] at hcq
                have hcq' : w6.cell? ⟨q, j, none⟩ = some (.string (strB p)) := hcq
                have hcs' := hcs p hw
                by_cases hm : cntK L3 j < n2
                · obtain ⟨bb, bo, rfl, hcell⟩ := HKe.out w6 hbw hm
                  cases hkv : ks.getD (cntK L3 j) false with
                  | true =>
                    rw [hkv] at hcell hcs'
                    rw [if_pos rfl] at hcs'
                    rw [hcs'] at hcv
                    generalize strB p = s at *
                    clear hcq hcn hcs hcs' hw hs hbl hb hx hy HKe hbw hkv
                    go_wp2
                    go_roundw
                    case rel => exact ⟨j + 1, by omega, by go_num, by rw [Hs.out]; go_num, HE⟩
                    case measure => simp [intOf]; omega
                  | false =>
                    rw [hkv] at hcell hcs'
                    rw [if_neg (by simp)] at hcs'
                    rw [hcs'] at hcv
                    generalize strB p = s at *
                    generalize strB x.cur = s2 at *
                    clear hcq hcn hcs hcs' hw hs hbl hb hx hy HKe hbw hkv
                    go_wp2
                    go_roundw
                    case rel => exact ⟨j + 1, by omega, by go_num, by rw [Hs.out]; go_num, HE⟩
                    case measure => simp [intOf]; omega
                · have hkv : ks.getD (cntK L3 j) false = false := by rw [List.getD_eq_getElem?_getD, List.getElem?_eq_none (by rw [HKn.out]; omega)]; rfl
                  rw [hkv] at hcs'
                  rw [if_neg (by simp)] at hcs'
                  rw [hcs'] at hcv
                  generalize strB p = s at *
                  generalize strB x.cur = s2 at *
                  clear hcq hcn hcs hcs' hw hs hbl hb hx hy HKe hbw hkv
                  go_wp2
                  go_roundw
                  case rel => exact ⟨j + 1, by omega, by go_num, by rw [Hs.out]; go_num, HE⟩
                  case measure => simp [intOf]; omega
            · obtain rfl : j = n := by omega
              have HBw : Hid (Below w.heap.size w wr) := HB5.out.1.below
              obtain ⟨F, G, hFD, -, -, -, -, -, -⟩ := HB5.out.1
              have hDi := DDirty_any hFD
              rw [HCnt.out] at hDi
              have HDi := Lib.hid hDi
              clear hFD hDi HB5
              go_wp2_with fail
              refine HDi.out.mono ?_
              rintro e w5 ⟨rfl, hb5⟩
              have HB6 : Hid (Below w.heap.size w w5) := HBw.out.trans (hb5.mono HBw.out.size)
              clear hb5 HDi HBw
              go_wp2_with fail
              refine (Dknows_any w5).mono ?_
              rintro e w6 ⟨rfl, hb6⟩
              have HB7 : Hid (Below w.heap.size w w6) := HB6.out.trans (hb6.mono HB6.out.size)
              clear hb6 HB6
              go_wp2
              go_ret
              exact ⟨rfl, HB7.out⟩
end Go.Proofs.Ytkghppobefllkaa
