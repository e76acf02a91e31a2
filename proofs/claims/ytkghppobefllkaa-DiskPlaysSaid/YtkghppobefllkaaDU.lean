/-
  THE WALK of the reference's Crash.
-/
import Derived.Test.YtkghppobefllkaaDT
namespace Go.Proofs.Ytkghppobefllkaa
open Go.RowKit Dsk

theorem crashK_clean (keep : Nat → Bool) {L : List Blk} {k : Nat} {x : Blk} (hx : L[k]? = some x) (hd : x.wr = none) : crashK keep L (k + 1) = crashK keep L k ∧ cntK L (k + 1) = cntK L k := by
  have h1 : x.dirty = false := by rw [Blk.dirty, hd]; rfl
  refine ⟨crashTo_skip keep L hx h1, ?_⟩
  rw [cntK, cntK, cnt_snoc hx, h1]; simp
theorem crashK_dirty (keep : Nat → Bool) {L : List Blk} {k : Nat} {x : Blk} (hx : L[k]? = some x) {q : List UInt8} (hd : x.wr = some q) :
    crashK keep L (k + 1) = (crashK keep L k).set k ⟨if keep (cntK L k) then q else x.dur, none, x.past⟩ ∧ cntK L (k + 1) = cntK L k + 1 := by
  have h1 : x.dirty = true := by rw [Blk.dirty, hd]; rfl
  refine ⟨?_, ?_⟩
  · rw [crashK, crashTo_succ keep L hx, Blk.settle, Blk.cur, hd]; rfl
  · rw [cntK, cntK, cnt_snoc hx, h1]; simp

section
variable {w : World} {G : Nat → Prop} {M : Nat} {L : List Blk}
/-- What lies there for the steps at a block that has a written content. -/
theorem RefAt.lost (h : RefAt w G M L) {k : Nat} {x : Blk} (hx : L[k]? = some x) {q : List UInt8} (hq : x.wr = some q) :
    ∃ b cb, w.cell? ⟨M, 1, none⟩ = some (.slice (some ⟨b, 0, none⟩) L.length cb) ∧ w.cell? ⟨b, k, none⟩ = some (.string (strB q)) ∧ w.frozen? ⟨b, k, none⟩ = false ∧
      RAfter w G (w.setCell ⟨b, k, none⟩ (.string ⟨#[]⟩)) M (L.set k ⟨x.dur, none, x.past⟩) := by
  obtain ⟨a, b, c, ca, cb, cc, hR⟩ := h
  have hk := (List.getElem?_eq_some_iff.1 hx).1
  have hox := hR.ok k x hx
  have h1 := hR.atB hx
  rw [hq] at h1
  exact ⟨b, cb, hR.bLen, h1, hR.freeB hk, ⟨a, b, c, ca, cb, cc, hR.setB hx ⟨x.dur, none, x.past⟩ rfl rfl ⟨hox.dur, hox.past, fun c hc => by cases hc⟩⟩, hR.chgB hk _⟩
theorem RefAt.keptB (h : RefAt w G M L) {k : Nat} {x : Blk} (hx : L[k]? = some x) {q : List UInt8} (hq : x.wr = some q) :
    ∃ a b ca cb, w.cell? ⟨M, 0, none⟩ = some (.slice (some ⟨a, 0, none⟩) L.length ca) ∧ w.cell? ⟨M, 1, none⟩ = some (.slice (some ⟨b, 0, none⟩) L.length cb) ∧ w.cell? ⟨b, k, none⟩ = some (.string (strB q)) ∧
      (∃ u, w.cell? ⟨a, k, none⟩ = some u) ∧ w.frozen? ⟨a, k, none⟩ = false ∧
      (w.setCell ⟨a, k, none⟩ (.string (strB q))).cell? ⟨M, 1, none⟩ = some (.slice (some ⟨b, 0, none⟩) L.length cb) ∧ (w.setCell ⟨a, k, none⟩ (.string (strB q))).cell? ⟨b, k, none⟩ = some (.string (strB q)) ∧ (w.setCell ⟨a, k, none⟩ (.string (strB q))).frozen? ⟨b, k, none⟩ = false ∧
      RAfter w G ((w.drew.setCell ⟨a, k, none⟩ (.string (strB q))).setCell ⟨b, k, none⟩ (.string ⟨#[]⟩)) M (L.set k ⟨q, none, x.past⟩) := by
  obtain ⟨a, b, c, ca, cb, cc, hR⟩ := h
  have hk := (List.getElem?_eq_some_iff.1 hx).1
  have hox := hR.ok k x hx
  have h1 := hR.atB hx
  rw [hq] at h1
  have hd : RefW w.drew G M a b c ca cb cc L := hR.stay ((Chg.refl (fun _ _ => False) w).drew) fun _ _ _ x => x
  have h3 := hd.setA hx ⟨q, x.wr, x.past⟩ rfl rfl ⟨hox.wr q hq, hox.past, hox.wr⟩
  have hx3 : (L.set k ⟨q, x.wr, x.past⟩)[k]? = some (⟨q, x.wr, x.past⟩ : Blk) := List.getElem?_set_self hk
  have hk3 : k < (L.set k ⟨q, x.wr, x.past⟩).length := by simpa using hk
  have h4 := h3.setB hx3 ⟨q, none, x.past⟩ rfl rfl ⟨hox.wr q hq, hox.past, fun c hc => by cases hc⟩
  rw [List.set_set] at h4
  have h5 := h3.bLen
  rw [List.length_set] at h5
  have h6 := h3.atB hx3
  have h7 := h3.freeB hk3
  simp only [hq] at h6
  have hC : Chg (fun k _ => G k) w (w.drew.setCell ⟨a, k, none⟩ (.string (strB q))) := ((Chg.refl _ w).drew).then (hd.chgA hk _)
  exact ⟨a, b, ca, cb, hR.aLen, hR.bLen, h1, ⟨_, hR.atA hx⟩, hR.freeA hk, h5, h6, h7, ⟨a, b, c, ca, cb, cc, h4⟩, hC.then (h3.chgB hk3 _)⟩
end

set_option maxRecDepth 100000 in
set_option maxHeartbeats 2000000 in
theorem RDCrash_any {w : World} {G : Nat → Prop} {M : Nat} {L : List Blk} (h : RefAt w G M L) (all : Bool) (A : Option Addr) (nk cap : Nat) (bs : List Bool) (hnk : bs.length = nk) (hk : From w (.slice A nk cap) (bs.map Value.bool))
    (hkG : ∀ b o, A = some ⟨b, o, none⟩ → 0 < nk → ¬ G b) :
    Calls Try.prog 12 #[.pointer (some ⟨M, 0, none⟩), .slice A nk cap, .bool all] w fun e w' => e = .returned (.tuple #[]) ∧ RAfter w G w' M (crash (fun n => all || bs.getD n false) L) := by
  obtain ⟨keep, hkeep⟩ : ∃ keep, keep = fun n => all || bs.getD n false := ⟨_, rfl⟩
  obtain ⟨n, hn⟩ : ∃ n, n = L.length := ⟨_, rfl⟩
  have hf : n ≤ 512 := by
    obtain ⟨a, b, c, ca, cb, cc, hR⟩ := h
    rw [hn]; exact hR.few
  have HEnd : Hid (crashK keep L n = crash (fun n => all || bs.getD n false) L) := by show _ = _; rw [hn, hkeep]; rfl
  have HKp := Lib.hid hkeep
  have HL := Lib.hid hn
  have HN := Lib.hid hnk
  have HLen : Hid (∀ k, (crashK keep L k).length = n) := fun k => by rw [crashK, crashTo_length, hn]
  have HC0 : Hid (crashK keep L 0 = L) := crashTo_zero _ _
  have HAt : Hid (∀ k x, L[k]? = some x → (crashK keep L k)[k]? = some x) := fun k x hx => by rw [crashK, crashTo_at]; exact hx
  have HCle : Hid (∀ k, cntK L k ≤ 512) := fun k => by unfold cntK; have := cnt_take_le L k; omega
  have HKe : Hid (∀ (W : World) (m : Nat), Chg (fun k _ => G k) w W → m < nk → ∃ bb bo, A = some ⟨bb, bo, none⟩ ∧ W.cell? ⟨bb, bo + m, none⟩ = some (.bool (bs.getD m false))) := fun W m hX hm => by
    obtain ⟨A', cap', hA, hs⟩ := hk.parts
    injection hA with hA1 _ _
    subst hA1
    obtain ⟨bb, bo, rfl, hbl, hsee⟩ := hs (by rw [List.length_map, hnk]; omega)
    refine ⟨bb, bo, rfl, ?_⟩
    rw [hX.cell _ _ hbl (hkG bb bo rfl (by omega))]
    exact at_bool hsee m (by omega)
  have HT0 : Hid (RAfter w G w M (crashK keep L 0)) := by show RAfter _ _ _ _ _; rw [HC0.out]; exact h.after
  have hsl : ∃ b cb, w.cell? ⟨M, 1, none⟩ = some (.slice (some ⟨b, 0, none⟩) n cb) := by
    obtain ⟨a, b, c, ca, cb, cc, hR⟩ := h
    exact ⟨b, cb, by rw [hn]; exact hR.bLen⟩
  rw [← HEnd.out]
  clear h hk hkG hkeep hn hnk HEnd hsl
  go_enter Try.func12, Try.ntmps12
  go_wp2
  go_loopw [6, 7, 8] (fun m i _ wr => ∃ k : Nat, k ≤ n ∧ i = .int .i64 k ∧ m = .int .i64 (cntK L k) ∧ Hid (RAfter w G wr M (crashK keep L k))) (fun _ i _ _ => n - (intOf i).toNat)
  case atStart => exact ⟨0, by omega, rfl, rfl, HT0⟩
  case round =>
    obtain ⟨k, hk, rfl, rfl, HT⟩ := hrel
    clear HT0
    have c0 : ∃ b cb, wr.cell? ⟨M, 1, none⟩ = some (.slice (some ⟨b, 0, none⟩) n cb) := by
      obtain ⟨⟨a, b, c, ca, cb, cc, hR⟩, _⟩ := HT.out
      exact ⟨b, cb, by rw [← HLen.out k]; exact hR.bLen⟩
    by_cases hlt : k < n
    · obtain ⟨x, hx⟩ : ∃ x, L[k]? = some x := ⟨_, List.getElem?_eq_getElem (by rw [← HL.out]; exact hlt)⟩
      have hx' := HAt.out k x hx
      cases hw : x.wr with
      | none =>
        have Hs := Lib.hid (crashK_clean keep hx hw)
        have c2 : ∃ b cb, wr.cell? ⟨M, 1, none⟩ = some (.slice (some ⟨b, 0, none⟩) n cb) ∧ wr.cell? ⟨b, k, none⟩ = some (.string ⟨#[]⟩) := by
          obtain ⟨⟨a, b, c, ca, cb, cc, hR⟩, _⟩ := HT.out
          have := hR.atB hx'
          rw [hw] at this
          exact ⟨b, cb, by rw [← HLen.out k]; exact hR.bLen, this⟩
        obtain ⟨b, cb, c3, c4⟩ := c2
        clear c0 hw hx hx'
        go_wp2
        go_roundw
        case rel => exact ⟨k + 1, by omega, by go_num, by rw [Hs.out.2], by show RAfter _ _ _ _ _; rw [Hs.out.1]; exact HT.out⟩
        case measure => simp [intOf]; omega
      | some q =>
        clear c0
        have Hs := Lib.hid (crashK_dirty keep hx hw)
        have hle := HCle.out k
        have hne : (strB q).toList.isEmpty = false := strB_ne ((RefW.len_ok HT.out.1 hx').wr q hw)
        have Hkm := Lib.hid (congrFun HKp.out (cntK L k))
        have hkn : (k : Int) < (n : Int) := by omega
        by_cases hkp : keep (cntK L k) = true
        · obtain ⟨a, b, ca, cb, d1, d2, d3, ⟨u, d4⟩, d5, d6, d7, d8, d9⟩ := HT.out.1.keptB hx' hw
          rw [HLen.out k] at d1 d2 d6
          have HE : Hid (RAfter w G ((wr.drew.setCell ⟨a, k, none⟩ (.string (strB q))).setCell ⟨b, k, none⟩ (.string ⟨#[]⟩)) M (crashK keep L (k + 1))) := by
            show RAfter _ _ _ _ _
            rw [Hs.out.1, hkp, if_pos rfl]
            exact d9.trans HT.out.2
          have HS2 : Hid (cntK L (k + 1) = cntK L k + 1) := Hs.out.2
          have Hall : Hid (all = true ∨ (all = false ∧ cntK L k < nk ∧ bs.getD (cntK L k) false = true)) := by
            have := Hkm.out
            rw [hkp] at this
            cases hall : all with
            | true => exact .inl rfl
            | false =>
              rw [hall, Bool.false_or] at this
              refine .inr ⟨rfl, ?_, this.symm⟩
              rcases Nat.lt_or_ge (cntK L k) bs.length with h1 | h1
              · have := HN.out; omega
              · rw [List.getD_eq_getElem?_getD, List.getElem?_eq_none h1] at this; cases this
          generalize strB q = s at *
          have HX := Lib.hid HT.out.2
          have HKe2 := HKe
          clear d9 hw hx hx' hkp Hs Hkm HKp HAt HT HKe
          rcases Hall.out with rfl | ⟨rfl, hm, hb⟩
          · clear Hall
            by_cases hm : cntK L k < nk
            · skip
              go_wp2
              refine wp_region_still_tail 13 (by kernel_rfl) (by kernel_rfl) ?_
              simp only [List.take_succ_cons, List.take_zero, List.drop_succ_cons, List.drop_zero]
              repeat still_step
              refine wpStill_nil ?_
              change wpList _ _ _ _ _ wr.drew
              go_wp2
              go_roundw
              case rel => exact ⟨k + 1, by omega, by go_num, by rw [HS2.out]; go_num, HE⟩
              case measure => simp [intOf]; omega
            · skip
              go_wp2
              refine wp_region_still_tail 13 (by kernel_rfl) (by kernel_rfl) ?_
              simp only [List.take_succ_cons, List.take_zero, List.drop_succ_cons, List.drop_zero]
              repeat still_step
              refine wpStill_nil ?_
              change wpList _ _ _ _ _ wr.drew
              go_wp2
              go_roundw
              case rel => exact ⟨k + 1, by omega, by go_num, by rw [HS2.out]; go_num, HE⟩
              case measure => simp [intOf]; omega
          · clear Hall
            obtain ⟨bb, bo, rfl, hcell⟩ := HKe2.out wr (cntK L k) HX.out hm
            rw [hb] at hcell
            clear hb
            go_wp2
            refine wp_region_still_tail 13 (by kernel_rfl) (by kernel_rfl) ?_
            simp only [List.take_succ_cons, List.take_zero, List.drop_succ_cons, List.drop_zero]
            repeat still_step
            refine wpStill_nil ?_
            change wpList _ _ _ _ _ wr.drew
            go_wp2
            go_roundw
            case rel => exact ⟨k + 1, by omega, by go_num, by rw [HS2.out]; go_num, HE⟩
            case measure => simp [intOf]; omega
        · obtain ⟨b, cb, d1, d2, d3, d4⟩ := HT.out.1.lost hx' hw
          rw [HLen.out k] at d1
          have HE : Hid (RAfter w G (wr.setCell ⟨b, k, none⟩ (.string ⟨#[]⟩)) M (crashK keep L (k + 1))) := by
            show RAfter _ _ _ _ _
            rw [Hs.out.1, if_neg hkp]
            exact d4.trans HT.out.2
          have HS2 : Hid (cntK L (k + 1) = cntK L k + 1) := Hs.out.2
          have Hall : Hid (all = false ∧ bs.getD (cntK L k) false = false) := by
            have := Hkm.out
            rw [Bool.not_eq_true] at hkp
            rw [hkp] at this
            have := this.symm
            rw [Bool.or_eq_false_iff] at this
            exact this
          generalize strB q = s at *
          have HX := Lib.hid HT.out.2
          have HKe2 := HKe
          clear d4 hw hx hx' hkp Hs Hkm HKp HAt HT HKe
          obtain ⟨rfl, hb⟩ := Hall.out
          clear Hall
          by_cases hm : cntK L k < nk
          · obtain ⟨bb, bo, rfl, hcell⟩ := HKe2.out wr (cntK L k) HX.out hm
            rw [hb] at hcell
            clear hb
            go_wp2
            go_roundw
            case rel => exact ⟨k + 1, by omega, by go_num, by rw [HS2.out]; go_num, HE⟩
            case measure => simp [intOf]; omega
          · clear hb
            go_wp2
            go_roundw
            case rel => exact ⟨k + 1, by omega, by go_num, by rw [HS2.out]; go_num, HE⟩
            case measure => simp [intOf]; omega
    · obtain rfl : k = n := by omega
      obtain ⟨b, cb, c1⟩ := c0
      go_wp2
      go_end0
      exact ⟨rfl, HT.out⟩
end Go.Proofs.Ytkghppobefllkaa
