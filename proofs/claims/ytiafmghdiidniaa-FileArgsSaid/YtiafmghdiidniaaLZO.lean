/-
  3 texts in one (LZM, LZN, LZO): each says at its own head what it holds.
-/
import Derived.Test.YtiafmghdiidniaaLZL

section
/-
  THE WALK of the landed draft's save.
-/
namespace Go.Proofs.Ytiafmghdiidniaa
set_option maxRecDepth 100000
set_option maxHeartbeats 1000000
open Go.RowKit Cdc Inn Fil

namespace Fil
/-- The store behind so many blocks written. -/
def Dr.savedN (bl : List (List UInt8)) (d : Dr) (j : Nat) : List (List UInt8) := (List.range bl.length).map fun i => if i < j then (d.ch i).getD (blk bl i) else blk bl i
theorem savedN_length (bl : List (List UInt8)) (d : Dr) (j : Nat) : (d.savedN bl j).length = bl.length := by simp [Dr.savedN]
theorem savedN_zero (bl : List (List UInt8)) (d : Dr) : d.savedN bl 0 = bl := by
  unfold Dr.savedN
  apply List.ext_getElem
  · simp
  · intro i h1 h2
    simp [blk, List.getD_eq_getElem?_getD, List.getElem?_eq_getElem h2]
theorem savedN_all (bl : List (List UInt8)) (d : Dr) (j : Nat) (h : bl.length ≤ j) : d.savedN bl j = d.saved bl := by
  unfold Dr.savedN Dr.saved
  apply List.map_congr_left
  intro i hi
  rw [List.mem_range] at hi
  rw [if_pos (by omega)]
theorem savedN_none (bl : List (List UInt8)) (d : Dr) (j : Nat) (h : d.ch j = none) : d.savedN bl (j + 1) = d.savedN bl j := by
  unfold Dr.savedN
  apply List.map_congr_left
  intro i _
  by_cases e : i = j
  · subst e; rw [h]; simp
  · by_cases h1 : i < j
    · rw [if_pos h1, if_pos (by omega)]
    · rw [if_neg h1, if_neg (by omega)]
theorem savedN_some (bl : List (List UInt8)) (d : Dr) (j : Nat) {b : List UInt8} (h : d.ch j = some b) : d.savedN bl (j + 1) = (d.savedN bl j).set j b := by
  apply List.ext_getElem
  · simp [Dr.savedN]
  · intro i h1 h2
    rw [List.getElem_set]
    simp only [Dr.savedN, List.getElem_map, List.getElem_range]
    by_cases e : j = i
    · subst e; rw [if_pos rfl, if_pos (by omega), h]; rfl
    · rw [if_neg e]
      by_cases h3 : i < j
      · rw [if_pos h3, if_pos (by omega)]
      · rw [if_neg h3, if_neg (by omega)]
/-- What a save tells. -/
def Dr.saveE (bl : List (List UInt8)) (d : Dr) : Int := if (List.range 128).any (fun i => decide (bl.length ≤ i) && (d.ch i).isSome) then 1 else 0
theorem saveE_iff (bl : List (List UInt8)) (d : Dr) : (List.range 128).any (fun i => decide (bl.length ≤ i) && (d.ch i).isSome) = true ↔ ∃ i, i < 128 ∧ bl.length ≤ i ∧ (d.ch i).isSome = true := by
  rw [List.any_eq_true]
  simp only [List.mem_range, Bool.and_eq_true, decide_eq_true_eq]
end Fil
theorem infoA128 (rs : List Value) (h : rs.length = 128) : (Try.prog.info? 90).map (·.size) = some rs.length := by rw [h]; kernel_rfl
theorem part_bytes (cs : Array Value) (j : Nat) (v : Value) (h : cs[j]? = some v) (w : World) : (part 41 cs j).run Try.prog w = .ok v w := by
  have ha0 : (isAgg 41).run Try.prog w = .ok false w := by kernel_rfl
  simp [part, ha0, h]
theorem run_index_128 (cs : Array Value) (j : Nat) (hj : j < 128) (v : Value) (h : cs[j]? = some v) (w : World) :
    (Instr.index 90 (.agg cs) (.int .i64 (j : Int))).run Try.prog w = .ok v w := by
  have hp := part_bytes cs j _ h w
  have hb : (j : Int) < 128 := by omega
  simp only [Instr.index, asIntOf, run_underlying Try.underlying90, Sem.run_bind, Sem.run_pure, Result.andThen_ok]
  simp [hb, hp]
section
variable {w w' : World} {B D m : Nat} {bl : List (List UInt8)} {g : Geo} {kd : Int} {d : Dr} {nv : Value} {vs : Nat → Value} {gs : Nat → Nat}
theorem DrL.keep (h : DrL w B D m g kd d nv vs gs) (hk : ∀ k, B ≤ k → k < w.heap.size → w'.heap[k]? = w.heap[k]?) : DrL w' B D m g kd d nv vs gs := by
  have r := h.rw_
  refine ⟨h.hd.block (hk D r.lo h.hd.lt), r.lo, r.nil, fun i hi b hb => ?_, r.inj, r.own.block fun q hq => hk q (r.own.lt hq).1 (r.own.lt hq).2, r.nvD, r.nvF⟩
  obtain ⟨h1, h2, h3, h4⟩ := r.row i hi b hb
  exact ⟨h1.block (hk _ h2 h1.lt), h2, h3, h4⟩
theorem FiDSave_any {F : Nat → Prop} {R cap : Nat} {vm : Nat → Value} {gm : Nat → Nat} (h : DrL w B D m g kd d nv vs gs) (hm : MemL w F m bl R cap vm gm) (hF : ∀ k, F k → k < B) :
    Calls Try.prog 47 #[.pointer (some ⟨D, 0, none⟩)] w fun e w' => e = .returned (.int .i64 (d.saveE bl)) ∧ MemL w' F m (d.saved bl) R cap vm gm ∧ Chg (fun k _ => F k) w w' := by
  obtain ⟨rs, HRs⟩ : ∃ rs, Hid (rs = (List.range 128).map vs) := ⟨_, rfl⟩
  have HRl : Hid (rs.length = 128) := by show _ = _; rw [HRs.out]; simp
  have HRg : Hid (w.rangeAt D 6 rs) := by
    intro j v hv
    rw [HRs.out, List.getElem?_map] at hv
    rcases hj : (List.range 128)[j]? with _ | x
    · rw [hj] at hv; cases hv
    · rw [hj] at hv
      have hjl := (List.getElem?_eq_some_iff.1 hj).1
      rw [List.length_range] at hjl
      rw [List.getElem?_range hjl] at hj
      injection hj with hj
      injection hv with hv
      rw [← hv, ← hj]
      exact h.hd.ch j hjl
  have HIx : Hid (∀ j : Nat, j < 128 → ∀ W, (Instr.index 90 (.agg rs.toArray) (.int .i64 (j : Int))).run Try.prog W = .ok (vs j) W) := fun j hj W => by
    refine run_index_128 _ j hj _ ?_ W
    rw [HRs.out]
    simp [hj]
  have HD : Hid (∀ W, Chg (fun k _ => F k) w W → DrL W B D m g kd d nv vs gs) := fun W hW => h.keep fun k hk hl => hW.block k hl fun _ hf => by have := hF k hf; omega
  have HM := Lib.hid hm
  have HI := Lib.hid (infoA128 rs HRl.out)
  have hfew := hm.few
  obtain ⟨n, HN⟩ : ∃ n, Hid (n = bl.length) := ⟨_, rfl⟩
  rw [← HN.out] at hfew
  clear h hm
  go_enter Try.func47, Try.ntmps47
  go_wp2_with (refine wpList_load_mid rfl 90 (.tmp 8) rfl D 6 rfl rs _ HRg.out Try.underlying90 rfl HI.out ?_)
  go_loopw [10] (fun i wr => ∃ j : Nat, j ≤ 128 ∧ i = .int .i64 j ∧ Hid (MemL wr F m (d.savedN bl j) R cap vm gm) ∧ Hid (Chg (fun k _ => F k) w wr) ∧ Hid (∀ i, i < j → (d.ch i).isSome = true → i < n)) (fun i _ => 128 - (intOf i).toNat)
  case atStart => exact ⟨0, by omega, rfl, by rw [savedN_zero]; exact HM, Chg.refl _ _, fun i hi => by omega⟩
  case round =>
    rename World => wr
    clear HM HRg
    obtain ⟨j, hj, rfl, HMr, HCr, HFi⟩ := hrel
    by_cases hlt : j < 128
    · have HLr := Lib.hid (HD.out wr HCr.out)
      have hix := HIx.out j hlt
      have c0 := HLr.out.hd.c0
      rcases hc : d.ch j with _ | b
      · have hv : Hid (vs j = .slice none 0 0) := HLr.out.rw_.nil j hlt hc
        have HM2 : Hid (MemL wr F m (d.savedN bl (j + 1)) R cap vm gm) := by rw [savedN_none _ _ _ hc]; exact HMr
        have HF2 : Hid (∀ i, i < j + 1 → (d.ch i).isSome = true → i < n) := fun i hi hs => by
          by_cases e : i = j
          · rw [e, hc] at hs; cases hs
          · exact HFi.out i (by omega) hs
        rw [hv.out] at hix
        have he : ∀ W : World, (binOp .eql 41 (.slice none 0 0) (.slice none 0 0)).run Try.prog W = .ok (.bool true) W := fun _ => rfl
        clear hc hv HLr HMr HFi c0
        go_wp2_with fail
        go_roundw
        case rel => exact ⟨j + 1, by omega, by go_num, HM2, HCr, HF2⟩
        case measure => simp [intOf]; omega
      · obtain ⟨hbk, -, -, -⟩ := HLr.out.rw_.row j hlt b hc
        obtain ⟨cv, hv, -⟩ := hbk.val
        have hv := Lib.hid hv
        rw [hv.out] at hix
        have he : ∀ W : World, (binOp .eql 41 (.slice (some ⟨gs j, 0, none⟩) 64 cv) (.slice none 0 0)).run Try.prog W = .ok (.bool false) W := fun _ => rfl
        by_cases hjn : j < n
        · have HW := Lib.hid (FiMWrite_in HMr.out j (by rw [savedN_length, ← HN.out]; exact hjn) (.slice (some ⟨gs j, 0, none⟩) 64 cv) b hbk.len (by rw [← hv.out]; exact hbk.arg))
          have HF2 : Hid (∀ i, i < j + 1 → (d.ch i).isSome = true → i < n) := fun i hi hs => by
            by_cases e : i = j
            · rw [e]; exact hjn
            · exact HFi.out i (by omega) hs
          have HEq := Lib.hid (savedN_some bl d j hc)
          have HG : Hid (F (gm j)) := (HMr.out.set _).2 (.inr (.inr ⟨j, by rw [savedN_length, ← HN.out]; exact hjn, rfl⟩))
          clear hc hv HLr HMr HFi hbk
          generalize gs j = gq at *
          go_wp2_with fail
          refine HW.out.mono ?_
          rintro e w2 ⟨rfl, hm2, hc2⟩
          have HM2 : Hid (MemL w2 F m (d.savedN bl (j + 1)) R cap vm gm) := by rw [HEq.out]; exact hm2
          have HC2 : Hid (Chg (fun k _ => F k) w w2) := HCr.out.trans hc2 fun k o _ e => by rw [e]; exact HG.out
          clear hm2 hc2 HW HCr HEq HG
          go_wp2_with fail
          go_roundw
          case rel => exact ⟨j + 1, by omega, by go_num, HM2, HC2, HF2⟩
          case measure => simp [intOf]; omega
        · have HW := Lib.hid (FiMWrite_out HMr.out (j : Int) (⟨by omega, by omega⟩ : In64 (j : Int)) (by rw [savedN_length, ← HN.out]; omega) (.slice (some ⟨gs j, 0, none⟩) 64 cv))
          have HE : Hid (d.saveE bl = 1) := by
            show _ = _
            rw [Dr.saveE, if_pos ((saveE_iff _ _).2 ⟨j, hlt, by rw [← HN.out]; omega, by rw [hc]; rfl⟩)]
          have HM2 : Hid (MemL wr F m (d.saved bl) R cap vm gm) := by rw [← savedN_all bl d j (by rw [← HN.out]; omega)]; exact HMr
          clear hc hv HLr HMr HFi hbk
          generalize gs j = gq at *
          go_wp2_with fail
          refine HW.out.mono ?_
          rintro e w2 ⟨rfl, rfl⟩
          clear HW
          go_wp2_with fail
          go_ret
          rw [HE.out]
          exact ⟨rfl, HM2.out, HCr.out⟩
    · obtain rfl : j = 128 := by omega
      have HE : Hid (d.saveE bl = 0) := by
        show _ = _
        rw [Dr.saveE, if_neg]
        intro hx
        obtain ⟨i, h1, h2, h3⟩ := (saveE_iff _ _).1 hx
        have := HFi.out i h1 h3
        rw [HN.out] at this
        omega
      have HM2 : Hid (MemL wr F m (d.saved bl) R cap vm gm) := by rw [← savedN_all bl d 128 (by rw [← HN.out]; omega)]; exact HMr
      clear HMr HFi
      go_wp2_with fail
      go_ret
      rw [HE.out]
      exact ⟨rfl, HM2.out, HCr.out⟩
end
end Go.Proofs.Ytiafmghdiidniaa
end

section
/-
  THE WALK of the landed draft's inode.
-/
namespace Go.Proofs.Ytiafmghdiidniaa
set_option maxRecDepth 100000
set_option maxHeartbeats 1000000
open Go.RowKit Cdc Inn Fil

def Z7 : List Value := [.int .i64 0, .int .i64 0, .int .i64 0, .int .i64 0, .int .i64 0, .int .i64 0, .int .i64 0]
theorem ino_splice (k z : Int) (l : List Nat) : splice [.int .i64 k, .int .i64 z, .int .i64 0, .int .i64 0, .int .i64 0, .int .i64 0, .int .i64 0] 2 (VNs (l.take 4)) = [VI k, VI z, VI (l.getD 0 0 : Nat), VI (l.getD 1 0 : Nat), VI (l.getD 2 0 : Nat), VI (l.getD 3 0 : Nat), VI 0] := by
  match l with
  | [] => rfl
  | [a] => rfl
  | [a, b] => rfl
  | [a, b, c] => rfl
  | a :: b :: c :: e :: r => rfl
section
variable {w w' : World} {B D m : Nat} {bl : List (List UInt8)} {g : Geo} {kd : Int} {d : Dr} {nv : Value} {vs : Nat → Value} {gs : Nat → Nat}
theorem FiDInode_any (h : DrL w B D m g kd d nv vs gs) (hd : d.Ok) :
    Calls Try.prog 48 #[.pointer (some ⟨D, 0, none⟩)] w fun e w' => e = .returned (.agg (inoC (d.ino kd))) ∧ Below w.heap.size w w' := by
  have c3 := h.hd.c3
  have c4 := h.hd.c4
  have hD := h.hd.lt
  obtain ⟨z, HZ⟩ : ∃ z, Hid (z = d.z) := ⟨_, rfl⟩
  rw [← HZ.out] at c4
  have hD1 : ¬ D = w.heap.size := by omega
  have hD2 : ¬ D = w.heap.size + 1 := by omega
  have h' := Lib.hid h
  clear h
  go_enter Try.func48, Try.ntmps48
  go_wp2_with fail
  go_region
  obtain ⟨q, c, hq, hqc⟩ := h'.out.rw_.nvF
  have hlen := hd.len
  obtain ⟨w0, hw0⟩ : ∃ w0, w0 = ((w.alloc (.cells #[.int .i64 0, .int .i64 0, .int .i64 0, .int .i64 0, .int .i64 0, .int .i64 0, .int .i64 0] 40)).alloc (.cells #[.int .i64 kd, .int .i64 z, .int .i64 0, .int .i64 0, .int .i64 0, .int .i64 0, .int .i64 0] 40)).drew := ⟨_, rfl⟩
  have HR0 : Hid (Row w0 w.heap.size 40 Z7) := by rw [hw0]; exact ((Row.new w 40 Z7).alloc _).drew
  have HR1 : Hid (Row w0 (w.heap.size + 1) 40 [.int .i64 kd, .int .i64 z, .int .i64 0, .int .i64 0, .int .i64 0, .int .i64 0, .int .i64 0]) := by rw [hw0]; exact (Row.newAt 40 [.int .i64 kd, .int .i64 z, .int .i64 0, .int .i64 0, .int .i64 0, .int .i64 0, .int .i64 0] (by simp)).drew
  have HBL : Hid (Below w.heap.size w w0) := by rw [hw0]; exact (((Below.refl _ _).alloc (Nat.le_refl _) _).alloc (by simp) _).drew
  rw [← hw0]
  have HL0 := Lib.hid (h'.out.below HBL.out)
  obtain ⟨n, hn⟩ : ∃ n, n = d.nums.length := ⟨_, rfl⟩
  have Hn := Lib.hid hn
  have c5 := HL0.out.hd.c5
  rw [hq, ← hn] at c5
  rw [← hn] at hlen hqc
  obtain ⟨cs, hcs⟩ : ∃ cs, cs = VNs (d.nums.take 4) := ⟨_, rfl⟩
  have Hcs := Lib.hid hcs
  have K1 : Hid (cs.length = Nat.min n 4) := by show _ = _; rw [hcs, VNs_length, List.length_take, ← hn]; exact Nat.min_comm _ _
  have K3 : Hid (2 + cs.length ≤ ([.int .i64 kd, .int .i64 z, .int .i64 0, .int .i64 0, .int .i64 0, .int .i64 0, .int .i64 0] : List Value).length) := by show _ ≤ 7; rw [K1.out]; have : Nat.min n 4 ≤ 4 := Nat.min_le_right _ _; omega
  have K4 : Hid (∀ v ∈ cs, v.oneCell' = true) := by rw [hcs]; exact VNs_one _
  have K2 : Hid (0 < cs.length → ∃ ad, some (⟨q, 0, none⟩ : Addr) = some ad ∧ ∀ (j : Nat) v, cs[j]? = some v → w0.drew.cell? (ad.add j) = some v) := by
    intro _
    refine ⟨_, rfl, fun j v hv => ?_⟩
    rw [Hcs.out, VNs, List.map_take, List.map_take, List.getElem?_take] at hv
    split at hv
    · exact World.ownsRow.cells HL0.out.rw_.own (g := q) (by rw [hq]; rfl) j v hv
    · cases hv
  have hn37 : (n : Int) ≤ 37 := by omega
  clear hw0 hd hcs hn c3 c4
  go_wp2_with fail
  go_region_law (refine step_copy_splice rfl (.tmp 14) (.tmp 18) 77 77 rfl 3 Try.underlying77 elemInt _ _ 4 4 n c rfl rfl (w.heap.size + 1) 2 [.int .i64 kd, .int .i64 z, .int .i64 0, .int .i64 0, .int .i64 0, .int .i64 0, .int .i64 0] 40 HR1.out cs K1.out (fun h => ⟨rfl, K2.out h⟩) K3.out K4.out (w.heap.size + 1) w0 ⟨rfl, rfl, rfl, Nat.le_refl _, fun _ _ => rfl⟩ (Nat.le_refl _) ?_; intro w3 Hg3 hb3)
  all_goals
    have HA := HR0.out.below hb3 (by omega)
    have hG := Hg3.out
    rw [Hcs.out, ino_splice] at hG
    have HC3 := Lib.hid (HBL.out.trans (hb3.mono (by omega)))
    have HL3 := h'.out.below HC3.out
    have c53 := HL3.hd.c5
    rw [hq, ← Hn.out] at c53
    have HG := Lib.hid (show Row w3 (w.heap.size + 1) 40 [VI kd, VI z, VI (d.nums.getD 0 0 : Nat), VI (d.nums.getD 1 0 : Nat), VI (d.nums.getD 2 0 : Nat), VI (d.nums.getD 3 0 : Nat), VI 0] from hG)
    have HA3 := Lib.hid HA
    have Hone : Hid ((((d.ino kd).l.map VI).toArray).all (·.oneCell') = true) := oneIs _
    have hz9 : (d.ino kd).l = [kd, d.z, (d.nums.getD 0 0 : Nat), (d.nums.getD 1 0 : Nat), (d.nums.getD 2 0 : Nat), (d.nums.getD 3 0 : Nat), (d.nums.getD 4 0 : Nat)] := rfl
    rw [← HZ.out] at hz9
    have HZ9 := Lib.hid hz9
    by_cases hn4 : n ≤ 4
    · have h4 : d.nums.getD 4 0 = 0 := by rw [List.getD_eq_getElem?_getD, List.getElem?_eq_none (by rw [← Hn.out]; exact hn4)]; rfl
      have HF : Hid (Row w3 (w.heap.size + 1) 40 ((d.ino kd).l.map VI)) := by
        show Row _ _ _ _
        rw [HZ9.out, h4]
        exact HG.out
      obtain ⟨rs, hrs⟩ : ∃ rs, rs = ((d.ino kd).l.map VI).toArray := ⟨_, rfl⟩
      have Hrs := Lib.hid hrs
      have Hsz : Hid (rs.size = 7) := by show _ = _; rw [hrs]; rfl
      have HFr : Hid (w3.heap[w.heap.size + 1]? = some (.cells rs 40 (0, 0))) := by rw [hrs]; exact HF.out
      rw [← hrs] at Hone
      have hn4i : (n : Int) ≤ 4 := by omega
      have HF1 := HA3
      have HC4 := HC3
      clear hb3 Hg3 HA HC3 HR0 HR1 HBL K1 K2 K3 K4 hrs HG HF hG HL3 h4 hz9 HA3 HL0
      go_wp2_with (first | (refine wpList_load_row rfl 40 (.tmp 3) rfl (w.heap.size + 1) rfl 40 rs (0, 0) _ HFr.out Try.underlying40 rfl (by rw [Hsz.out]; kernel_rfl) ?_) | (refine wpList_store_row rfl 40 (.tmp 2) (.tmp 33) rfl w.heap.size rs rfl rfl 40 _ HF1.out (by rw [Hsz.out]; kernel_rfl) (by rw [Hsz.out]; rfl) Hone.out ?_))
      have hlast : ((w3).setRow w.heap.size rs).heap[w.heap.size]? = some (.cells rs 40 (0, 0)) := by
        have := HF1.out.whole ((d.ino kd).l.map VI)
        rw [Hrs.out]; exact this
      refine bodyPost_ret (v := .agg rs) (results_cell_row rfl _ _ w.heap.size 40 rs (0, 0) _ rfl hlast Try.underlying40 rfl (by rw [Hsz.out]; kernel_rfl)) rfl ?_
      exact ⟨by rw [Hrs.out]; rfl, below_setRow' HC4.out (Nat.le_refl _) _⟩
    · have hn4' : 4 < n := by omega
      have hn4i : ¬ (n : Int) ≤ 4 := by omega
      have hn4j : (n : Int) > 4 := by omega
      have c4q : w3.cell? ⟨q, 4, none⟩ = some (.int .i64 ((d.nums.getD 4 0 : Nat) : Int)) := HL3.num_at hq 4 (by rw [← Hn.out]; exact hn4')
      have c6 := HG.out.cell 6
      have f6 := HG.out.free 6
      have HF : Hid (Row (w3.setCell ⟨w.heap.size + 1, 6, none⟩ (.int .i64 ((d.nums.getD 4 0 : Nat) : Int))) (w.heap.size + 1) 40 ((d.ino kd).l.map VI)) := by
        show Row _ _ _ _
        rw [HZ9.out]
        exact HG.out.set 6 _
      have HF1 : Hid (Row (w3.setCell ⟨w.heap.size + 1, 6, none⟩ (.int .i64 ((d.nums.getD 4 0 : Nat) : Int))) w.heap.size 40 Z7) := HA3.out.apart (by simp) _
      have HC4 : Hid (Below w.heap.size w (w3.setCell ⟨w.heap.size + 1, 6, none⟩ (.int .i64 ((d.nums.getD 4 0 : Nat) : Int)))) := HC3.out.setCell (by simp) _
      obtain ⟨rs, hrs⟩ : ∃ rs, rs = ((d.ino kd).l.map VI).toArray := ⟨_, rfl⟩
      have Hrs := Lib.hid hrs
      have Hsz : Hid (rs.size = 7) := by show _ = _; rw [hrs]; rfl
      have HFr : Hid ((w3.setCell ⟨w.heap.size + 1, 6, none⟩ (.int .i64 ((d.nums.getD 4 0 : Nat) : Int))).heap[w.heap.size + 1]? = some (.cells rs 40 (0, 0))) := by rw [hrs]; exact HF.out
      rw [← hrs] at Hone
      clear hb3 Hg3 HA HC3 HR0 HR1 HBL K1 K2 K3 K4 hrs HG HF hG HL3 hz9 HA3 HL0
      go_wp2_with (first | (refine wpList_load_row rfl 40 (.tmp 3) rfl (w.heap.size + 1) rfl 40 rs (0, 0) _ HFr.out Try.underlying40 rfl (by rw [Hsz.out]; kernel_rfl) ?_) | (refine wpList_store_row rfl 40 (.tmp 2) (.tmp 33) rfl w.heap.size rs rfl rfl 40 _ HF1.out (by rw [Hsz.out]; kernel_rfl) (by rw [Hsz.out]; rfl) Hone.out ?_))
      have hlast : (((w3.setCell ⟨w.heap.size + 1, 6, none⟩ (.int .i64 ((d.nums.getD 4 0 : Nat) : Int)))).setRow w.heap.size rs).heap[w.heap.size]? = some (.cells rs 40 (0, 0)) := by
        have := HF1.out.whole ((d.ino kd).l.map VI)
        rw [Hrs.out]; exact this
      refine bodyPost_ret (v := .agg rs) (results_cell_row rfl _ _ w.heap.size 40 rs (0, 0) _ rfl hlast Try.underlying40 rfl (by rw [Hsz.out]; kernel_rfl)) rfl ?_
      exact ⟨by rw [Hrs.out]; rfl, below_setRow' HC4.out (Nat.le_refl _) _⟩
end
end Go.Proofs.Ytiafmghdiidniaa
end

section
/-
  THE WALK of the landed file's numbers.
-/
namespace Go.Proofs.Ytiafmghdiidniaa
set_option maxRecDepth 100000
set_option maxHeartbeats 1000000
open Go.RowKit Cdc Inn Fil

namespace Fil
/-- May it be a number in an indirect block? -/
def numOk (n : Nat) : Bool := decide (1 ≤ n) && decide (n ≤ 127)
/-- What the numbers' reading tells. -/
def numsE (x : Ino) (bl : List (List UInt8)) : Int := if 4 < data x.b then (if x.d.toNat < bl.length then (if (further x bl).all numOk then 0 else 10) else 1) else 0
/-- The numbers that an inode itself names. -/
def five (x : Ino) : List Nat := [x.b0.toNat, x.b1.toNat, x.b2.toNat, x.b3.toNat, x.d.toNat]
theorem allOf_few {x : Ino} {bl : List (List UInt8)} (h : ¬ 4 < data x.b) : allOf x bl = (five x).take (need x.b) := by
  unfold allOf further direct need five
  rw [if_neg h, if_neg h, if_neg h, List.append_nil, List.append_nil]
  have : data x.b ≤ 4 := by omega
  rw [show [x.b0.toNat, x.b1.toNat, x.b2.toNat, x.b3.toNat, x.d.toNat] = [x.b0.toNat, x.b1.toNat, x.b2.toNat, x.b3.toNat] ++ [x.d.toNat] from rfl, List.take_append_of_le_length (by simpa using this)]
  rfl
theorem allOf_many {x : Ino} {bl : List (List UInt8)} (h : 4 < data x.b) : allOf x bl = five x ++ further x bl := by
  unfold allOf direct five
  rw [if_pos h, List.take_of_length_le (by simp; omega)]
  rfl
end Fil
section
variable {w : World} {F : Nat → Prop} {m R cap : Nat} {bl : List (List UInt8)} {vs : Nat → Value} {gs : Nat → Nat}
/-- What numbers hands back. -/
def NumsR (w : World) (x : Ino) (bl : List (List UInt8)) (e : Ending) (w' : World) : Prop :=
  ∃ v, e = .returned (.tuple #[v, .int .i64 (numsE x bl)]) ∧ (numsE x bl = 0 → Hid (Own w' w.heap.size 3 v (VNs (allOf x bl)) ∧ ∃ q c, v = .slice (some ⟨q, 0, none⟩) (allOf x bl).length c ∧ (allOf x bl).length ≤ c)) ∧ Below w.heap.size w w'
theorem five_cells (k b b0 b1 b2 b3 d : Int) (h0 : 0 ≤ b0) (h1 : 0 ≤ b1) (h2 : 0 ≤ b2) (h3 : 0 ≤ b3) (h4 : 0 ≤ d) : VNs (five ⟨k, b, b0, b1, b2, b3, d⟩) = [VI b0, VI b1, VI b2, VI b3, VI d] := by
  simp only [VNs, five, List.map_cons, List.map_nil]
  rw [Int.toNat_of_nonneg h0, Int.toNat_of_nonneg h1, Int.toNat_of_nonneg h2, Int.toNat_of_nonneg h3, Int.toNat_of_nonneg h4]
theorem concat5 (w : World) (k b b0 b1 b2 b3 d : Int) :
    Calls Try.prog 55 #[.slice (some ⟨w.heap.size + 1 + 1, 0, none⟩) 2 2]
      (((w.alloc (.cells #[.int .i64 k, .int .i64 b, .int .i64 b0, .int .i64 b1, .int .i64 b2, .int .i64 b3, .int .i64 d] 40)).alloc (.cells #[.int .i64 d] 3)).alloc (.cells #[.slice (some ⟨w.heap.size, 2, none⟩) 4 4, .slice (some ⟨w.heap.size + 1, 0, none⟩) 1 1] 77)).drew
      fun e w' => ∃ v, e = .returned v ∧ Hid (Own w' w.heap.size 3 v [VI b0, VI b1, VI b2, VI b3, VI d]) ∧ Below w.heap.size w w' ∧ w'.cell? ⟨w.heap.size, 1, none⟩ = some (.int .i64 b) ∧ w'.cell? ⟨w.heap.size, 6, none⟩ = some (.int .i64 d) := by
  obtain ⟨w1, hw1⟩ : ∃ w1, w1 = w.alloc (.cells #[.int .i64 k, .int .i64 b, .int .i64 b0, .int .i64 b1, .int .i64 b2, .int .i64 b3, .int .i64 d] 40) := ⟨_, rfl⟩
  have s1 : w1.heap.size = w.heap.size + 1 := by rw [hw1]; simp
  have r1 : Row w1 w.heap.size 40 [VI k, VI b, VI b0, VI b1, VI b2, VI b3, VI d] := by rw [hw1]; exact Row.new w 40 _
  have l1 : Below w.heap.size w w1 := by rw [hw1]; exact (Below.refl _ _).alloc (Nat.le_refl _) _
  rw [← hw1]
  clear hw1
  obtain ⟨w2, hw2⟩ : ∃ w2, w2 = w1.alloc (.cells #[.int .i64 d] 3) := ⟨_, rfl⟩
  have s2 : w2.heap.size = w.heap.size + 2 := by rw [hw2]; simp; omega
  have r2 : Row w2 (w.heap.size + 1) 3 [VI d] := by rw [hw2, ← s1]; exact Row.new w1 3 _
  have r12 : Row w2 w.heap.size 40 [VI k, VI b, VI b0, VI b1, VI b2, VI b3, VI d] := by rw [hw2]; exact r1.alloc _
  have l2 : Below w.heap.size w w2 := by rw [hw2]; exact l1.alloc (by omega) _
  rw [← hw2]
  clear hw2
  obtain ⟨w3, hw3⟩ : ∃ w3, w3 = (w2.alloc (.cells #[.slice (some ⟨w.heap.size, 2, none⟩) 4 4, .slice (some ⟨w.heap.size + 1, 0, none⟩) 1 1] 77)).drew := ⟨_, rfl⟩
  have r3 : Row w3 (w.heap.size + 1 + 1) 77 [.slice (some ⟨w.heap.size, 2, none⟩) 4 4, .slice (some ⟨w.heap.size + 1, 0, none⟩) 1 1] := by rw [hw3, show w.heap.size + 1 + 1 = w2.heap.size by omega]; exact (Row.new w2 77 _).drew
  have r23 : Row w3 (w.heap.size + 1) 3 [VI d] := by rw [hw3]; exact (r2.alloc _).drew
  have r13 : Row w3 w.heap.size 40 [VI k, VI b, VI b0, VI b1, VI b2, VI b3, VI d] := by rw [hw3]; exact (r12.alloc _).drew
  have s3 : w3.heap.size = w.heap.size + 3 := by rw [hw3]; show (w2.alloc _).heap.size = _; simp; omega
  have l3 : Below w.heap.size w w3 := by rw [hw3]; exact (l2.alloc (by omega) _).drew
  rw [← hw3]
  clear hw3
  have hA : From w3 (.slice (some ⟨w.heap.size, 2, none⟩) 4 4) [VI b0, VI b1, VI b2, VI b3] := by
    refine .inr ⟨w.heap.size, 2, 4, rfl, by omega, fun j v hv => ?_⟩
    rw [r13.cell (2 + j)]
    match j with
    | 0 => exact hv
    | 1 => exact hv
    | 2 => exact hv
    | 3 => exact hv
    | j + 4 => exact absurd hv (by simp)
  have hB : From w3 (.slice (some ⟨w.heap.size + 1, 0, none⟩) 1 1) [VI d] := .inr ⟨w.heap.size + 1, 0, 1, rfl, by omega, r23.sees⟩
  refine (QconcatI_any (r3.cell 0) (r3.cell 1) hA hB rfl rfl (fun v hv => ?_) (fun v hv => ?_)).mono ?_
  · simp only [List.mem_cons, List.not_mem_nil, or_false] at hv
    rcases hv with rfl | rfl | rfl | rfl <;> rfl
  · rw [List.mem_singleton] at hv; rw [hv]; rfl
  · rintro e w' ⟨v, he, ho, hb⟩
    have r := r13.below hb (by omega)
    exact ⟨v, he, ho.out.base (by omega), l3.trans (hb.mono (by omega)), r.cell 1, r.cell 6⟩
theorem FiNums_few (x : Ino) (hx : odd x = false) (h4 : ¬ 4 < data x.b) (sv : Value) : Calls Try.prog 35 #[sv, .agg (inoC x)] w fun e w' => NumsR w x bl e w' := by
  have hmay := (odd_no hx).1
  have hb := may_bounds hmay
  have hE : Hid (numsE x bl = 0) := by show _ = _; unfold numsE; rw [if_neg h4]
  have hAll := Lib.hid (allOf_few (bl := bl) h4)
  have HN : Hid (∀ W, Calls Try.prog 50 #[.int .i64 x.b] W fun e w' => e = .returned (.int .i64 (need x.b)) ∧ w' = W) := fun W => InNeed_any x.b ⟨by omega, by omega⟩ W
  have hn4 : need x.b ≤ 4 := by unfold need; rw [if_neg h4]; omega
  have H5 := Lib.hid (five_cells x.k x.b x.b0 x.b1 x.b2 x.b3 x.d (by omega) (by omega) (by omega) (by omega) (by omega))
  have HQ : Hid (∀ (N : Nat) (e : Ending) (w' : World) (q c : Nat), N = need x.b → e = .returned (.tuple #[.slice (some ⟨q, 0, none⟩) N c, .int .i64 0]) → Own w' w.heap.size 3 (.slice (some ⟨q, 0, none⟩) 5 c) (VNs (five x)) → Below w.heap.size w w' → NumsR w x bl e w') := fun N e w' q c hN he ho hB => by
    have h2 := ho.cut N (by rw [VNs_length]; show N ≤ 5; omega)
    have hl : (allOf x bl).length = N := by rw [hAll.out, List.length_take]; show min (need x.b) 5 = N; omega
    obtain ⟨_, c', e', _, _, hc', _⟩ := ho.form_cap (by rw [VNs_length]; show 0 < 5; omega)
    injection e' with _ _ e3
    subst e3
    rw [VNs_length] at hc'
    refine ⟨_, by rw [hE.out]; exact he, fun _ => ⟨?_, q, c, by rw [hl], by rw [hl]; have : (five x).length = 5 := rfl; omega⟩, hB⟩
    rw [VNs_take] at h2
    rw [hAll.out, ← hN]
    exact h2
  generalize need x.b = N at *
  obtain ⟨k, b, b0, b1, b2, b3, d⟩ := x
  simp only [inoC] at *
  have HC := Lib.hid (concat5 w k b b0 b1 b2 b3 d)
  clear hmay hx hAll hE
  have hn4i : (N : Int) ≤ 4 := by omega
  go_enter Try.func35, Try.ntmps35
  go_wp2_with fail
  go_region_with (go_at_call 55; refine HC.out.mono ?_; rintro e w1 ⟨v, rfl, hO, hB, cb, cd⟩; have HB := Lib.hid hB; clear hB)
  all_goals
    obtain ⟨q, c, rfl, -, -, hc5, -⟩ := hO.out.form_cap (by simp)
    have hO2 := hO
    rw [show ([VI b0, VI b1, VI b2, VI b3, VI d] : List Value).length = 5 from rfl] at hc5 hO2 ⊢
    rw [← H5.out] at hO2
    clear hO HC H5
    go_wp2_with fail
    refine (HN.out _).mono ?_
    rintro e w2 ⟨rfl, rfl⟩
    go_wp2
    go_ret2
    exact HQ.out N _ _ q c rfl rfl hO2.out HB.out
theorem FiNums_out (h : MemL w F m bl R cap vs gs) (x : Ino) (hx : odd x = false) (h4 : 4 < data x.b) (hd : ¬ x.d.toNat < bl.length) : Calls Try.prog 35 #[sto m, .agg (inoC x)] w fun e w' => NumsR w x bl e w' := by
  have hmay := (odd_no hx).1
  have hb := may_bounds hmay
  have hE : numsE x bl = 1 := by unfold numsE; rw [if_pos h4, if_neg hd]
  have HN : Hid (∀ W, Calls Try.prog 50 #[.int .i64 x.b] W fun e w' => e = .returned (.int .i64 (need x.b)) ∧ w' = W) := fun W => InNeed_any x.b ⟨by omega, by omega⟩ W
  have hn4 : 5 < need x.b := by unfold need; rw [if_pos h4]; omega
  have HQ : Hid (∀ (e : Ending) (w' : World), e = .returned (.tuple #[.slice none 0 0, .int .i64 1]) → Below w.heap.size w w' → NumsR w x bl e w') := fun e w' he hB =>
    ⟨_, by rw [hE]; exact he, (fun h => by rw [hE] at h; cases h), hB⟩
  have HL : Hid (∀ W, Below w.heap.size w W → Calls Try.prog 36 #[sto m, .int .i64 x.d] W fun e w' => e = .returned (.tuple #[.slice none 0 0, .int .i64 1]) ∧ w' = W) := fun W hW => FiLoad_out (h.below hW) x.d (⟨by omega, by omega⟩ : In64 x.d) (by omega)
  generalize need x.b = N at *
  have hN5 : (5 : Int) < (N : Int) := by omega
  obtain ⟨k, b, b0, b1, b2, b3, d⟩ := x
  simp only [inoC] at *
  have HC := Lib.hid (concat5 w k b b0 b1 b2 b3 d)
  clear hmay hx hE h hd
  go_enter Try.func35, Try.ntmps35
  go_wp2_with fail
  go_region_with (go_at_call 55; refine HC.out.mono ?_; rintro e w1 ⟨v, rfl, hO, hB, cb, cd⟩; have HB := Lib.hid hB; clear hB)
  all_goals
    obtain ⟨q, c, rfl, -, -, hc5, -⟩ := hO.out.form_cap (by simp)
    rw [show ([VI b0, VI b1, VI b2, VI b3, VI d] : List Value).length = 5 from rfl] at hc5 ⊢
    have HLw := Lib.hid (HL.out w1 HB.out)
    clear hO HC HL
    go_wp2_with fail
    refine (HN.out _).mono ?_
    rintro e w2 ⟨rfl, rfl⟩
    go_wp2_with fail
    refine HLw.out.mono ?_
    rintro e w3 ⟨rfl, rfl⟩
    go_wp2
    go_ret2
    exact HQ.out _ _ rfl HB.out
theorem FiNums_in (h : MemL w F m bl R cap vs gs) (x : Ino) (hx : odd x = false) (h4 : 4 < data x.b) (hd : x.d.toNat < bl.length) : Calls Try.prog 35 #[sto m, .agg (inoC x)] w fun e w' => NumsR w x bl e w' := by
  have hmay := (odd_no hx).1
  have hb := may_bounds hmay
  have hE : numsE x bl = if (further x bl).all numOk then 0 else 10 := by unfold numsE; rw [if_pos h4, if_pos hd]
  have hAll := allOf_many (bl := bl) h4
  have HN : Hid (∀ W, Calls Try.prog 50 #[.int .i64 x.b] W fun e w' => e = .returned (.int .i64 (need x.b)) ∧ w' = W) := fun W => InNeed_any x.b ⟨by omega, by omega⟩ W
  have hd36 := data_le hb.2.2.2.1
  obtain ⟨r, hr⟩ : ∃ r, r = data x.b - 4 := ⟨_, rfl⟩
  have hn4 : need x.b = r + 5 := by unfold need; rw [if_pos h4]; omega
  rw [hn4] at HN
  have hr36 : r ≤ 32 := by omega
  have hr0 : 0 < r := by omega
  have HL : Hid (∀ W, Below w.heap.size w W → Calls Try.prog 36 #[sto m, .int .i64 x.d] W fun e w' => ∃ v g, e = .returned (.tuple #[v, .int .i64 0]) ∧ Hid (Blk w' v g (Fil.blk bl x.d.toNat)) ∧ W.heap.size ≤ g ∧ Below W.heap.size W w') := fun W hW => by
    have := FiLoad_in (h.below hW) x.d.toNat hd
    rwa [Int.toNat_of_nonneg (by omega)] at this
  have hfur : further x bl = ((Fil.blk bl x.d.toNat).take r).map UInt8.toNat := by unfold further; rw [if_pos h4, ← hr]
  have hl64 : (Fil.blk bl x.d.toNat).length = 64 := (h.blk _ hd).len
  have H5 := Lib.hid (five_cells x.k x.b x.b0 x.b1 x.b2 x.b3 x.d (by omega) (by omega) (by omega) (by omega) (by omega))
  rw [hfur] at hE hAll
  have HQbad : Hid (∀ (j : Nat) (e : Ending) (w' : World), j < r → numOk ((Fil.blk bl x.d.toNat).getD j 0).toNat = false → e = .returned (.tuple #[.slice none 0 0, .int .i64 10]) → Below w.heap.size w w' → NumsR w x bl e w') := fun j e w' hj ho he hB => by
    have hE10 : numsE x bl = 10 := by
      rw [hE, if_neg]
      intro hx
      rw [List.all_eq_true] at hx
      have := hx ((Fil.blk bl x.d.toNat).getD j 0).toNat (List.mem_map.2 ⟨_, List.mem_iff_getElem?.2 ⟨j, ?_⟩, rfl⟩)
      · rw [ho] at this; cases this
      · rw [List.getElem?_take, if_pos hj, List.getD_eq_getElem?_getD, List.getElem?_eq_getElem (by omega)]; rfl
    exact ⟨_, by rw [hE10]; exact he, (fun h => by rw [hE10] at h; cases h), hB⟩
  have HQok : Hid (∀ (v : Value) (e : Ending) (w' : World), (∀ j, j < r → numOk ((Fil.blk bl x.d.toNat).getD j 0).toNat = true) → e = .returned (.tuple #[v, .int .i64 0]) → Own w' w.heap.size 3 v (VNs (five x) ++ VNs (((Fil.blk bl x.d.toNat).take r).map UInt8.toNat)) → Below w.heap.size w w' → NumsR w x bl e w') := fun v e w' hall he ho hB => by
    have hE0 : numsE x bl = 0 := by
      rw [hE, if_pos]
      rw [List.all_eq_true]
      intro y hy
      obtain ⟨u, hu, rfl⟩ := List.mem_map.1 hy
      obtain ⟨j, hj, rfl⟩ := List.getElem_of_mem hu
      rw [List.length_take] at hj
      have := hall j (by omega)
      rw [List.getElem_take]
      rwa [List.getD_eq_getElem?_getD, List.getElem?_eq_getElem (by omega)] at this
    have hV : VNs (five x) ++ VNs (((Fil.blk bl x.d.toNat).take r).map UInt8.toNat) = VNs (allOf x bl) := by rw [hAll]; simp [VNs]
    rw [hV] at ho
    refine ⟨v, by rw [hE0]; exact he, fun _ => ⟨ho, ?_⟩, hB⟩
    obtain ⟨q, c, e', _, _, hc, _⟩ := ho.form_cap (by rw [VNs_length, hAll]; simp [five])
    rw [VNs_length] at e' hc
    exact ⟨q, c, e', hc⟩
  obtain ⟨bs, hbs⟩ : ∃ bs, bs = Fil.blk bl x.d.toNat := ⟨_, rfl⟩
  rw [← hbs] at HL HQbad HQok hl64
  obtain ⟨k, b, b0, b1, b2, b3, d⟩ := x
  simp only [inoC] at *
  have HC := Lib.hid (concat5 w k b b0 b1 b2 b3 d)
  have Hl64 := Lib.hid hl64
  clear hmay hx hE h hd hAll hr hn4 hfur hbs hl64 hd36
  have hr36i : (r : Int) ≤ 32 := by omega
  have hr5 : ¬ (r : Int) + 5 ≤ 5 := by omega
  have hN37 : ((r + 5 : Nat) : Int) = (r : Int) + 5 := by omega
  go_enter Try.func35, Try.ntmps35
  go_wp2_with fail
  go_region_with (go_at_call 55; refine HC.out.mono ?_; rintro e w1 ⟨v, rfl, hO, hB, cb, cd⟩; have HB := Lib.hid hB; clear hB)
  all_goals
    obtain ⟨q, c, rfl, -, -, hc5, -⟩ := hO.out.form_cap (by simp)
    have hO2 := hO
    rw [show ([VI b0, VI b1, VI b2, VI b3, VI d] : List Value).length = 5 from rfl] at hc5 hO2 ⊢
    rw [← H5.out] at hO2
    have hq1 := (hO2.out.lt (k := q) rfl).2
    have HLw := Lib.hid (HL.out w1 HB.out)
    clear hO HC HL H5
    go_wp2_with fail
    refine (HN.out _).mono ?_
    rintro e w2 ⟨rfl, rfl⟩
    go_wp2_with fail
    refine HLw.out.mono ?_
    rintro e w3 ⟨v3, gq, rfl, hbk, hgq, hB3⟩
    obtain ⟨cv, rfl, hc64⟩ := hbk.out.val
    have HB3 : Hid (Below w.heap.size w w3) := HB.out.trans (hB3.mono HB.out.size)
    have HO3 : Hid (Own w3 w.heap.size 3 (.slice (some ⟨q, 0, none⟩) 5 c) (VNs (five ⟨k, b, b0, b1, b2, b3, d⟩) ++ VNs ((bs.take 0).map UInt8.toNat))) := by
      have := hO2.out.below hB3 (Nat.le_refl _)
      show Own _ _ _ _ (VNs _ ++ [])
      rw [List.append_nil]
      exact this
    have hqne : gq ≠ q := by omega
    have hcv : r ≤ cv := by omega
    clear hO2 hB3 HLw hgq hq1 HB
    have HBk := hbk
    clear hbk
    obtain ⟨l5, hl5⟩ : ∃ l5, l5 = five ⟨k, b, b0, b1, b2, b3, d⟩ := ⟨_, rfl⟩
    have hl5l : l5.length = 5 := by rw [hl5]; rfl
    rw [← hl5] at HO3 HQok
    clear hl5
    go_wp2_with fail
    go_loopw [6, 46] (fun v i wr => ∃ j qv lv kv : Nat, j ≤ r ∧ i = .int .i64 j ∧ v = .slice (some ⟨qv, 0, none⟩) lv kv ∧ Hid (Own wr w.heap.size 3 (.slice (some ⟨qv, 0, none⟩) lv kv) (VNs l5 ++ VNs ((bs.take j).map UInt8.toNat))) ∧ Hid (Blk wr (.slice (some ⟨gq, 0, none⟩) 64 cv) gq bs) ∧ qv ≠ gq ∧ Hid (Below w.heap.size w wr) ∧ Hid (∀ i, i < j → numOk (bs.getD i 0).toNat = true)) (fun _ i _ => r - (intOf i).toNat)
    case atStart => exact ⟨0, q, 5, c, by omega, rfl, rfl, HO3, HBk, hqne.symm, HB3, fun i hi => by omega⟩
    case round =>
      rename World => wr
      clear HO3 HBk HB3
      obtain ⟨j, qv, lv, kv, hj, rfl, rfl, HO, HBk, hv, HB, HAll⟩ := hrel
      by_cases hlt : j < r
      · obtain ⟨cx, -⟩ := HBk.out.at_ j (by omega)
        have hx8 := lt8 (bs.getD j 0)
        have HQb := Lib.hid (fun e w' => HQbad.out j e w' hlt)
        obtain ⟨y, Hy⟩ : ∃ y, Hid (y = (bs.getD j 0).toNat) := ⟨_, rfl⟩
        rw [← Hy.out] at cx hx8 HQb
        have hj32 : (j : Int) < (r : Int) := by omega
        by_cases hok : 1 ≤ y ∧ y ≤ 127
        · have HA2 : Hid (∀ i, i < j + 1 → numOk (bs.getD i 0).toNat = true) := fun i hi => by
            by_cases e : i = j
            · rw [e, ← Hy.out]; unfold numOk; simp [hok.1, hok.2]
            · exact HAll.out i (by omega)
          have HVt : Hid (VNs l5 ++ VNs ((bs.take (j + 1)).map UInt8.toNat) = (VNs l5 ++ VNs ((bs.take j).map UInt8.toNat)) ++ [VI (y : Int)]) := by
            show _ = _
            rw [List.take_succ_eq_append_getElem (by rw [Hl64.out]; omega), List.map_append, List.append_assoc]
            congr 1
            have hb : bs[j]'(by rw [Hl64.out]; omega) = bs.getD j 0 := by rw [List.getD_eq_getElem?_getD, List.getElem?_eq_getElem (by rw [Hl64.out]; omega)]; rfl
            simp [VNs, Hy.out, hb]
          have y1 : ¬ (y : Int) < 1 := by omega
          have y2 : ¬ (y : Int) > 127 := by omega
          obtain ⟨w4, hw4⟩ : ∃ W, W = wr.alloc (.cells #[.int .i64 (y : Int)] 3) := ⟨_, rfl⟩
          have HO4 : Hid (Own w4 w.heap.size 3 (.slice (some ⟨qv, 0, none⟩) lv kv) (VNs l5 ++ VNs ((bs.take j).map UInt8.toNat))) := by rw [hw4]; exact HO.out.alloc _
          have HBk4 : Hid (Blk w4 (.slice (some ⟨gq, 0, none⟩) 64 cv) gq bs) := by rw [hw4]; exact HBk.out.below ((Below.refl _ _).alloc (Nat.le_refl _) _)
          have HF4 : Hid (From w4 (.slice (some ⟨wr.heap.size, 0, none⟩) 1 1) [VI (y : Int)]) := by rw [hw4]; exact (Own.lit wr wr.heap.size 3 [VI (y : Int)] (Nat.le_refl _) (by simp)).from_
          have H14 : Hid (∀ z ∈ [VI (y : Int)], z.oneCell' = true) := fun z hz => by rw [List.mem_singleton] at hz; rw [hz]; rfl
          have HLn4 : Hid ((VNs l5 ++ VNs ((bs.take j).map UInt8.toNat)).length + [VI (y : Int)].length ≤ 100000000) := by show _ ≤ _; rw [List.length_append, VNs_length, VNs_length, List.length_map, List.length_take, List.length_singleton, hl5l]; omega
          have HB4 : Hid (Below w.heap.size w w4) := by rw [hw4]; exact HB.out.alloc HB.out.size _
          have HBs4 := Lib.hid HB4.out.size
          have hlq := HBk4.out.lt
          clear HO HBk HB hok HQb HAll HQbad
          go_wp2_with (rw [← hw4]; refine wpList_app rfl (.tmp 56) (.tmp 59) 77 rfl w.heap.size 3 Try.underlying77 infoInt rfl (by decide) (.slice (some ⟨qv, 0, none⟩) lv kv) (VNs l5 ++ VNs ((bs.take j).map UInt8.toNat)) rfl HO4.out _ [VI (y : Int)] rfl HF4.out H14.out HLn4.out HBs4.out ?_; intro v5 w5 ho5 hg5 hn5; have HO5 : Hid (Own w5 w.heap.size 3 v5 (VNs l5 ++ VNs ((bs.take (j + 1)).map UInt8.toNat))) := (by rw [HVt.out]; exact ho5); have HBk5 : Hid (Blk w5 (.slice (some ⟨gq, 0, none⟩) 64 cv) gq bs) := HBk4.out.block (hg5.block gq hlq (fun e => hv (by injection e with e; exact e.symm))); obtain ⟨q5, k5, e5, -, -, -⟩ := HO5.out.form_cap (by rw [List.length_append, VNs_length, hl5l]; omega); obtain ⟨L5, hL5⟩ : ∃ L5, L5 = (VNs l5 ++ VNs ((bs.take (j + 1)).map UInt8.toNat)).length := ⟨_, rfl⟩; rw [← hL5] at e5; subst e5; clear hL5; have hv5 : q5 ≠ gq := (by simp only [Value.ownBlock, Option.some.injEq] at hn5; rcases hn5 with h | h <;> omega); have HB5 : Hid (Below w.heap.size w w5) := below_app HB4.out HO4.out hg5 (Nat.le_refl _) HB4.out.size; clear ho5 hg5 hn5)
          clear HO4 HBk4 HF4 H14 HLn4 HB4 HBs4 hlq hw4
          go_roundw
          case rel => exact ⟨j + 1, q5, L5, k5, by omega, by go_num, rfl, HO5, HBk5, hv5, HB5, HA2⟩
          case measure => simp [intOf]; omega
        · have hbad : numOk y = false := by
            unfold numOk
            by_cases h1 : 1 ≤ y
            · rw [decide_eq_true h1, decide_eq_false (fun h2 => hok ⟨h1, h2⟩)]; rfl
            · rw [decide_eq_false h1]; rfl
          have HQ9 := Lib.hid (fun e w' => HQb e w' hbad)
          have HB9 := HB
          clear HO HBk HB HAll HQbad HQb hbad
          by_cases y1 : (y : Int) < 1
          · go_wp2_with fail
            go_ret2
            exact HQ9 _ _ rfl HB9.out
          · have y2 : (y : Int) > 127 := by omega
            go_wp2_with fail
            go_ret2
            exact HQ9 _ _ rfl HB9.out
      · obtain rfl : j = r := by omega
        have HQ9 := Lib.hid (fun w' ho hB => HQok.out (.slice (some ⟨qv, 0, none⟩) lv kv) _ w' HAll.out rfl ho hB)
        clear HBk HAll HQbad HQok
        go_wp2_with fail
        go_ret2
        exact HQ9 _ HO.out HB.out
end
end Go.Proofs.Ytiafmghdiidniaa
end
