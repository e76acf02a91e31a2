/-
  THE WALK of the program's hmac.Sum.
-/
import Derived.Test.YtcmledlghipcbaaDoorTC
import Derived.Deep.MidRow
import Derived.Lib.LazyBuf
namespace Go.Proofs.YtcmledlghipcbaaDoor
open Go.RowKit Sha

theorem zeroTag (w : World) : (zeroValue 28).run Tryd.prog w = .ok (.agg Z32.toArray) w := by kernel_rfl

/-- A whole row stored cell by cell. -/
theorem row_setCells_pre {g : Nat} {t : TypeId} : ∀ (vs old pre : List Value) (o : Nat) (w : World), pre.length = o → old.length = vs.length → Row w g t (pre ++ old) → Row (w.setCells g o vs) g t (pre ++ vs)
  | [], old, pre, o, w, _, hl, h => by
    obtain rfl : old = [] := List.eq_nil_of_length_eq_zero hl
    exact h
  | v :: r, [], pre, o, w, _, hl, h => by simp at hl
  | v :: r, x :: old, pre, o, w, hp, hl, h => by
    rw [World.setCells]
    have h1 := h.set o v
    rw [List.set_append_right _ _ (by omega), show o - pre.length = 0 by omega, List.set_cons_zero] at h1
    have h2 := row_setCells_pre r old (pre ++ [v]) (o + 1) (w.setCell ⟨g, o, none⟩ v) (by simp [hp]) (by simpa using hl) (by simpa using h1)
    simpa using h2
theorem Row.setCells {w : World} {g : Nat} {t : TypeId} {cs : List Value} (h : Row w g t cs) (ds : List Value) (hl : ds.length = cs.length) : Row (w.setCells g 0 ds) g t ds := by
  simpa using row_setCells_pre ds cs [] 0 w rfl hl.symm (by simpa using h)
theorem Row.there {w : World} {g : Nat} {t : TypeId} {cs : List Value} (h : Row w g t cs) (n : Nat) (hn : cs.length = n) : w.there g 0 n := fun j hj => by
  rw [Nat.zero_add]
  exact ⟨by rw [h.cell, List.getElem?_eq_getElem (by omega)]; rfl, h.free j⟩
theorem Row.range {w : World} {g : Nat} {t : TypeId} {cs : List Value} (h : Row w g t cs) : w.rangeAt g 0 cs := h.sees

set_option maxRecDepth 100000 in
set_option maxHeartbeats 400000 in
theorem HSum_any (v u : Value) (key bs : List UInt8) (hk : key.length ≤ 1000000) (hn : bs.length ≤ 900000) (w : World) (hT : Tab w) (hv : Arg w v key) (hu : Arg w u bs) :
    Calls Tryd.prog 8 #[v, u] w fun e w' => ∃ rs : List Value, Hid (Vec 32 (mac key bs) rs) ∧ e = .returned (.agg rs.toArray) ∧ Below w.heap.size w w' := by
  have HB0 : Hid (Below w.heap.size w (w.alloc (.cells Z32.toArray 28))) := (Below.refl _ _).alloc (Nat.le_refl _) _
  have HT := Lib.hid hT
  have HV := Lib.hid hv
  have HU := Lib.hid hu
  have HKl := Lib.hid hk
  have HNl := Lib.hid hn
  clear hT hv hu hk hn
  have hz1 := zero64
  have hz2 := zero32
  have hz3 := zeroTag
  go_enter Tryd.func8, Tryd.ntmps8
  go_wp2_with fail
  refine (fill_any v key HKl.out _ (HT.out.below HB0.out) (HV.out.below HB0.out)).mono ?_
  rintro e w1 ⟨ks, Hks, rfl, hb1⟩
  have hsz1 : w.heap.size < w1.heap.size := by have := hb1.size; simp at this; omega
  have HBw1 : Hid (Below w.heap.size w w1) := HB0.out.trans (hb1.mono (by simp))
  have HN1 : Hid (Row w1 w.heap.size 28 Z32) := (Row.new w 28 Z32).below hb1 (by simp)
  have Hsz : Hid (ks.toArray.size = 64) := Hks.out.size
  have Hone : Hid (ks.toArray.all (·.oneCell') = true) := Hks.out.one
  clear hb1
  go_wp2_with (first
    | (refine wpList_store_row rfl 43 (.tmp 5) (.tmp 8) rfl w1.heap.size ks.toArray rfl rfl 43 _ (Row.new w1 _ ZK) (by rw [Hsz.out]; kernel_rfl) (by rw [Hsz.out]; rfl) Hone.out ?_)
    | (refine wpList_load_row rfl 43 (.tmp 5) rfl w1.heap.size rfl 43 ks.toArray (0, 0) _ ((Row.new w1 43 ZK).whole ks) Tryd.underlying43 rfl (by rw [Hsz.out]; kernel_rfl) ?_))
  have hb2 : Below w1.heap.size w1 ((w1.alloc (.cells ZK.toArray 43)).setRow w1.heap.size ks.toArray) := below_setRow' ((Below.refl _ _).alloc (Nat.le_refl _) _) (Nat.le_refl _) _
  have HR2 : Hid (Row ((w1.alloc (.cells ZK.toArray 43)).setRow w1.heap.size ks.toArray) w1.heap.size 43 ks) := (Row.new w1 43 ZK).whole ks
  have HN2 : Hid (Row ((w1.alloc (.cells ZK.toArray 43)).setRow w1.heap.size ks.toArray) w.heap.size 28 Z32) := HN1.out.below hb2 (by omega)
  have HB2 : Hid (Below w.heap.size w ((w1.alloc (.cells ZK.toArray 43)).setRow w1.heap.size ks.toArray)) := HBw1.out.trans (hb2.mono (by omega))
  have hsz2 : ((w1.alloc (.cells ZK.toArray 43)).setRow w1.heap.size ks.toArray).heap.size = w1.heap.size + 1 := by simp
  clear hb2 HN1 HBw1
  generalize (w1.alloc (.cells ZK.toArray 43)).setRow w1.heap.size ks.toArray = w2 at *
  refine (kdigest_any (fullK key) ks Hks.out 54 u bs HNl.out w2 (HT.out.below HB2.out) (HU.out.below HB2.out)).mono ?_
  rintro e w3 ⟨is, His, rfl, hb3⟩
  have hsz3 : w1.heap.size + 1 ≤ w3.heap.size := by have := hb3.size; omega
  have HR3 : Hid (Row w3 w1.heap.size 43 ks) := HR2.out.below hb3 (by omega)
  have HN3 : Hid (Row w3 w.heap.size 28 Z32) := HN2.out.below hb3 (by omega)
  have HB3 : Hid (Below w.heap.size w w3) := HB2.out.trans (hb3.mono (by omega))
  have Hisz : Hid (is.toArray.size = 32) := His.out.size
  have Hione : Hid (is.toArray.all (·.oneCell') = true) := His.out.one
  clear hb3 HR2 HN2 HB2 hsz2
  go_wp2_with (refine wpList_store_row rfl 27 (.tmp 6) (.tmp 11) rfl w3.heap.size is.toArray rfl rfl 27 _ (Row.new w3 _ Z32) (by rw [Hisz.out]; kernel_rfl) (by rw [Hisz.out]; rfl) Hione.out ?_)
  try go_frame
  refine leave_wp (fun w4 => Hid (Row w4 w.heap.size 28 Z32) ∧ Hid (Row w4 w1.heap.size 43 ks) ∧ Hid (Row w4 w3.heap.size 27 is) ∧ Hid (Below w.heap.size w w4)) ?_ ?_
  · have hb4 : Below w3.heap.size w3 ((w3.alloc (.cells Z32.toArray 27)).setRow w3.heap.size is.toArray) := below_setRow' ((Below.refl _ _).alloc (Nat.le_refl _) _) (Nat.le_refl _) _
    exact ⟨HN3.out.below hb4 (by omega), HR3.out.below hb4 (by omega), (Row.new w3 27 Z32).whole is, HB3.out.trans (hb4.mono (by omega))⟩
  rintro w4 ⟨HN4, HR4, HI4, HB4⟩
  have HA4 : Hid (Arg w4 (.slice (some ⟨w3.heap.size, 0, none⟩) 32 32) (dg (xorK (fullK key) 54 ++ bs))) := (His.out.row HI4.out).arg 32 His.out.2
  have HD : Hid (Calls Tryd.prog 15 #[.agg ks.toArray, .int .u8 92, .slice (some ⟨w3.heap.size, 0, none⟩) 32 32] w4.drew fun e w' => ∃ rs : List Value, Hid (Vec 32 (mac key bs) rs) ∧ rs.length = 32 ∧ (∀ v ∈ rs, v.oneCell' = true) ∧ Hid (Row w' w.heap.size 28 Z32) ∧ (w'.rangeAt w1.heap.size 0 ks ∧ w'.there w.heap.size 0 32) ∧ e = .returned (.agg rs.toArray) ∧ Hid (Below w.heap.size w w')) :=
    (kdigest_any (fullK key) ks Hks.out 92 _ _ (by rw [dg_length]; omega) w4.drew (HT.out.below (w' := w4.drew) ⟨HB4.out.os, HB4.out.tape, HB4.out.output, HB4.out.size, HB4.out.block⟩) HA4.out).mono fun e w' ⟨rs, hrs, he, hb⟩ => by
      have hs4 : w.heap.size < w4.heap.size := HN4.out.lt
      have hs41 : w1.heap.size < w4.heap.size := HR4.out.lt
      have hb' : Below w4.heap.size w4 w' := ⟨hb.os, hb.tape, hb.output, hb.size, hb.block⟩
      have hn' := HN4.out.below hb' hs4
      exact ⟨rs, hrs, hrs.out.len, by rw [hrs.out.1]; exact oneC8 _, hn', ⟨(HR4.out.below hb' hs41).range, hn'.there 32 rfl⟩, he, HB4.out.trans (hb'.mono (by omega))⟩
  have hS4 : w4.drew.rangeAt w1.heap.size 0 ks ∧ w4.drew.there w.heap.size 0 32 := ⟨HR4.out.drew.range, HN4.out.drew.there 32 rfl⟩
  have hu := Tryd.underlying43
  have hi1 : (Tryd.prog.info? 43).map (·.size) = some ks.length := by rw [Hks.out.len]; kernel_rfl
  have hi2 : (Tryd.prog.info? 28).map (·.size) = some 32 := by kernel_rfl
  clear HA4 HI4 His Hisz Hione HN3 HR3 HB3 Hone HT HV HU hz1 hz2 hz3
  go_region_held3 (fun W => W.rangeAt w1.heap.size 0 ks ∧ W.there w.heap.size 0 32) (first | exact hS4 | exact hS5 | exact ⟨World.rangeAt_setCells_apart hS5.1 _ _ _ (.inl (by omega)), World.there_setCells hS5.2 _ _ _⟩) (first | (go_at_call 15; refine HD.out.mono ?_; rintro e w5 ⟨rs, Hrs, hrl, hr1, HN5, hS5, rfl, hb5⟩))
  all_goals
    have hlast : Row (w5.setCells w.heap.size 0 rs) w.heap.size 28 rs := HN5.out.setCells rs (by rw [hrl]; rfl)
    have hinfo : (Tryd.prog.info? 28).map (·.size) = some rs.toArray.size := by rw [List.size_toArray, hrl]; kernel_rfl
    clear hS4 hS5 hu hi1 hi2
    go_wp2
    refine bodyPost_ret (v := .agg rs.toArray) (results_cell_row rfl _ _ w.heap.size 28 rs.toArray (0, 0) _ rfl hlast Tryd.underlying28 rfl hinfo) rfl ?_
    exact ⟨rs, Hrs, rfl, below_setCells (Nat.le_refl _) _ _ _ hb5.out⟩
end Go.Proofs.YtcmledlghipcbaaDoor
