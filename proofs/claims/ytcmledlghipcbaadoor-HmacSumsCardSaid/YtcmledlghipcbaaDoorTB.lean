/-
  THE WALK of the program's fill: the full key.
-/
import Derived.Test.YtcmledlghipcbaaDoorTA
import Derived.Deep.RegionLaw
namespace Go.Proofs.YtcmledlghipcbaaDoor
open Go.RowKit Sha

def ZK : List Value := List.replicate 64 (.int .u8 0)
theorem ZK_length : ZK.length = 64 := List.length_replicate
theorem zero64 (w : World) : (zeroValue 43).run Tryd.prog w = .ok (.agg ZK.toArray) w := by kernel_rfl
theorem copied64 (l : List UInt8) : splice ZK 0 (l.map V8) = (pad8 64 l).map V8 := by
  rw [ZK, splice, pad8, List.take_zero, List.nil_append, Nat.zero_add, List.length_map, List.drop_replicate, List.map_append, List.map_replicate]
  rfl

theorem after_fill {w w1 : World} {key l : List UInt8} {xs : List Value} (HF : Hid (fullK key = pad8 64 l)) (HX : Hid (xs = l.map V8)) (g : Nat)
    (w0 : World) (hr0 : Row w0 w.heap.size 43 ZK) (h0 : Below w.heap.size w w0) (Hg1 : Hid (w1.heap[g]? = some (.cells (splice ZK 0 xs).toArray 43 (0, 0)))) (hb1 : Below (w.heap.size + 1) w0 w1) :
    ∃ rs : List Value, Hid (Vec 64 (fullK key) rs) ∧ Hid (Row w1 g 43 rs) ∧ Hid (Row w1 w.heap.size 43 ZK) ∧ Hid (Below w.heap.size w w1) ∧ Hid (rs.toArray.size = 64) ∧ Hid (rs.toArray.all (·.oneCell') = true) := by
  have hv := Vec.mk 64 (fullK key) (fullK_length key)
  refine ⟨_, hv, ?_, hr0.below hb1 (by omega), h0.trans (hb1.mono (by omega)), hv.size, hv.one⟩
  have := Hg1.out
  rw [HX.out, copied64, ← HF.out] at this
  exact this

set_option maxRecDepth 100000 in
set_option maxHeartbeats 400000 in
theorem fill_short (A : Option Addr) (n cap : Nat) (key : List UInt8) (hl : key.length = n) (hn : n ≤ 64) (w : World) (h : Arg w (.slice A n cap) key) :
    Calls Tryd.prog 14 #[.slice A n cap] w fun e w' => ∃ rs : List Value, Hid (Vec 64 (fullK key) rs) ∧ e = .returned (.agg rs.toArray) ∧ Below w.heap.size w w' := by
  have HF : Hid (fullK key = pad8 64 key) := by show _ = _; rw [fullK, if_neg (by omega)]
  have HL := Lib.hid hl
  have HB : Hid (Below w.heap.size w ((w.alloc (.cells ZK.toArray 43)).alloc (.cells ZK.toArray 43))) := ((Below.refl _ _).alloc (Nat.le_refl _) _).alloc (by simp) _
  obtain ⟨xs, hxs⟩ : ∃ xs, xs = key.map V8 := ⟨_, rfl⟩
  have HX := Lib.hid hxs
  have K1 : Hid (xs.length = Nat.min n 64) := by show _ = _; rw [show Nat.min n 64 = n from Nat.min_eq_left (by omega), hxs, List.length_map, hl]
  have K2 : Hid (0 < xs.length → (some (⟨w.heap.size + 1, 0, none⟩ : Addr)) = some ⟨w.heap.size + 1, 0, none⟩ ∧ ∃ ad, A = some ad ∧ ∀ (j : Nat) v, xs[j]? = some v → ((w.alloc (.cells ZK.toArray 43)).alloc (.cells ZK.toArray 43)).cell? (ad.add j) = some v) := by
    intro hp
    rw [hxs, List.length_map] at hp
    refine ⟨rfl, ?_⟩
    rw [hxs]
    exact (h.below HB.out).src hp
  have K3 : Hid (0 + xs.length ≤ ZK.length) := by show _ ≤ _; rw [ZK_length, hxs, List.length_map, hl]; omega
  have K4 : Hid (∀ v ∈ xs, v.oneCell' = true) := by rw [hxs]; exact oneC8 key
  have K5 : Hid (Below (w.heap.size + 1) (w.alloc (.cells ZK.toArray 43)) ((w.alloc (.cells ZK.toArray 43)).alloc (.cells ZK.toArray 43))) := (Below.refl _ _).alloc (by simp) _
  have K6 : Hid (((w.alloc (.cells ZK.toArray 43)).alloc (.cells ZK.toArray 43)).heap[w.heap.size + 1]? = some (.cells ZK.toArray 43 (0, 0))) := Row.newAt 43 ZK (by simp)
  clear hxs h hl
  have hz := zero64
  go_enter Tryd.func14, Tryd.ntmps14
  go_wp2_with (first
    | (refine wpList_copy_splice rfl (.tmp 13) (.tmp 14) 22 22 rfl 5 Tryd.underlying22 elem8 _ A 64 64 n cap rfl rfl (w.heap.size + 1) 0 ZK 43 K6.out xs K1.out K2.out K3.out K4.out (w.heap.size + 1) _ K5.out (Nat.le_refl _) ?_; intro w1 Hg1 hb1; obtain ⟨rs, Hv, HR1, HN, HBW, Hsz, Hone⟩ := after_fill HF HX (w.heap.size + 1) _ (Row.new w 43 ZK) ((Below.refl _ _).alloc (Nat.le_refl _) _) Hg1 hb1; clear Hg1 hb1 K1 K2 K3 K4 K5 K6 HX HF HB hz)
    | (refine wpList_load_row rfl 43 (.tmp 3) rfl (w.heap.size + 1) rfl 43 rs.toArray (0, 0) _ HR1.out Tryd.underlying43 rfl (by rw [Hsz.out]; kernel_rfl) ?_)
    | (refine wpList_store_row rfl 43 (.tmp 2) (.tmp 16) rfl w.heap.size rs.toArray rfl rfl 43 _ HN.out (by rw [Hsz.out]; kernel_rfl) (by rw [Hsz.out]; rfl) Hone.out ?_))
  have hlast := HN.out.whole rs
  have hinfo : (Tryd.prog.info? 43).map (·.size) = some rs.toArray.size := by rw [Hsz.out]; kernel_rfl
  refine bodyPost_ret (v := .agg rs.toArray) (results_cell_row rfl _ _ w.heap.size 43 rs.toArray (0, 0) _ rfl hlast Tryd.underlying43 rfl hinfo) rfl ?_
  exact ⟨rs, Hv, rfl, below_setRow' HBW.out (Nat.le_refl _) _⟩

set_option maxRecDepth 100000 in
set_option maxHeartbeats 400000 in
theorem fill_long (A : Option Addr) (n cap : Nat) (key : List UInt8) (hl : key.length = n) (hn : 64 < n) (hn2 : n ≤ 1000000) (w : World) (hT : Tab w) (h : Arg w (.slice A n cap) key) :
    Calls Tryd.prog 14 #[.slice A n cap] w fun e w' => ∃ rs : List Value, Hid (Vec 64 (fullK key) rs) ∧ e = .returned (.agg rs.toArray) ∧ Below w.heap.size w w' := by
  have HF : Hid (fullK key = pad8 64 (dg key)) := by show _ = _; rw [fullK, if_pos (by omega)]
  have HL := Lib.hid hl
  have HB : Hid (Below w.heap.size w ((w.alloc (.cells ZK.toArray 43)).alloc (.cells ZK.toArray 43))) := ((Below.refl _ _).alloc (Nat.le_refl _) _).alloc (by simp) _
  have HT := Lib.hid (hT.below HB.out)
  have HA := Lib.hid (h.below HB.out)
  clear h hl hT
  have hz := zero64
  have hz2 := zero32
  go_enter Tryd.func14, Tryd.ntmps14
  go_wp2_with fail
  refine (Sum_vec _ key (by rw [HL.out]; omega) _ HT.out HA.out).mono ?_
  rintro e w1 ⟨rs, Hrs, rfl, hb1⟩
  have hsz1 : w.heap.size + 2 ≤ w1.heap.size := by have := hb1.size; simp at this; omega
  have Hsz : Hid (rs.toArray.size = 32) := Hrs.out.size
  have Hone : Hid (rs.toArray.all (·.oneCell') = true) := Hrs.out.one
  go_wp2_with (refine wpList_store_row rfl 27 (.tmp 4) (.tmp 9) rfl w1.heap.size rs.toArray rfl rfl 27 _ (Row.new w1 _ Z32) (by rw [Hsz.out]; kernel_rfl) (by rw [Hsz.out]; rfl) Hone.out ?_)
  try go_frame
  refine leave_wp (fun w2 => Hid (Row w2 w.heap.size 43 ZK) ∧ Hid (Row w2 (w.heap.size + 1) 43 ZK) ∧ Hid (Row w2 w1.heap.size 27 rs) ∧ Hid (Below w.heap.size w w2)) ?_ ?_
  · have hb2 : Below w1.heap.size w1 ((w1.alloc (.cells Z32.toArray 27)).setRow w1.heap.size rs.toArray) := below_setRow' ((Below.refl _ _).alloc (Nat.le_refl _) _) (Nat.le_refl _) _
    refine ⟨?_, ?_, (Row.new w1 27 Z32).whole rs, (HB.out.trans (hb1.mono (by simp; omega))).trans (hb2.mono (by omega))⟩
    · exact ((((Row.new w 43 ZK).alloc _).below hb1 (by simp; omega)).below hb2 (by omega))
    · exact (((Row.newAt 43 ZK (by simp)).below hb1 (by simp)).below hb2 (by omega))
  rintro w2 ⟨HN2, HM2, HR2, HB2⟩
  have HX : Hid (rs = (dg key).map V8) := Hrs.out.1
  have K1 : Hid (rs.length = Nat.min 32 64) := Hrs.out.len
  have K2 : Hid (0 < rs.length → (some (⟨w.heap.size + 1, 0, none⟩ : Addr)) = some ⟨w.heap.size + 1, 0, none⟩ ∧ ∃ ad, some (⟨w1.heap.size, 0, none⟩ : Addr) = some ad ∧ ∀ (j : Nat) v, rs[j]? = some v → w2.drew.cell? (ad.add j) = some v) := by
    intro _
    refine ⟨rfl, _, rfl, fun j v hv => ?_⟩
    rw [add_off, Nat.zero_add]
    exact (HR2.out.drew.cell j).trans hv
  have K3 : Hid (0 + rs.length ≤ ZK.length) := by show _ ≤ _; rw [ZK_length, Hrs.out.len]; omega
  have K4 : Hid (∀ v ∈ rs, v.oneCell' = true) := by rw [HX.out]; exact oneC8 _
  clear Hrs Hsz Hone hb1 HB HA HT hz hz2
  go_region_law (refine step_copy_splice rfl (.tmp 10) (.tmp 11) 22 22 rfl 5 Tryd.underlying22 elem8 _ _ 64 64 32 32 rfl rfl (w.heap.size + 1) 0 ZK 43 HM2.out rs K1.out K2.out K3.out K4.out (w.heap.size + 1) w2 ⟨rfl, rfl, rfl, Nat.le_refl _, fun _ _ => rfl⟩ (Nat.le_refl _) ?_; intro w3 Hg3 hb3)
  all_goals
    obtain ⟨ks, Hv, HR3, HN3, HBW, Hsz, Hone⟩ := after_fill HF HX (w.heap.size + 1) _ HN2.out HB2.out Hg3 hb3
    clear Hg3 hb3 K1 K2 K3 K4 HX HF HN2 HM2 HR2 HB2
    go_wp2_with (first
      | (refine wpList_load_row rfl 43 (.tmp 3) rfl (w.heap.size + 1) rfl 43 ks.toArray (0, 0) _ HR3.out Tryd.underlying43 rfl (by rw [Hsz.out]; kernel_rfl) ?_)
      | (refine wpList_store_row rfl 43 (.tmp 2) (.tmp 16) rfl w.heap.size ks.toArray rfl rfl 43 _ HN3.out (by rw [Hsz.out]; kernel_rfl) (by rw [Hsz.out]; rfl) Hone.out ?_))
    have hlast := HN3.out.whole ks
    have hinfo : (Tryd.prog.info? 43).map (·.size) = some ks.toArray.size := by rw [Hsz.out]; kernel_rfl
    refine bodyPost_ret (v := .agg ks.toArray) (results_cell_row rfl _ _ w.heap.size 43 ks.toArray (0, 0) _ rfl hlast Tryd.underlying43 rfl hinfo) rfl ?_
    exact ⟨ks, Hv, rfl, below_setRow' HBW.out (Nat.le_refl _) _⟩

theorem fill_any (v : Value) (key : List UInt8) (hn : key.length ≤ 1000000) (w : World) (hT : Tab w) (h : Arg w v key) :
    Calls Tryd.prog 14 #[v] w fun e w' => ∃ rs : List Value, Hid (Vec 64 (fullK key) rs) ∧ e = .returned (.agg rs.toArray) ∧ Below w.heap.size w w' := by
  obtain ⟨A, cap, rfl⟩ := h.form
  rcases Nat.lt_or_ge 64 key.length with hl | hl
  · exact fill_long A _ cap key rfl hl hn w hT h
  · exact fill_short A _ cap key rfl hl w h
end Go.Proofs.YtcmledlghipcbaaDoor
