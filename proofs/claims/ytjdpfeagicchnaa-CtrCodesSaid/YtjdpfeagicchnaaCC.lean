/-
  THE WALKS of streamBlock and Nonce.
-/
import Derived.Test.YtjdpfeagicchnaaEJ
import Derived.Test.YtjdpfeagicchnaaCB
namespace Go.Proofs.Ytjdpfeagicchnaa
open Go.RowKit Aes Ctr

theorem copied16 (nonce : List UInt8) (hn : nonce.length = 12) : splice Z16 0 (nonce.map V8) = (nonce ++ [0, 0, 0, 0] ++ []).map V8 := by
  rw [Z16_eq, splice, List.take_zero, List.nil_append, Nat.zero_add, List.length_map, hn, List.map_append, List.map_append]
  simp
theorem big4_length (i : Nat) : (big 4 i).length = 4 := big_length 4 i

set_option maxRecDepth 100000 in
set_option maxHeartbeats 1000000 in
theorem streamBlock_any (key nonce : List UInt8) (kr nr : List Value) (hk : Vec 16 key kr) (hn : Vec 12 nonce nr) (i : Nat) (hi : i < 2 ^ 32) (w : World) :
    Calls Try.prog 11 #[.agg kr.toArray, .agg nr.toArray, .int .u32 i] w fun e w' => ∃ ts : List Value, Hid (Vec 16 (blk key nonce i) ts) ∧ e = .returned (.agg ts.toArray) ∧ Below w.heap.size w w' := by
  have HK := Lib.hid hk
  have HN := Lib.hid hn
  have Hzk : Hid (kr.toArray.size = 16) := hk.size
  have Hzn : Hid (nr.toArray.size = 12) := hn.size
  have hz := zero16
  obtain ⟨w0, hw0⟩ : ∃ w0, w0 = (((w.alloc (.cells kr.toArray 22)).alloc (.cells nr.toArray 23)).alloc (.cells Z16.toArray 22)).alloc (.cells Z16.toArray 22) := ⟨_, rfl⟩
  have HR0 : Hid (Row w0 w.heap.size 22 kr) := by rw [hw0]; exact (((Row.new w 22 kr).alloc _).alloc _).alloc _
  have HR1 : Hid (Row w0 (w.heap.size + 1) 23 nr) := by rw [hw0]; exact ((Row.newAt 23 nr (by simp)).alloc _).alloc _
  have HR2 : Hid (Row w0 (w.heap.size + 1 + 1) 22 Z16) := by rw [hw0]; exact (Row.newAt 22 Z16 (by simp)).alloc _
  have HR3 : Hid (Row w0 (w.heap.size + 1 + 1 + 1) 22 Z16) := by rw [hw0]; exact Row.newAt 22 Z16 (by simp)
  have HBL : Hid (Below w.heap.size w w0) := by rw [hw0]; exact ((((Below.refl _ _).alloc (Nat.le_refl _) _).alloc (by simp) _).alloc (by simp; omega) _).alloc (by simp; omega) _
  have K1 : Hid (nr.length = Nat.min 12 16) := hn.len
  have K3 : Hid (0 + nr.length ≤ Z16.length) := by show _ ≤ _; rw [hn.len]; decide
  have K4 : Hid (∀ v ∈ nr, v.oneCell' = true) := by rw [hn.1]; exact oneC8 _
  clear hk hn
  go_enter Try.func11, Try.ntmps11
  go_wp2
  rw [← hw0]
  clear hw0 hz
  have K2 : Hid (0 < nr.length → (some (⟨w.heap.size + 1 + 1 + 1, 0, none⟩ : Addr)) = some ⟨w.heap.size + 1 + 1 + 1, 0, none⟩ ∧ ∃ ad, some (⟨w.heap.size + 1, 0, none⟩ : Addr) = some ad ∧ ∀ (j : Nat) v, nr[j]? = some v → w0.drew.cell? (ad.add j) = some v) := by
    intro _
    refine ⟨rfl, _, rfl, fun j v hv => ?_⟩
    rw [add_off, Nat.zero_add]
    exact (HR1.out.drew.cell j).trans hv
  go_region_law (refine step_copy_splice rfl (.tmp 8) (.tmp 9) 24 24 rfl 5 Try.underlying24 elem8 _ _ 16 16 12 12 rfl rfl (w.heap.size + 1 + 1 + 1) 0 Z16 22 HR3.out nr K1.out K2.out K3.out K4.out (w.heap.size + 1 + 1 + 1) w0 ⟨rfl, rfl, rfl, Nat.le_refl _, fun _ _ => rfl⟩ (Nat.le_refl _) ?_; intro w3 Hg3 hb3)
  all_goals
    have HC3 : Hid (Row w3 (w.heap.size + 1 + 1 + 1) 22 ((nonce ++ [0, 0, 0, 0] ++ []).map V8)) := by
      have := Hg3.out
      rw [HN.out.1, copied16 nonce HN.out.2] at this
      exact this
    have HK3 : Hid (Row w3 w.heap.size 22 kr) := HR0.out.below hb3 (by omega)
    have HS3 : Hid (Row w3 (w.heap.size + 1 + 1) 22 Z16) := HR2.out.below hb3 (by omega)
    have HB3 : Hid (Below w.heap.size w w3) := HBL.out.trans (hb3.mono (by omega))
    clear Hg3 hb3 HR0 HR1 HR2 HR3 HBL K1 K2 K3 K4 Hzn
    go_wp2_with fail
    refine (putNumber_any (w.heap.size + 1 + 1 + 1) 12 4 4 i (by omega) (by omega) 22 nonce [0, 0, 0, 0] [] HN.out.2 rfl w3 HC3.out).mono ?_
    rintro e w4 ⟨rfl, Hr4, hg4⟩
    have HV4 : Hid (Vec 16 (nonce ++ big 4 i) ((nonce ++ big 4 i).map V8)) := Vec.mk 16 _ (by rw [List.length_append, big4_length, HN.out.2])
    rw [List.append_nil] at Hr4
    obtain ⟨cs, hcs⟩ : ∃ cs, cs = (nonce ++ big 4 i).map V8 := ⟨_, rfl⟩
    rw [← hcs] at Hr4 HV4
    have Hzc : Hid (cs.toArray.size = 16) := HV4.out.size
    have HK4 : Hid (Row w4 w.heap.size 22 kr) := HK3.out.grown hg4 (by simp; omega)
    have HS4 : Hid (Row w4 (w.heap.size + 1 + 1) 22 Z16) := HS3.out.grown hg4 (by simp)
    have HB4 : Hid (Below w.heap.size w w4) := HB3.out.grown hg4 HB3.out.size (fun k hk => by injection hk with hk; omega)
    clear hcs hg4 HC3 HK3 HS3 HB3
    go_wp2_with (first
      | (refine wpList_load_row rfl 22 (.tmp 3) rfl w.heap.size rfl 22 kr.toArray (0, 0) _ HK4.out Try.underlying22 rfl (by rw [Hzk.out]; kernel_rfl) ?_)
      | (refine wpList_load_row rfl 22 (.tmp 7) rfl (w.heap.size + 1 + 1 + 1) rfl 22 cs.toArray (0, 0) _ Hr4.out Try.underlying22 rfl (by rw [Hzc.out]; kernel_rfl) ?_))
    refine (AEnc_any key (nonce ++ big 4 i) kr cs HK.out HV4.out w4).mono ?_
    rintro e w5 ⟨ts, Hts, rfl, hb5⟩
    have Hzt : Hid (ts.toArray.size = 16) := Hts.out.size
    have Hone : Hid (ts.toArray.all (·.oneCell') = true) := Hts.out.one
    have HS5 : Hid (Row w5 (w.heap.size + 1 + 1) 22 Z16) := HS4.out.below hb5 HS4.out.lt
    have HB5 : Hid (Below w.heap.size w w5) := HB4.out.trans (hb5.mono HB4.out.size)
    clear hb5 HK4 HS4 HB4 Hr4
    go_wp2_with (refine wpList_store_row rfl 22 (.tmp 6) (.tmp 17) rfl (w.heap.size + 1 + 1) ts.toArray rfl rfl 22 _ HS5.out (by rw [Hzt.out]; kernel_rfl) (by rw [Hzt.out]; rfl) Hone.out ?_)
    have hlast := HS5.out.whole ts
    have hinfo : (Try.prog.info? 22).map (·.size) = some ts.toArray.size := by rw [Hzt.out]; kernel_rfl
    refine bodyPost_ret (v := .agg ts.toArray) (results_cell_row rfl _ _ (w.heap.size + 1 + 1) 22 ts.toArray (0, 0) _ rfl hlast Try.underlying22 rfl hinfo) rfl ?_
    exact ⟨ts, Hts, rfl, below_setRow' HB5.out (by omega) _⟩
end Go.Proofs.Ytjdpfeagicchnaa
