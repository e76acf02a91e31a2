/-
  THE WALK of the law's knows: the document's example.
-/
import Derived.Test.YtcmledlghipcbaaDoorTE
import Derived.Lib.SmallJoins
namespace Go.Proofs.YtcmledlghipcbaaDoor
open Go.RowKit Sha

def jefe : List UInt8 := [74, 101, 102, 101]
def want : List UInt8 := [119, 104, 97, 116, 32, 100, 111, 32, 121, 97, 32, 119, 97, 110, 116, 32, 102, 111, 114, 32, 110, 111, 116, 104, 105, 110, 103, 63]
set_option maxRecDepth 100000 in
theorem known : (mac jefe want)[0]? = some 91 ∧ (mac jefe want)[1]? = some 220 ∧ (mac jefe want)[31]? = some 67 := by decide +kernel

set_option maxRecDepth 100000 in
set_option maxHeartbeats 400000 in
theorem Hknows_any (w : World) (hT : Tab w) :
    Calls Tryd.prog 6 #[] w fun e w' => e = .returned (.bool true) ∧ Below w.heap.size w w' := by
  have hc1 := Joins.run_convert_bytes_const_at (P := Tryd.prog) w 22 5 #[.int .u8 74, .int .u8 101, .int .u8 102, .int .u8 101] 4 4 w.heap.size rfl Tryd.underlying22 Tryd.underlying5
  have hc2 := Joins.run_convert_bytes_const_at (P := Tryd.prog) (w.alloc (.cells #[.int .u8 74, .int .u8 101, .int .u8 102, .int .u8 101] 5 (4, 5))) 22 5 #[.int .u8 119, .int .u8 104, .int .u8 97, .int .u8 116, .int .u8 32, .int .u8 100, .int .u8 111, .int .u8 32, .int .u8 121, .int .u8 97, .int .u8 32, .int .u8 119, .int .u8 97, .int .u8 110, .int .u8 116, .int .u8 32, .int .u8 102, .int .u8 111, .int .u8 114, .int .u8 32, .int .u8 110, .int .u8 111, .int .u8 116, .int .u8 104, .int .u8 105, .int .u8 110, .int .u8 103, .int .u8 63] 28 28 (w.heap.size + 1) (by simp) Tryd.underlying22 Tryd.underlying5
  have HB0 : Hid (Below w.heap.size w ((w.alloc (.cells #[.int .u8 74, .int .u8 101, .int .u8 102, .int .u8 101] 5 (4, 5))).alloc (.cells #[.int .u8 119, .int .u8 104, .int .u8 97, .int .u8 116, .int .u8 32, .int .u8 100, .int .u8 111, .int .u8 32, .int .u8 121, .int .u8 97, .int .u8 32, .int .u8 119, .int .u8 97, .int .u8 110, .int .u8 116, .int .u8 32, .int .u8 102, .int .u8 111, .int .u8 114, .int .u8 32, .int .u8 110, .int .u8 111, .int .u8 116, .int .u8 104, .int .u8 105, .int .u8 110, .int .u8 103, .int .u8 63] 5 (28, 29)))) := ((Below.refl _ _).alloc (Nat.le_refl _) _).alloc (by simp) _
  have HA1 : Hid (Arg ((w.alloc (.cells #[.int .u8 74, .int .u8 101, .int .u8 102, .int .u8 101] 5 (4, 5))).alloc (.cells #[.int .u8 119, .int .u8 104, .int .u8 97, .int .u8 116, .int .u8 32, .int .u8 100, .int .u8 111, .int .u8 32, .int .u8 121, .int .u8 97, .int .u8 32, .int .u8 119, .int .u8 97, .int .u8 110, .int .u8 116, .int .u8 32, .int .u8 102, .int .u8 111, .int .u8 114, .int .u8 32, .int .u8 110, .int .u8 111, .int .u8 116, .int .u8 104, .int .u8 105, .int .u8 110, .int .u8 103, .int .u8 63] 5 (28, 29))) (.slice (some ⟨w.heap.size, 0, none⟩) 4 4) jefe) := by
    refine .inr ⟨w.heap.size, 0, 4, rfl, by simp; omega, by decide, fun j u hu => ?_⟩
    rw [Nat.zero_add]
    refine (World.cell?_alloc_lt _ _ _ (by simp)).trans ((Joins.cell_alloc_mark_at w _ _ _ _ j rfl).trans ?_)
    rw [List.getElem?_toArray]
    exact hu
  have HA2 : Hid (Arg ((w.alloc (.cells #[.int .u8 74, .int .u8 101, .int .u8 102, .int .u8 101] 5 (4, 5))).alloc (.cells #[.int .u8 119, .int .u8 104, .int .u8 97, .int .u8 116, .int .u8 32, .int .u8 100, .int .u8 111, .int .u8 32, .int .u8 121, .int .u8 97, .int .u8 32, .int .u8 119, .int .u8 97, .int .u8 110, .int .u8 116, .int .u8 32, .int .u8 102, .int .u8 111, .int .u8 114, .int .u8 32, .int .u8 110, .int .u8 111, .int .u8 116, .int .u8 104, .int .u8 105, .int .u8 110, .int .u8 103, .int .u8 63] 5 (28, 29))) (.slice (some ⟨w.heap.size + 1, 0, none⟩) 28 28) want) := by
    refine .inr ⟨w.heap.size + 1, 0, 28, rfl, by simp, by decide, fun j u hu => ?_⟩
    rw [Nat.zero_add]
    refine (Joins.cell_alloc_mark_at _ _ _ _ _ j (by simp)).trans ?_
    rw [List.getElem?_toArray]
    exact hu
  have HT := Lib.hid (hT.below HB0.out)
  clear hT
  have hz := zeroTag
  go_enter Tryd.func6, Tryd.ntmps6
  go_wp2_with fail
  refine (HSum_any _ _ jefe want (by decide) (by decide) _ HT.out HA1.out HA2.out).mono ?_
  rintro e w1 ⟨rs, Hrs, rfl, hb1⟩
  have hbw : Below w.heap.size w w1 := HB0.out.trans (hb1.mono (by simp; omega))
  have hsz1 := hbw.size
  have HR : Hid (Row ((w1.alloc (.cells Z32.toArray 28)).setRow w1.heap.size rs.toArray) w1.heap.size 28 rs) := (Row.new w1 _ Z32).whole rs
  have HBW : Hid (Below w.heap.size w ((w1.alloc (.cells Z32.toArray 28)).setRow w1.heap.size rs.toArray)) := below_setRow' (hbw.alloc hsz1 _) hsz1 _
  have c0 := HR.out.cell 0
  have c1 := HR.out.cell 1
  have c31 := HR.out.cell 31
  have HK := Lib.hid known
  rw [show rs[0]? = some (.int .u8 91) by rw [Hrs.out.1, List.getElem?_map, HK.out.1]; rfl] at c0
  rw [show rs[1]? = some (.int .u8 220) by rw [Hrs.out.1, List.getElem?_map, HK.out.2.1]; rfl] at c1
  rw [show rs[31]? = some (.int .u8 67) by rw [Hrs.out.1, List.getElem?_map, HK.out.2.2]; rfl] at c31
  have Hsz : Hid (rs.toArray.size = 32) := Hrs.out.size
  have Hone : Hid (rs.toArray.all (·.oneCell') = true) := Hrs.out.one
  clear HK Hrs hb1 hbw HT HA1 HA2 HB0
  go_wp2_with (refine wpList_store_row rfl 28 (.tmp 1) (.tmp 6) rfl w1.heap.size rs.toArray rfl rfl 28 _ (Row.new w1 _ Z32) (by rw [Hsz.out]; kernel_rfl) (by rw [Hsz.out]; rfl) Hone.out ?_)
  go_ret
  exact ⟨rfl, HBW.out⟩
end Go.Proofs.YtcmledlghipcbaaDoor
