/-
  THE WALKS of the reference's Sum, and of the law's knows.
-/
import Derived.Test.YtdeipadgaifncaaDoorW
import Derived.Test.YtdeipadgaifncaaDoorX
import Derived.Test.YtdeipadgaifncaaDoorG
namespace Go.Proofs.YtdeipadgaifncaaDoor
open Go.RowKit Sha

set_option maxRecDepth 100000 in
set_option maxHeartbeats 400000 in
theorem RSum_gen (A : Option Addr) (n cap : Nat) (bs : List UInt8) (hn : bs.length = n) (hl : n ≤ 1000000) (w : World)
    (hA : From w (.slice A n cap) (bs.map V8)) :
    Calls Tryd.prog 7 #[.slice A n cap] w fun e w' =>
      ∃ v, e = .returned v ∧ Own w' w.heap.size 5 v ((dig (sumSt K0 bs)).map V8) ∧ Below w.heap.size w w' := by
  have HA := Lib.hid hA
  have Hn := Lib.hid hn
  clear hA hn
  go_enter Tryd.func7, Tryd.ntmps7
  go_wp2_with fail
  refine (Constants_any w).mono ?_
  rintro e w1 ⟨r, c, rfl, hr, hc, hb1⟩
  obtain ⟨g1, c1, hv1, _, hl1, hs1⟩ := hr.form (by simp [St.list])
  obtain ⟨g2, c2, hv2, _, hl2, hs2⟩ := hc.form (by rw [List.length_map]; exact Nat.lt_of_lt_of_eq (by omega) K0_length.symm)
  rw [List.length_map, show R0.list.length = 8 from rfl] at hv1
  rw [List.length_map, K0_length] at hv2
  rw [hv1, hv2]
  have hsz1 := hb1.size
  have HA1 : Hid (From w1 (.slice A n cap) (bs.map V8)) := HA.out.below hb1
  have Hs1 := Lib.hid hs1
  have Hs2 := Lib.hid hs2
  clear hv1 hv2 hr hc hs1 hs2
  go_wp2_with fail
  refine (Summed_gen A n cap bs Hn.out hl g1 0 c1 R0 g2 0 c2 K0 K0_length w1 HA1.out hl1 Hs1.out hl2 Hs2.out).mono ?_
  rintro e w2 ⟨v, rfl, hown, hb2⟩
  have HO : Hid (Own w2 w.heap.size 5 v ((dig (sumSt K0 bs)).map V8)) := Own.base hown hsz1
  clear hown
  go_wp2
  go_ret
  exact ⟨_, rfl, HO.out, hb1.trans (hb2.mono hsz1)⟩

theorem Sum_var (v : Value) (bs : List UInt8) (hn : bs.length ≤ 1000000) (w : World) (h0 : 0 < w.heap.size) (hK : Sees w 0 0 (K0.map V32)) (h : Arg w v bs) :
    Calls Tryd.prog 6 #[v] w fun e w' => ∃ rs : List Value, Hid (rs = (dig (sumSt K0 bs)).map V8) ∧ Hid (rs.toArray.size = 32) ∧ Hid (rs.toArray.all (·.oneCell') = true) ∧ e = .returned (.agg rs.toArray) ∧ Below w.heap.size w w' :=
  (Sum_any v K0 K0_length bs hn w h0 hK h).mono fun _ _ h => ⟨_, rfl, by show _ = _; rw [List.size_toArray, List.length_map, dig_length], one8 _, h⟩

set_option maxRecDepth 100000 in
set_option maxHeartbeats 400000 in
theorem knows_any (w : World) (h0 : 0 < w.heap.size) (hK : Sees w 0 0 (K0.map V32)) :
    Calls Tryd.prog 5 #[] w fun e w' => e = .returned (.bool true) ∧ Below w.heap.size w w' := by
  have HK := Lib.hid hK
  clear hK
  have hz := zero32
  go_enter Tryd.func5, Tryd.ntmps5
  go_wp2_with fail
  refine (Sum_var (.slice none 0 0) [] (by simp) w h0 HK.out (.inl ⟨none, rfl, rfl⟩)).mono ?_
  rintro e w1 ⟨rs, Hrs, Hsz, Hone, rfl, hb1⟩
  have hsz1 := hb1.size
  have HR : Hid (Row ((w1.alloc (.cells Z32.toArray 24)).setRow w1.heap.size rs.toArray) w1.heap.size 24 rs) := (Row.new w1 _ Z32).whole rs
  have HBW : Hid (Below w.heap.size w ((w1.alloc (.cells Z32.toArray 24)).setRow w1.heap.size rs.toArray)) := below_setRow' (hb1.alloc hsz1 _) hsz1 _
  have c0 := HR.out.cell 0
  have c1 := HR.out.cell 1
  have c2 := HR.out.cell 2
  have c31 := HR.out.cell 31
  have HD : Hid (rs = ([227, 176, 196, 66, 152, 252, 28, 20, 154, 251, 244, 200, 153, 111, 185, 36, 39, 174, 65, 228, 100, 155, 147, 76, 164, 149, 153, 27, 120, 82, 184, 85] : List UInt8).map V8) := by rw [Hrs.out, dig, none_digest]; rfl
  rw [show rs[0]? = some (.int .u8 227) by rw [HD.out]; rfl] at c0
  rw [show rs[1]? = some (.int .u8 176) by rw [HD.out]; rfl] at c1
  rw [show rs[2]? = some (.int .u8 196) by rw [HD.out]; rfl] at c2
  rw [show rs[31]? = some (.int .u8 85) by rw [HD.out]; rfl] at c31
  clear HD Hrs
  go_wp2_with (refine wpList_store_row rfl 24 (.tmp 1) (.tmp 2) rfl w1.heap.size rs.toArray rfl rfl 24 _ (Row.new w1 _ Z32) (by rw [Hsz.out]; kernel_rfl) (by rw [Hsz.out]; rfl) Hone.out ?_)
  go_ret
  exact ⟨rfl, HBW.out⟩
end Go.Proofs.YtdeipadgaifncaaDoor
