/-
  THE WALK of the law's own example (knows).
-/
import Derived.Test.YtjdpfeagicchnaaCD
import Derived.Test.YtjdpfeagicchnaaCE
namespace Go.Proofs.Ytjdpfeagicchnaa
open Go.RowKit Aes Ctr

def k0 : List UInt8 := List.replicate 16 0
def n0 : List UInt8 := List.replicate 12 0
set_option maxRecDepth 100000 in
theorem code_ex : code k0 n0 (List.replicate 16 0) = [0x66, 0xe9, 0x4b, 0xd4, 0xef, 0x8a, 0x2c, 0x3b, 0x88, 0x4c, 0xfa, 0x59, 0xca, 0x34, 0x2b, 0x2e] := by decide +kernel
theorem nnc_ex : nnc 1 2 = [0, 0, 0, 1, 0, 0, 0, 0, 0, 0, 0, 2] := by decide +kernel

set_option maxRecDepth 100000 in
set_option maxHeartbeats 400000 in
theorem Cknows_any (w : World) : Calls Try.prog 5 #[] w fun e w' => e = .returned (.bool true) ∧ Below w.heap.size w w' := by
  have hz := zero12
  have hz16 := zero16
  go_enter Try.func5, Try.ntmps5
  go_wp2_with fail
  refine (Nonce_any 1 1 rfl 2 (by omega) w).mono ?_
  rintro e w1 ⟨ts, Hts, rfl, hb1⟩
  have Hzt : Hid (ts.toArray.size = 12) := Hts.out.size
  have Hone : Hid (ts.toArray.all (·.oneCell') = true) := Hts.out.one
  have HR1 : Hid (Row ((w1.alloc (.cells Z12.toArray 23)).setRow w1.heap.size ts.toArray) w1.heap.size 23 ts) := (Row.new w1 23 Z12).whole ts
  have HB1 : Hid (Below w.heap.size w ((w1.alloc (.cells Z12.toArray 23)).setRow w1.heap.size ts.toArray)) := below_setRow' (hb1.alloc hb1.size _) hb1.size _
  clear hb1
  obtain ⟨zs, hzs⟩ : ∃ zs, zs = (List.replicate 16 (0 : UInt8)).map V8 := ⟨_, rfl⟩
  have hmk : ∀ W, (Instr.makeSlice 24 (.int .i64 16) (.int .i64 16)).run Try.prog W = .ok (.slice (some ⟨W.heap.size, 0, none⟩) 16 16) (W.alloc (.cells zs.toArray 5)) := fun W => by rw [hzs]; exact made_n 16 (by omega) W
  have HZ := Lib.hid hzs
  clear hzs
  go_wp2_with (refine wpList_store_row rfl 23 (.tmp 1) (.tmp 3) rfl w1.heap.size ts.toArray rfl rfl 23 _ (Row.new w1 _ Z12) (by rw [Hzt.out]; kernel_rfl) (by rw [Hzt.out]; rfl) Hone.out ?_)
  have hsz : ((w1.alloc (.cells Z12.toArray 23)).setRow w1.heap.size ts.toArray).heap.size = w1.heap.size + 1 := by simp
  generalize (w1.alloc (.cells Z12.toArray 23)).setRow w1.heap.size ts.toArray = w2 at *
  obtain ⟨N, hN⟩ : ∃ N, N = w1.heap.size := ⟨_, rfl⟩
  rw [← hN] at HR1 hsz ⊢
  clear hN hmk hz hz16
  have HR2 : Hid (Row (w2.alloc (.cells zs.toArray 5)) N 23 ts) := HR1.out.alloc _
  have HB2 : Hid (Below w.heap.size w (w2.alloc (.cells zs.toArray 5))) := HB1.out.alloc HB1.out.size _
  have HA2 : Hid (Arg (w2.alloc (.cells zs.toArray 5)) (.slice (some ⟨N + 1, 0, none⟩) 16 16) (List.replicate 16 0)) := by
    have : Row (w2.alloc (.cells zs.toArray 5)) (N + 1) 5 ((List.replicate 16 (0 : UInt8)).map V8) := by
      rw [← HZ.out]; exact Row.newAt 5 zs hsz
    exact this.arg 16 List.length_replicate
  generalize w2.alloc (.cells zs.toArray 5) = w3 at *
  refine (Code_any k0 n0 (List.replicate 16 0) Z16 Z12 ⟨Z16_eq, List.length_replicate⟩ ⟨rfl, List.length_replicate⟩ _ (by rw [List.length_replicate]; omega) w3 HA2.out).mono ?_
  rw [List.length_replicate]
  rintro e w4 ⟨g, rfl, hg, Hrow, hb4⟩
  have HR4 : Hid (Row w4 N 23 ts) := HR2.out.below hb4 HR2.out.lt
  have HB4 : Hid (Below w.heap.size w w4) := HB2.out.trans (hb4.mono HB2.out.size)
  have hts := Hts.out.1
  rw [nnc_ex] at hts
  have c3 := HR4.out.cell 3
  have c11 := HR4.out.cell 11
  rw [show ts[3]? = some (.int .u8 1) by rw [hts]; rfl] at c3
  rw [show ts[11]? = some (.int .u8 2) by rw [hts]; rfl] at c11
  rw [code_ex] at Hrow
  have d0 : w4.cell? ⟨g, 0, none⟩ = some (.int .u8 102) := (Hrow.out.cell 0).trans rfl
  have d15 : w4.cell? ⟨g, 15, none⟩ = some (.int .u8 46) := (Hrow.out.cell 15).trans rfl
  clear hts Hts HR1 HR2 HR4 HA2 HB1 HB2 hb4 Hrow HZ Hzt Hone hsz
  go_wp2
  go_ret
  exact ⟨rfl, HB4.out⟩
end Go.Proofs.Ytjdpfeagicchnaa
