/-
  THE WALKS of the program's Read, Alter, Swap, Back.
-/
import Derived.Test.YtkghppobefllkaaDF
namespace Go.Proofs.Ytkghppobefllkaa
open Go.RowKit Dsk

def Z72 : List Value := List.replicate 72 (.int .u8 0)
theorem Z72_V8 : Z72 = z72.map V8 := by rw [Z72, z72, List.map_replicate]; rfl
theorem zero72 (w : World) : (zeroValue 59).run Try.prog w = .ok (.agg Z72.toArray) w := by kernel_rfl
theorem below_setCells {a : World} {B g : Nat} (hg : B ≤ g) : ∀ (ds : List Value) (o : Nat) (w : World), Below B a w → Below B a (w.setCells g o ds)
  | [], _, _, h => h
  | v :: r, o, w, h => by rw [World.setCells]; exact below_setCells hg r (o + 1) _ (h.setCell hg v)

set_option maxRecDepth 100000 in
set_option maxHeartbeats 1000000 in
theorem DRead_in {w : World} {F : Nat → Prop} {D : Nat} {L : List Blk} (h : DiskAt w F D L) (i : Int) (b : Blk) (hg : getB L i = some b) :
    Calls Try.prog 20 #[.pointer (some ⟨D, 0, none⟩), .int .i64 i] w fun e w' => e = .returned (.tuple #[.slice (some ⟨w.heap.size, 0, none⟩) 72 72, .int .i64 0]) ∧ Here w' w.heap.size 0 (b.cur.map V8) ∧ Below w.heap.size w w' := by
  obtain ⟨g, ps, hD⟩ := h
  obtain ⟨i, rfl, hb⟩ := getB_nat hg
  have hi := (List.getElem?_eq_some_iff.1 hb).1
  have HAt := Lib.hid (Dat_in hD i hi)
  have hpc := (hD.ptr hb).cell (j := 0) rfl
  rw [Nat.add_zero] at hpc
  have hCur := Dcur_any g (i * 145) b.dirty (ps i) w hpc
  have hc := hD.cur hb
  have l1 := cells_cur (hD.ok i b hb)
  have c1 := one8 b.cur
  rw [show (if b.dirty = true then (⟨ps i, 0, none⟩ : Addr) else ⟨g, i * 145, none⟩) = ⟨(curAt g ps i b).block, (curAt g ps i b).off, none⟩ from by unfold curAt; split <;> rfl] at hCur
  have HCur := Lib.hid hCur
  generalize b.cur.map V8 = cs at *
  generalize (curAt g ps i b).block = cb at *
  generalize (curAt g ps i b).off = co at *
  have Hc := Lib.hid hc.1
  have Hi := Lib.hid (info72 l1)
  have Hj := Lib.hid (info72a l1)
  have C1 := Lib.hid c1
  have hN : Here (w.alloc (.cells Z72.toArray 59)) w.heap.size 0 Z72 := (Row.new w 59 Z72).here
  have HT : Hid ((w.alloc (.cells Z72.toArray 59)).there w.heap.size 0 cs.toArray.size) := by show World.there _ _ _ _; rw [show cs.toArray.size = Z72.length from by rw [List.size_toArray, l1]; rfl]; exact hN.2
  have HE : Hid (Here ((w.alloc (.cells Z72.toArray 59)).setCells w.heap.size 0 cs) w.heap.size 0 cs ∧ Below w.heap.size w ((w.alloc (.cells Z72.toArray 59)).setCells w.heap.size 0 cs)) :=
    ⟨hN.set cs l1, below_setCells (Nat.le_refl _) _ _ _ ((Below.refl _ _).alloc (Nat.le_refl _) _)⟩
  have hz := zero72
  clear hD hg hb hpc hCur hc l1 c1 hN
  go_enter Try.func20, Try.ntmps20
  go_wp2_with fail
  refine HAt.out.mono ?_
  rintro e w1 ⟨rfl, rfl⟩
  clear HAt
  go_wp2_with fail
  refine HCur.out.mono ?_
  rintro e w1 ⟨rfl, rfl⟩
  clear HCur
  obtain ⟨w3, hw3⟩ : ∃ w3, w3 = (w1.alloc (.cells Z72.toArray 59)).setCells w1.heap.size 0 cs := ⟨_, rfl⟩
  rw [← hw3] at HE
  have HW3 := Lib.hid hw3
  clear hw3
  go_wp2_with (first
    | (refine wpList_load_mid rfl 59 (.tmp 15) rfl cb co rfl cs _ Hc.out Try.underlying59 rfl Hi.out ?_)
    | (refine wpList_store_mid rfl 59 (.tmp 7) (.tmp 16) rfl w1.heap.size 0 cs.toArray rfl rfl HT.out Hj.out C1.out ?_; rw [List.toList_toArray, ← HW3.out]; clear HT HW3 Hc hz))
  go_ret2
  exact ⟨rfl, HE.out⟩

set_option maxRecDepth 100000 in
set_option maxHeartbeats 1000000 in
theorem DRead_out {w : World} {F : Nat → Prop} {D : Nat} {L : List Blk} (h : DiskAt w F D L) (i : Int) (hb : getB L i = none) :
    Calls Try.prog 20 #[.pointer (some ⟨D, 0, none⟩), .int .i64 i] w fun e w' => e = .returned (.tuple #[.slice none 0 0, .int .i64 1]) ∧ w' = w := by
  obtain ⟨g, ps, hD⟩ := h
  have HAt := Lib.hid (Dat_out hD i (getB_none hb))
  clear hD hb
  go_enter Try.func20, Try.ntmps20
  go_wp2_with fail
  refine HAt.out.mono ?_
  rintro e w1 ⟨rfl, rfl⟩
  go_wp2
  go_ret2
  exact ⟨rfl, rfl⟩
end Go.Proofs.Ytkghppobefllkaa
