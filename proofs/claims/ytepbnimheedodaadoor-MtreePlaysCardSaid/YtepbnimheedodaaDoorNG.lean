/-
  WHAT THE ARGUMENTS' READING GIVES: bytes, bools, deeds (a number, a place, a tag); the table of the cube roots; a world for the witness.
-/
import Derived.Test.YtepbnimheedodaaDoorNE
import Derived.WalkKit
import Derived.ProofKit
import Derived.OpenShut
import Derived.ChangeOld
import Derived.Deep.DeepHandedRow
import Derived.Deep.Matrix
import Derived.Deep.Fields
import Derived.Deep.Grids
import Derived.WideKeyArr2
import Derived.ChangeSame
import Derived.Lib.LaidTab
namespace Go.Proofs.YtepbnimheedodaaDoor
open Go.ChangeShapes Go.WideShapes Go.ChangeAt Go.RowKit Go.Deep Mk Hm.Sha

set_option maxRecDepth 100000
theorem ownK : ownKnob Tryd.prog.godebug = none := by kernel_rfl
theorem laidOut : laidOutB Tryd.prog = true := by kernel_rfl
theorem gTab : Tryd.prog.globalNamed "padlock/sha256.cubeRoots" = some 0 := by kernel_rfl
theorem gTabType : (Tryd.prog.globals[0]?).map (·.type) = some 155 := by kernel_rfl
theorem cellsT : Tryd.prog.cellsOf 155 = 64 := by kernel_rfl
theorem cellsE : Tryd.prog.cellsOf 89 = 1 := by kernel_rfl
theorem cellsB : Tryd.prog.cellsOf 5 = 1 := by kernel_rfl
theorem cellsTg : Tryd.prog.cellsOf 34 = 32 := by kernel_rfl
theorem cellsI : Tryd.prog.cellsOf 3 = 1 := by kernel_rfl
theorem cellsBo : Tryd.prog.cellsOf 4 = 1 := by kernel_rfl
theorem cellsQd : Tryd.prog.cellsOf 36 = 34 := by kernel_rfl

theorem tab_of {W : World} (h : Lib.TabIs Tryd.prog W "padlock/sha256.cubeRoots" .u32 (K0.map fun x => (x.toNat : Int))) : Hm.Tab W := by
  have hs : Hm.Sees W 0 0 (K0.map Hm.V32) := by
    intro j u hu
    have hj : j < (K0.map fun x => (x.toNat : Int)).length := by
      have := (List.getElem?_eq_some_iff.1 hu).1
      simpa using this
    have hc := h.cell gTab j hj
    rw [Nat.zero_add]
    rw [List.getElem?_map] at hu
    obtain ⟨x, hx, rfl⟩ := Option.map_eq_some_iff.1 hu
    refine hc.trans ?_
    simp [Hm.V32, hx]
  exact ⟨block_lt_of_cell (hs 0 _ rfl), hs⟩

/-- A slice of bytes as the reading gives it. -/
theorem arg_of {W : World} {a : Option Addr} {len cap : Nat} {zs : List Int}
    (h : (a = none ∧ len = 0 ∧ cap = 0 ∧ zs = []) ∨ ∃ x, a = some x ∧ len ≤ cap ∧ cap ≤ maxLen ∧ zs.length = cap ∧ (∀ i, i < zs.length → W.cell? (x.add i) = some (.int .u8 (zs.getD i 0))) ∧ ∀ n ∈ zs, (Lit.int .u8 n).wf = true) :
    ∃ bs : List UInt8, bs.length = len ∧ Arg W (.slice a len cap) bs := by
  rcases h with ⟨rfl, rfl, rfl, rfl⟩ | ⟨x, rfl, hl, hm, hz, hc, hw⟩
  · exact ⟨[], rfl, .inl ⟨none, rfl, rfl⟩⟩
  · rcases Nat.eq_zero_or_pos cap with h0 | h0
    · obtain rfl : len = 0 := by omega
      subst h0
      exact ⟨[], rfl, .inl ⟨_, rfl, rfl⟩⟩
    · obtain ⟨b, off, rfl, hc'⟩ := ints_at hc (by omega)
      have hb : b < W.heap.size := block_lt_of_cell (hc' 0 (by omega))
      refine ⟨(zs.take len).map fun n => UInt8.ofNat n.toNat, by simp; omega, .inr ⟨b, off, cap, by simp; omega, hb, by simp; omega, ?_⟩⟩
      intro j u hu
      rw [List.getElem?_map, List.getElem?_map] at hu
      obtain ⟨x, hx, rfl⟩ := Option.map_eq_some_iff.1 hu
      obtain ⟨z, hz1, rfl⟩ := Option.map_eq_some_iff.1 hx
      rw [List.getElem?_take] at hz1
      split at hz1
      · have hj : j < zs.length := (List.getElem?_eq_some_iff.1 hz1).1
        rw [hc' j hj]
        have hzz : zs.getD j 0 = z := by rw [List.getD_eq_getElem?_getD, hz1]; rfl
        have hbd := bounds_u8 (hw z (List.mem_of_getElem? hz1))
        rw [hzz, V8, toNat_ofNat8 (by omega)]
        congr 2
        omega
      · cases hz1
section
variable {H : Type} {enc : TypeId × Value → H} {W : World}
theorem open_arg {a0 : Option Addr} {len0 cap0 : Nat} {d0 : DataW H} {p0 : List MemPlace}
    (h0 : DataW.Trod enc Tryd.prog W 0 (fun _ => true) true 22 (.slice a0 len0 cap0) d0 p0) : ∃ bs : List UInt8, bs.length = len0 ∧ Arg W (.slice a0 len0 cap0) bs := by
  obtain ⟨fuel, hf⟩ := h0
  rcases open_ints Tryd.underlying22 Tryd.underlying5 cellsB hf with ⟨hcs, _⟩ | ⟨x, l, c, zs, hcs, _, hl, hm, hz, _, hcell, hwz⟩
  · simp [Value.cells] at hcs
    obtain ⟨rfl, rfl, rfl⟩ := hcs
    exact arg_of (.inl ⟨rfl, rfl, rfl, rfl⟩)
  · simp [Value.cells] at hcs
    obtain ⟨rfl, rfl, rfl⟩ := hcs
    exact arg_of (.inr ⟨_, rfl, hl, hm, by simpa using hz, hcell, hwz⟩)

def numOf : Value → UInt8
  | .int _ n => UInt8.ofNat n.toNat
  | _ => 0
/-- The cells of an array of bytes. -/
theorem raw_row {t : TypeId} {n fuel : Nat} {cs : List Value} {x : DataW H × List MemPlace} (ht : Tryd.prog.underlying t = some (.array n 5)) (hc : Tryd.prog.cellsOf t = n)
    (hf : DataW.trod enc Tryd.prog W 0 (fun _ => true) true fuel t cs = some x) : ∃ bs : List UInt8, cs = bs.map V8 ∧ bs.length = n := by
  obtain ⟨ys, m, _, _, hl, hyl, hel⟩ := DataW.trod_array ht hf
  rw [hc] at hl
  refine ⟨cs.map numOf, ?_, by simp [hl]⟩
  rw [List.map_map]
  apply List.ext_getElem?
  intro i
  rcases Nat.lt_or_ge i n with hi | hi
  · have h1 := hel i hi
    rw [cellsB, Nat.mul_one, List.getElem?_eq_getElem (by omega : i < ys.length)] at h1
    obtain ⟨a, ea, _, wa⟩ := DataW.trod_int Tryd.underlying5 h1
    have hb := bounds_u8 wa
    have hx : cs[i]? = some (.int .u8 a) := by
      have h2 := congrArg List.head? ea
      simpa [List.head?_take, List.head?_drop] using h2
    rw [List.getElem?_map, hx]
    simp only [Option.map_some, Function.comp, numOf, V8]
    rw [toNat_ofNat8 (by omega)]
    congr 2
    omega
  · rw [List.getElem?_eq_none (by omega), List.getElem?_eq_none (by simp; omega)]
theorem okWide_row {t : TypeId} {n : Nat} (ht : Tryd.prog.underlying t = some (.array n 5)) (hc : Tryd.prog.cellsOf t = n) {r : Reach} {b0 : Nat} {v : Value} (h : Value.okWide Tryd.prog W r b0 t v) : ∃ xs : List Value, v = .agg xs.toArray ∧ xs.length = n := by
  simp only [Value.okWide, ht] at h
  obtain ⟨cs, h1, h2, _⟩ := h
  exact ⟨cs.toList, by rw [h1], by rw [Array.length_toList, h2, hc]⟩
theorem open_row {t : TypeId} {n : Nat} (ht : Tryd.prog.underlying t = some (.array n 5)) (hc : Tryd.prog.cellsOf t = n) {xs : List Value} {d0 : DataW H} {p0 : List MemPlace}
    (h0 : DataW.Trod enc Tryd.prog W 0 (fun _ => true) true t (.agg xs.toArray) d0 p0) : ∃ bs : List UInt8, Vec n bs xs := by
  obtain ⟨fuel, hf⟩ := h0
  have hf' : DataW.trod enc Tryd.prog W 0 (fun _ => true) true fuel t xs = some (d0, p0) := by simpa [Value.cells] using hf
  obtain ⟨bs, h1, h2⟩ := raw_row ht hc hf'
  exact ⟨bs, h1, h2⟩
variable {fuel : Nat} {c : Value} {x : DataW H × List MemPlace}
theorem raw_bools (h : DataW.trod enc Tryd.prog W 0 (fun _ => true) true fuel 39 [c] = some x) : ∃ (bs : List Bool) (a : Option Addr) (cap : Nat), c = .slice a bs.length cap ∧ From W c (bs.map Value.bool) := by
  rcases open_bools Tryd.underlying39 Tryd.underlying4 cellsBo h with ⟨hcs, _⟩ | ⟨a, l, cap, B, hcs, _, hl, hm, _, hcell⟩
  · obtain rfl : c = .slice none 0 0 := by simpa using hcs
    exact ⟨[], none, 0, rfl, .inl ⟨none, rfl, rfl⟩⟩
  · obtain rfl : c = .slice (some a) l cap := by simpa using hcs
    rcases Nat.eq_zero_or_pos cap with h0 | h0
    · obtain rfl : l = 0 := by omega
      subst h0
      exact ⟨[], _, _, rfl, .inl ⟨_, rfl, rfl⟩⟩
    · obtain ⟨b, off, spot⟩ := a
      have hspot : spot = none := by simpa [Addr.add] using World.cell?_spot (hcell 0 (by omega))
      subst hspot
      have hc : ∀ j, j < cap → W.cell? ⟨b, off + j, none⟩ = some (.bool (B j)) := fun j hj => by
        rw [← Go.WideShapes.add_plain]; exact hcell j hj
      refine ⟨(List.range l).map B, some ⟨b, off, none⟩, cap, by simp, .inr ⟨b, off, cap, by simp, block_lt_of_cell (hc 0 h0), fun j u hu => ?_⟩⟩
      rw [List.getElem?_map, List.getElem?_map] at hu
      obtain ⟨z, hz, rfl⟩ := Option.map_eq_some_iff.1 hu
      obtain ⟨i, hi, rfl⟩ := Option.map_eq_some_iff.1 hz
      have hj : j < l := by simpa using (List.getElem?_eq_some_iff.1 hi).1
      have hij : i = j := by
        have := (List.getElem?_eq_some_iff.1 hi).2
        simpa using this.symm
      rw [hij, hc j (by omega)]

theorem open_argB {a0 : Option Addr} {len0 cap0 : Nat} {d0 : DataW H} {p0 : List MemPlace} (h0 : DataW.Trod enc Tryd.prog W 0 (fun _ => true) true 39 (.slice a0 len0 cap0) d0 p0) :
    ∃ bs : List Bool, bs.length = len0 ∧ From W (.slice a0 len0 cap0) (bs.map Value.bool) := by
  obtain ⟨fuel, hf⟩ := h0
  obtain ⟨bs, a, cap, e, h⟩ := raw_bools (c := .slice a0 len0 cap0) hf
  injection e with _ e2 _
  exact ⟨bs, e2.symm, h⟩

/-- One deed. -/
theorem raw_qdeed {cs : List Value} (hn : cs.length = 34) (h : DataW.trod enc Tryd.prog W 0 (fun _ => true) true fuel 36 cs = some x) : ∃ d : QDeed, cs = d.cells ∧ d.ok := by
  obtain ⟨ys, m, _, _, _, hyl, hel⟩ := DataW.trod_struct Tryd.underlying36 h
  have hy : ys.length = 3 := by rw [hyl]; rfl
  have h0 : DataW.trod enc Tryd.prog W 0 (fun _ => true) true m 3 ((cs.drop 0).take (Tryd.prog.cellsOf 3)) = ys[0]? := hel 0 _ rfl
  have h1 : DataW.trod enc Tryd.prog W 0 (fun _ => true) true m 3 ((cs.drop 1).take (Tryd.prog.cellsOf 3)) = ys[1]? := hel 1 _ rfl
  have h2 : DataW.trod enc Tryd.prog W 0 (fun _ => true) true m 34 ((cs.drop 2).take (Tryd.prog.cellsOf 34)) = ys[2]? := hel 2 _ rfl
  rw [List.getElem?_eq_getElem (by omega : 0 < ys.length)] at h0
  rw [List.getElem?_eq_getElem (by omega : 1 < ys.length)] at h1
  rw [List.getElem?_eq_getElem (by omega : 2 < ys.length)] at h2
  obtain ⟨t, e2, l2⟩ := raw_row Tryd.underlying34 cellsTg h2
  rw [cellsTg] at e2
  rw [cellsI] at h0 h1
  match cs, hn with
  | c0 :: c1 :: r, hn =>
    simp only [List.drop_zero, List.take_succ_cons, List.take_zero, List.drop_succ_cons] at h0 h1 e2
    obtain ⟨n0, q0, _, w0⟩ := DataW.trod_int Tryd.underlying3 h0
    obtain ⟨n1, q1, _, w1⟩ := DataW.trod_int Tryd.underlying3 h1
    have b0 := bounds_i64 w0
    have b1 := bounds_i64 w1
    injection q0 with q0
    injection q1 with q1
    refine ⟨⟨n0, n1, t⟩, ?_, ⟨l2, b1.1, by show n1 ≤ _; omega, b0.1, by show n0 ≤ _; omega⟩⟩
    rw [List.take_of_length_le (by simp at hn; omega)] at e2
    rw [q0, q1, e2]; rfl
theorem open_qdeeds {a0 : Option Addr} {len0 cap0 : Nat} {d0 : DataW H} {p0 : List MemPlace} (h0 : DataW.Trod enc Tryd.prog W 0 (fun _ => true) true 23 (.slice a0 len0 cap0) d0 p0) :
    ∃ l : List QDeed, l.length = len0 ∧ QDeeds W (.slice a0 len0 cap0) l := by
  obtain ⟨fuel, hf⟩ := h0
  rcases open_slice Tryd.underlying23 hf with ⟨hcs, _⟩ | ⟨a, l, cap, m, n, D, Pl, hcs, _, hl, hm, hmm, _, hx⟩
  · simp [Value.cells] at hcs
    obtain ⟨rfl, rfl, rfl⟩ := hcs
    exact ⟨[], rfl, none, 0, rfl, fun h => by simp at h, fun d h => by cases h⟩
  · simp [Value.cells] at hcs
    obtain ⟨rfl, rfl, rfl⟩ := hcs
    simp only [if_true] at hmm
    rw [cellsQd] at hx
    have each : ∀ i, i < len0 → ∃ d : QDeed, d.ok ∧ ∀ j u, d.cells[j]? = some u → W.cell? ((a.add (i * 34)).add j) = some u := fun i hi => by
      obtain ⟨cs', hc, ht⟩ := hx i (by omega)
      obtain ⟨_, hcl, hat⟩ := World.cells?_some hc
      obtain ⟨d, rfl, hok⟩ := raw_qdeed hcl ht
      refine ⟨d, hok, fun j u hu => ?_⟩
      rw [hat j (by have := (List.getElem?_eq_some_iff.1 hu).1; omega)]
      exact hu
    haveI : Inhabited QDeed := ⟨⟨0, 0, []⟩⟩
    obtain ⟨f, hf⟩ := choose_lt each
    refine ⟨(List.range len0).map f, by simp, some a, cap0, by simp, fun hpos => ?_, fun d hd => ?_⟩
    · have hpos' : 0 < len0 := by simpa using hpos
      obtain ⟨b, off, spot⟩ := a
      have hc0 := (hf 0 hpos').2 0 _ rfl
      have hspot : spot = none := by simpa [Addr.add] using World.cell?_spot hc0
      subst hspot
      have hc1 : W.cell? ⟨b, off, none⟩ = some (.int .i64 (f 0).what) := by simpa [Addr.add] using hc0
      refine ⟨b, off, rfl, block_lt_of_cell hc1, fun i d hd j u hu => ?_⟩
      rw [List.getElem?_map] at hd
      obtain ⟨i', hi', rfl⟩ := Option.map_eq_some_iff.1 hd
      have hlt : i < len0 := by simpa using (List.getElem?_eq_some_iff.1 hi').1
      have hii : i' = i := by
        have := (List.getElem?_eq_some_iff.1 hi').2
        simpa using this.symm
      subst hii
      have := (hf i' hlt).2 j u hu
      rwa [Go.WideShapes.add_plain, Go.WideShapes.add_plain] at this
    · obtain ⟨i, hi, rfl⟩ := List.mem_map.1 hd
      exact (hf i (by simpa using hi)).1
end

/-- Worlds, and arguments, for the witness: the settled world, the table as its initialiser lays it. -/
noncomputable def laidWorld (os : Os) : World :=
  { World.holding Tryd.prog os ⟨#[], #[], []⟩ with heap := (World.holding Tryd.prog os ⟨#[], #[], []⟩).heap.modify 0 fun
      | .cells _ t frozen => .cells (K0.map Hm.V32).toArray t frozen
      | o => o }
end Go.Proofs.YtepbnimheedodaaDoor
