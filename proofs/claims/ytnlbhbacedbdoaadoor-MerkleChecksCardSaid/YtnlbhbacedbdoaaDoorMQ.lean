/-
  WHAT THE ARGUMENTS' READING GIVES: bytes, tags, slices of tags and of fours of tags; the table of the cube roots; a world for the witness.
-/
import Derived.Test.YtnlbhbacedbdoaaDoorML
import Derived.WalkKit
import Derived.ProofKit
import Derived.OpenShut
import Derived.ChangeOld
import Derived.Deep.DeepHandedRow
import Derived.Deep.Matrix
import Derived.Lib.LaidTab
namespace Go.Proofs.YtnlbhbacedbdoaaDoor
open Go.ChangeShapes Go.WideShapes Go.ChangeAt Go.RowKit Go.Deep Mk Hm.Sha

set_option maxRecDepth 100000
theorem ownK : ownKnob Tryd.prog.godebug = none := by kernel_rfl
theorem laidOut : laidOutB Tryd.prog = true := by kernel_rfl
theorem gTab : Tryd.prog.globalNamed "padlock/sha256.cubeRoots" = some 0 := by kernel_rfl
theorem gTabType : (Tryd.prog.globals[0]?).map (·.type) = some 97 := by kernel_rfl
theorem cellsT : Tryd.prog.cellsOf 97 = 64 := by kernel_rfl
theorem cellsE : Tryd.prog.cellsOf 63 = 1 := by kernel_rfl
theorem cellsB : Tryd.prog.cellsOf 5 = 1 := by kernel_rfl
theorem cellsF : Tryd.prog.cellsOf 48 = 128 := by kernel_rfl
theorem cellsTg : Tryd.prog.cellsOf 30 = 32 := by kernel_rfl

theorem tab_of {W : World} (h : Lib.TabIs Tryd.prog W "padlock/sha256.cubeRoots" .u32 (K0.map fun x => (x.toNat : Int))) : Hm.Tab W := by
  have hs : Hm.Sees W 0 0 (K0.map Hm.V32) := by
    intro j u hu
    have hj : j < (K0.map fun x => (x.toNat : Int)).length := by
      have := (List.getElem?_eq_some_iff.1 hu).1
      simpa using this
    have hc := h.cell gTab j hj
    rw [Nat.zero_add]
    rw [List.getElem?_map] at hu
    obtain ⟨x, hx, rfl⟩ := Option.map_eq_some_iff.1 hu
    refine hc.trans ?_
    simp [Hm.V32, hx]
  exact ⟨block_lt_of_cell (hs 0 _ rfl), hs⟩

/-- A slice of bytes as the reading gives it. -/
theorem arg_of {W : World} {a : Option Addr} {len cap : Nat} {zs : List Int}
    (h : (a = none ∧ len = 0 ∧ cap = 0 ∧ zs = []) ∨ ∃ x, a = some x ∧ len ≤ cap ∧ cap ≤ maxLen ∧ zs.length = cap ∧ (∀ i, i < zs.length → W.cell? (x.add i) = some (.int .u8 (zs.getD i 0))) ∧ ∀ n ∈ zs, (Lit.int .u8 n).wf = true) :
    ∃ bs : List UInt8, bs.length = len ∧ Arg W (.slice a len cap) bs := by
  rcases h with ⟨rfl, rfl, rfl, rfl⟩ | ⟨x, rfl, hl, hm, hz, hc, hw⟩
  · exact ⟨[], rfl, .inl ⟨none, rfl, rfl⟩⟩
  · rcases Nat.eq_zero_or_pos cap with h0 | h0
    · obtain rfl : len = 0 := by omega
      subst h0
      exact ⟨[], rfl, .inl ⟨_, rfl, rfl⟩⟩
    · obtain ⟨b, off, rfl, hc'⟩ := ints_at hc (by omega)
      have hb : b < W.heap.size := block_lt_of_cell (hc' 0 (by omega))
      refine ⟨(zs.take len).map fun n => UInt8.ofNat n.toNat, by simp; omega, .inr ⟨b, off, cap, by simp; omega, hb, by simp; omega, ?_⟩⟩
      intro j u hu
      rw [List.getElem?_map, List.getElem?_map] at hu
      obtain ⟨x, hx, rfl⟩ := Option.map_eq_some_iff.1 hu
      obtain ⟨z, hz1, rfl⟩ := Option.map_eq_some_iff.1 hx
      rw [List.getElem?_take] at hz1
      split at hz1
      · have hj : j < zs.length := (List.getElem?_eq_some_iff.1 hz1).1
        rw [hc' j hj]
        have hzz : zs.getD j 0 = z := by rw [List.getD_eq_getElem?_getD, hz1]; rfl
        have hbd := bounds_u8 (hw z (List.mem_of_getElem? hz1))
        rw [hzz, V8, toNat_ofNat8 (by omega)]
        congr 2
        omega
      · cases hz1
section
variable {H : Type} {enc : TypeId × Value → H} {W : World}
theorem open_arg {a0 : Option Addr} {len0 cap0 : Nat} {d0 : DataW H} {p0 : List MemPlace}
    (h0 : DataW.Trod enc Tryd.prog W 0 (fun _ => true) true 22 (.slice a0 len0 cap0) d0 p0) : ∃ bs : List UInt8, bs.length = len0 ∧ Arg W (.slice a0 len0 cap0) bs := by
  obtain ⟨fuel, hf⟩ := h0
  rcases open_ints Tryd.underlying22 Tryd.underlying5 cellsB hf with ⟨hcs, _⟩ | ⟨x, l, c, zs, hcs, _, hl, hm, hz, _, hcell, hwz⟩
  · simp [Value.cells] at hcs
    obtain ⟨rfl, rfl, rfl⟩ := hcs
    exact arg_of (.inl ⟨rfl, rfl, rfl, rfl⟩)
  · simp [Value.cells] at hcs
    obtain ⟨rfl, rfl, rfl⟩ := hcs
    exact arg_of (.inr ⟨_, rfl, hl, hm, by simpa using hz, hcell, hwz⟩)

def numOf : Value → UInt8
  | .int _ n => UInt8.ofNat n.toNat
  | _ => 0
/-- The cells of an array of bytes. -/
theorem raw_row {t : TypeId} {n fuel : Nat} {cs : List Value} {x : DataW H × List MemPlace} (ht : Tryd.prog.underlying t = some (.array n 5)) (hc : Tryd.prog.cellsOf t = n)
    (hf : DataW.trod enc Tryd.prog W 0 (fun _ => true) true fuel t cs = some x) : ∃ bs : List UInt8, cs = bs.map V8 ∧ bs.length = n := by
  obtain ⟨ys, m, _, _, hl, hyl, hel⟩ := DataW.trod_array ht hf
  rw [hc] at hl
  refine ⟨cs.map numOf, ?_, by simp [hl]⟩
  rw [List.map_map]
  apply List.ext_getElem?
  intro i
  rcases Nat.lt_or_ge i n with hi | hi
  · have h1 := hel i hi
    rw [cellsB, Nat.mul_one, List.getElem?_eq_getElem (by omega : i < ys.length)] at h1
    obtain ⟨a, ea, _, wa⟩ := DataW.trod_int Tryd.underlying5 h1
    have hb := bounds_u8 wa
    have hx : cs[i]? = some (.int .u8 a) := by
      have h2 := congrArg List.head? ea
      simpa [List.head?_take, List.head?_drop] using h2
    rw [List.getElem?_map, hx]
    simp only [Option.map_some, Function.comp, numOf, V8]
    rw [toNat_ofNat8 (by omega)]
    congr 2
    omega
  · rw [List.getElem?_eq_none (by omega), List.getElem?_eq_none (by simp; omega)]
theorem okWide_row {t : TypeId} {n : Nat} (ht : Tryd.prog.underlying t = some (.array n 5)) (hc : Tryd.prog.cellsOf t = n) {r : Reach} {b0 : Nat} {v : Value} (h : Value.okWide Tryd.prog W r b0 t v) : ∃ xs : List Value, v = .agg xs.toArray ∧ xs.length = n := by
  simp only [Value.okWide, ht] at h
  obtain ⟨cs, h1, h2, _⟩ := h
  exact ⟨cs.toList, by rw [h1], by rw [Array.length_toList, h2, hc]⟩
theorem open_row {t : TypeId} {n : Nat} (ht : Tryd.prog.underlying t = some (.array n 5)) (hc : Tryd.prog.cellsOf t = n) {xs : List Value} {d0 : DataW H} {p0 : List MemPlace}
    (h0 : DataW.Trod enc Tryd.prog W 0 (fun _ => true) true t (.agg xs.toArray) d0 p0) : ∃ bs : List UInt8, Vec n bs xs := by
  obtain ⟨fuel, hf⟩ := h0
  have hf' : DataW.trod enc Tryd.prog W 0 (fun _ => true) true fuel t xs = some (d0, p0) := by simpa [Value.cells] using hf
  obtain ⟨bs, h1, h2⟩ := raw_row ht hc hf'
  exact ⟨bs, h1, h2⟩
theorem open_tags {a0 : Option Addr} {len0 cap0 : Nat} {d0 : DataW H} {p0 : List MemPlace} (h0 : DataW.Trod enc Tryd.prog W 0 (fun _ => true) true 23 (.slice a0 len0 cap0) d0 p0) :
    ∃ l : List Tg, l.length = len0 ∧ Tags W (.slice a0 len0 cap0) l := by
  obtain ⟨fuel, hf⟩ := h0
  rcases open_slice Tryd.underlying23 hf with ⟨hcs, _⟩ | ⟨a, l, cap, m, n, D, Pl, hcs, _, hl, hm, hmm, _, hx⟩
  · simp [Value.cells] at hcs
    obtain ⟨rfl, rfl, rfl⟩ := hcs
    exact ⟨[], rfl, fun t ht => (by cases ht), none, 0, rfl, fun h => by simp at h⟩
  · simp [Value.cells] at hcs
    obtain ⟨rfl, rfl, rfl⟩ := hcs
    simp only [if_true] at hmm
    rw [cellsTg] at hx
    have each : ∀ i, i < len0 → ∃ t : Tg, t.length = 32 ∧ ∀ j u, (t.map V8)[j]? = some u → W.cell? ((a.add (i * 32)).add j) = some u := fun i hi => by
      obtain ⟨cs', hc, ht⟩ := hx i (by omega)
      obtain ⟨_, hcl, hat⟩ := World.cells?_some hc
      obtain ⟨t, rfl, h32⟩ := raw_row Tryd.underlying30 cellsTg ht
      refine ⟨t, h32, fun j u hu => ?_⟩
      rw [hat j (by have := (List.getElem?_eq_some_iff.1 hu).1; omega)]
      exact hu
    obtain ⟨f, hf⟩ := choose_lt each
    refine ⟨(List.range len0).map f, by simp, fun t ht => ?_, some a, cap0, by simp, fun hpos => ?_⟩
    · obtain ⟨i, hi, rfl⟩ := List.mem_map.1 ht
      exact (hf i (by simpa using hi)).1
    · have hpos' : 0 < len0 := by simpa using hpos
      have h320 := (hf 0 hpos').1
      obtain ⟨v0, hv0⟩ : ∃ v, ((f 0).map V8)[0]? = some v := ⟨_, List.getElem?_eq_getElem (by rw [List.length_map]; omega)⟩
      have hc0 := (hf 0 hpos').2 0 v0 hv0
      obtain ⟨b, off, spot⟩ := a
      have hspot : spot = none := by simpa [Addr.add] using World.cell?_spot hc0
      subst hspot
      have hc1 : W.cell? ⟨b, off, none⟩ = some v0 := by simpa [Addr.add] using hc0
      refine ⟨b, off, rfl, block_lt_of_cell hc1, fun i t ht j u hu => ?_⟩
      rw [List.getElem?_map] at ht
      obtain ⟨i', hi', rfl⟩ := Option.map_eq_some_iff.1 ht
      have hlt : i < len0 := by simpa using (List.getElem?_eq_some_iff.1 hi').1
      have hii : i' = i := by
        have := (List.getElem?_eq_some_iff.1 hi').2
        simpa using this.symm
      subst hii
      have := (hf i' hlt).2 j u hu
      rwa [Go.WideShapes.add_plain, Go.WideShapes.add_plain, Nat.mul_comm] at this
/-- The cells of four tags. -/
theorem raw_four {fuel : Nat} {cs : List Value} {x : DataW H × List MemPlace} (h : DataW.trod enc Tryd.prog W 0 (fun _ => true) true fuel 48 cs = some x) :
    ∃ f : List Tg, f.length = 4 ∧ (∀ t ∈ f, t.length = 32) ∧ ∀ (k : Nat) t, f[k]? = some t → (cs.drop (32 * k)).take 32 = t.map V8 := by
  obtain ⟨ys, m, _, _, hl, hyl, hel⟩ := DataW.trod_array Tryd.underlying48 h
  have each : ∀ k, k < 4 → ∃ t : Tg, t.length = 32 ∧ (cs.drop (32 * k)).take 32 = t.map V8 := fun k hk => by
    have h1 := hel k hk
    rw [cellsTg, List.getElem?_eq_getElem (by omega : k < ys.length)] at h1
    obtain ⟨t, e, h32⟩ := raw_row Tryd.underlying30 cellsTg h1
    exact ⟨t, h32, by rw [Nat.mul_comm]; exact e⟩
  obtain ⟨f, hf⟩ := choose_lt each
  refine ⟨(List.range 4).map f, by simp, fun t ht => ?_, fun k t ht => ?_⟩
  · obtain ⟨i, hi, rfl⟩ := List.mem_map.1 ht
    exact (hf i (by simpa using hi)).1
  · rw [List.getElem?_map] at ht
    obtain ⟨i, hi, rfl⟩ := Option.map_eq_some_iff.1 ht
    have hlt : k < 4 := by simpa using (List.getElem?_eq_some_iff.1 hi).1
    have hii : i = k := by
      have := (List.getElem?_eq_some_iff.1 hi).2
      simpa using this.symm
    subst hii
    exact (hf i hlt).2
theorem open_fours {a0 : Option Addr} {len0 cap0 : Nat} {d0 : DataW H} {p0 : List MemPlace} (h0 : DataW.Trod enc Tryd.prog W 0 (fun _ => true) true 36 (.slice a0 len0 cap0) d0 p0) :
    ∃ l : List (List Tg), l.length = len0 ∧ Fours W (.slice a0 len0 cap0) l := by
  obtain ⟨fuel, hf⟩ := h0
  rcases open_slice Tryd.underlying36 hf with ⟨hcs, _⟩ | ⟨a, l, cap, m, n, D, Pl, hcs, _, hl, hm, hmm, _, hx⟩
  · simp [Value.cells] at hcs
    obtain ⟨rfl, rfl, rfl⟩ := hcs
    exact ⟨[], rfl, fun t ht => (by cases ht), none, 0, rfl, fun h => by simp at h⟩
  · simp [Value.cells] at hcs
    obtain ⟨rfl, rfl, rfl⟩ := hcs
    simp only [if_true] at hmm
    rw [cellsF] at hx
    have each : ∀ i, i < len0 → ∃ f : List Tg, f.length = 4 ∧ (∀ t ∈ f, t.length = 32) ∧ ∀ (k : Nat) t, f[k]? = some t → ∀ j u, (t.map V8)[j]? = some u → W.cell? ((a.add (i * 128)).add (32 * k + j)) = some u := fun i hi => by
      obtain ⟨cs', hc, ht⟩ := hx i (by omega)
      obtain ⟨_, hcl, hat⟩ := World.cells?_some hc
      obtain ⟨f, h4, h32, hr⟩ := raw_four ht
      refine ⟨f, h4, h32, fun k t hk j u hu => ?_⟩
      have hk4 : k < 4 := by have := (List.getElem?_eq_some_iff.1 hk).1; omega
      have hj : j < 32 := by
        have h1 := (List.getElem?_eq_some_iff.1 hu).1
        rw [List.length_map, h32 t (List.mem_of_getElem? hk)] at h1
        exact h1
      rw [hat (32 * k + j) (by omega)]
      rw [← hr k t hk, List.getElem?_take, if_pos hj, List.getElem?_drop] at hu
      exact hu
    obtain ⟨f, hf⟩ := choose_lt each
    refine ⟨(List.range len0).map f, by simp, fun t ht => ?_, some a, cap0, by simp, fun hpos => ?_⟩
    · obtain ⟨i, hi, rfl⟩ := List.mem_map.1 ht
      exact ⟨(hf i (by simpa using hi)).1, (hf i (by simpa using hi)).2.1⟩
    · have hpos' : 0 < len0 := by simpa using hpos
      obtain ⟨h40, h320, hr0⟩ := hf 0 hpos'
      obtain ⟨t0, ht0⟩ : ∃ t, (f 0)[0]? = some t := ⟨_, List.getElem?_eq_getElem (by omega)⟩
      have hl0 := h320 t0 (List.mem_of_getElem? ht0)
      obtain ⟨v0, hv0⟩ : ∃ v, (t0.map V8)[0]? = some v := ⟨_, List.getElem?_eq_getElem (by rw [List.length_map]; omega)⟩
      have hc0 := hr0 0 t0 ht0 0 v0 hv0
      obtain ⟨b, off, spot⟩ := a
      have hspot : spot = none := by simpa [Addr.add] using World.cell?_spot hc0
      subst hspot
      have hc1 : W.cell? ⟨b, off, none⟩ = some v0 := by simpa [Addr.add] using hc0
      refine ⟨b, off, rfl, block_lt_of_cell hc1, fun i t ht k tg hk j u hu => ?_⟩
      rw [List.getElem?_map] at ht
      obtain ⟨i', hi', rfl⟩ := Option.map_eq_some_iff.1 ht
      have hlt : i < len0 := by simpa using (List.getElem?_eq_some_iff.1 hi').1
      have hii : i' = i := by
        have := (List.getElem?_eq_some_iff.1 hi').2
        simpa using this.symm
      subst hii
      have := (hf i' hlt).2.2 k tg hk j u hu
      rwa [Go.WideShapes.add_plain, Go.WideShapes.add_plain, Nat.mul_comm, ← Nat.add_assoc] at this
end

/-- Worlds, and arguments, for the witness: the settled world, the table as its initialiser lays it. -/
noncomputable def laidWorld (os : Os) : World :=
  { World.holding Tryd.prog os ⟨#[], #[], []⟩ with heap := (World.holding Tryd.prog os ⟨#[], #[], []⟩).heap.modify 0 fun
      | .cells _ t frozen => .cells (K0.map Hm.V32).toArray t frozen
      | o => o }
end Go.Proofs.YtnlbhbacedbdoaaDoor
