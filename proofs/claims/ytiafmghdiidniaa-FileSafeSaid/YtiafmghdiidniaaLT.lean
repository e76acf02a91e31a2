/-
  WHAT THE READING OF AN ARGUMENT GIVES: a geometry, deeds (layer 14), rows of 64 bytes.
-/
import Derived.Test.YtiafmghdiidniaaLQ
import Derived.Test.YtiafmghdiidniaaIN
import Derived.Deep.Fields
import Derived.Deep.Grids
set_option maxRecDepth 100000
namespace Go.Proofs.Ytiafmghdiidniaa
open Go.ChangeShapes Go.WideShapes Go.ChangeAt Go.RowKit Go.Deep Cdc Inn Fil

theorem cellsGeo : Try.prog.cellsOf 23 = 2 := by kernel_rfl
theorem cellsFd : Try.prog.cellsOf 43 = 5 := by kernel_rfl
theorem cellsBsF : Try.prog.cellsOf 41 = 1 := by kernel_rfl
theorem cellsA64 : Try.prog.cellsOf 62 = 64 := by kernel_rfl
theorem okWide_geo {W : World} {r : Reach} {b0 : Nat} {v : Value} (h : Value.okWide Try.prog W r b0 23 v) : ∃ xs : Array Value, v = .agg xs ∧ xs.size = 2 := by
  simp only [Value.okWide, Try.underlying23] at h
  obtain ⟨cs, h1, h2, _⟩ := h
  exact ⟨cs, h1, by rw [h2, cellsGeo]⟩
def numOfF : Value → UInt8
  | .int _ n => UInt8.ofNat n.toNat
  | _ => 0
section
variable {H : Type} {enc : TypeId × Value → H} {W : World}
theorem open_geo {xs : Array Value} (hn : xs.size = 2) {d0 : DataW H} {p0 : List MemPlace} (h0 : DataW.Trod enc Try.prog W 0 (fun _ => true) true 23 (.agg xs) d0 p0) : ∃ g : Geo, xs = #[.int .i64 g.n, .int .i64 g.k] ∧ geoIn g := by
  obtain ⟨fuel, hf⟩ := h0
  have hf' : DataW.trod enc Try.prog W 0 (fun _ => true) true fuel 23 xs.toList = some (d0, p0) := by simpa [Value.cells] using hf
  obtain ⟨ys, m, _, _, _, hyl, hel⟩ := DataW.trod_struct Try.underlying23 hf'
  obtain ⟨cs⟩ := xs
  match cs, hn, ys, hyl with
  | [c0, c1], _, [y0, y1], _ =>
    have f0 : DataW.trod enc Try.prog W 0 (fun _ => true) true m 3 [c0] = some y0 := by have := hel 0 _ rfl; simpa [cellsIn1] using this
    have f1 : DataW.trod enc Try.prog W 0 (fun _ => true) true m 3 [c1] = some y1 := by have := hel 1 _ rfl; simpa [cellsIn1] using this
    obtain ⟨z0, rfl, w0⟩ := raw_int f0
    obtain ⟨z1, rfl, w1⟩ := raw_int f1
    exact ⟨⟨z0, z1⟩, rfl, w0, w1⟩
variable {fuel : Nat} {c : Value} {x : DataW H × List MemPlace}
theorem raw_bytesF (h : DataW.trod enc Try.prog W 0 (fun _ => true) true fuel 41 [c] = some x) : ∃ bs : List UInt8, Arg W c bs := by
  rcases open_ints Try.underlying41 Try.underlying5 cellsB h with ⟨hcs, _⟩ | ⟨a, l, cap, zs, hcs, _, hl, hm, hz, _, hcell, hwz⟩
  · obtain rfl : c = .slice none 0 0 := by simpa using hcs
    exact ⟨[], .inl ⟨none, rfl, rfl⟩⟩
  · obtain rfl : c = .slice (some a) l cap := by simpa using hcs
    simp only [if_true] at hz
    rcases Nat.eq_zero_or_pos cap with h0 | h0
    · obtain rfl : l = 0 := by omega
      subst h0
      exact ⟨[], .inl ⟨_, rfl, rfl⟩⟩
    · obtain ⟨b, off, rfl, hc'⟩ := ints_at hcell (by omega)
      have hb : b < W.heap.size := block_lt_of_cell (hc' 0 (by omega))
      refine ⟨(zs.take l).map (fun z => UInt8.ofNat z.toNat), .inr ⟨b, off, cap, by simp; omega, hb, by simp; omega, fun j u hu => ?_⟩⟩
      rw [List.getElem?_map, List.getElem?_map] at hu
      obtain ⟨y, hy, rfl⟩ := Option.map_eq_some_iff.1 hu
      obtain ⟨z, hz1, rfl⟩ := Option.map_eq_some_iff.1 hy
      rw [List.getElem?_take] at hz1
      split at hz1
      · have hj : j < zs.length := (List.getElem?_eq_some_iff.1 hz1).1
        have hzz : zs.getD j 0 = z := by rw [List.getD_eq_getElem?_getD, hz1]; rfl
        have hbz := bounds_u8 (hwz z (List.mem_of_getElem? hz1))
        rw [hc' j hj, hzz]
        unfold V8
        rw [toNat_ofNat8 (by omega)]
        congr 2
        omega
      · cases hz1
/-- One deed. -/
theorem raw_fdeed {cs : List Value} (h : DataW.trod enc Try.prog W 0 (fun _ => true) true fuel 43 cs = some x) : ∃ d : FDeed, cs = d.cells ∧ d.ok W := by
  obtain ⟨xs, n, _, _, hlen, hxl, hf⟩ := DataW.trod_struct Try.underlying43 h
  rw [cellsFd] at hlen
  match cs, xs, hlen, hxl with
  | [c0, c1, c2, c3, c4], [x0, x1, x2, x3, x4], _, _ =>
    have f0 : DataW.trod enc Try.prog W 0 (fun _ => true) true n 3 [c0] = some x0 := by have := hf 0 _ rfl; simpa [cellsIn1] using this
    have f1 : DataW.trod enc Try.prog W 0 (fun _ => true) true n 3 [c1] = some x1 := by have := hf 1 _ rfl; simpa [cellsIn1] using this
    have f2 : DataW.trod enc Try.prog W 0 (fun _ => true) true n 3 [c2] = some x2 := by have := hf 2 _ rfl; simpa [cellsIn1] using this
    have f3 : DataW.trod enc Try.prog W 0 (fun _ => true) true n 3 [c3] = some x3 := by have := hf 3 _ rfl; simpa [cellsIn1] using this
    have f4 : DataW.trod enc Try.prog W 0 (fun _ => true) true n 41 [c4] = some x4 := by have := hf 4 _ rfl; simpa [cellsBsF] using this
    obtain ⟨z0, rfl, w0⟩ := raw_int f0
    obtain ⟨z1, rfl, w1⟩ := raw_int f1
    obtain ⟨z2, rfl, w2⟩ := raw_int f2
    obtain ⟨z3, rfl, w3⟩ := raw_int f3
    obtain ⟨bs, hb⟩ := raw_bytesF f4
    exact ⟨⟨z0, z1, z2, z3, c4, bs⟩, rfl, hb, w0, w1, w2, w3⟩
theorem open_fdeeds {a0 : Option Addr} {len0 cap0 : Nat} {d0 : DataW H} {p0 : List MemPlace} (h0 : DataW.Trod enc Try.prog W 0 (fun _ => true) true 24 (.slice a0 len0 cap0) d0 p0) :
    ∃ l : List FDeed, l.length = len0 ∧ FDeeds W (.slice a0 len0 cap0) l := by
  obtain ⟨fuel, hf⟩ := h0
  rcases open_slice Try.underlying24 hf with ⟨hcs, _⟩ | ⟨a, l, cap, m, n, D, Pl, hcs, _, hl, hm, hmm, _, hx⟩
  · simp [Value.cells] at hcs
    obtain ⟨rfl, rfl, rfl⟩ := hcs
    exact ⟨[], rfl, none, 0, rfl, fun h => by simp at h, fun d h => by cases h⟩
  · simp [Value.cells] at hcs
    obtain ⟨rfl, rfl, rfl⟩ := hcs
    simp only [if_true] at hmm
    rw [cellsFd] at hx
    have each : ∀ i, i < len0 → ∃ d : FDeed, d.ok W ∧ ∀ j u, d.cells[j]? = some u → W.cell? ((a.add (i * 5)).add j) = some u := fun i hi => by
      obtain ⟨cs', hc, ht⟩ := hx i (by omega)
      obtain ⟨_, hcl, hat⟩ := World.cells?_some hc
      obtain ⟨d, rfl, hok⟩ := raw_fdeed ht
      refine ⟨d, hok, fun j u hu => ?_⟩
      rw [hat j (by have := (List.getElem?_eq_some_iff.1 hu).1; omega)]
      exact hu
    haveI : Inhabited FDeed := ⟨⟨0, 0, 0, 0, .bool false, []⟩⟩
    obtain ⟨f, hf⟩ := choose_lt each
    refine ⟨(List.range len0).map f, by simp, some a, cap0, by simp, fun hpos => ?_, fun d hd => ?_⟩
    · have hpos' : 0 < len0 := by simpa using hpos
      obtain ⟨b, off, spot⟩ := a
      have hc0 := (hf 0 hpos').2 0 _ rfl
      have hspot : spot = none := by simpa [Addr.add] using World.cell?_spot hc0
      subst hspot
      have hc1 : W.cell? ⟨b, off, none⟩ = some (.int .i64 (f 0).what) := by simpa [Addr.add] using hc0
      refine ⟨b, off, rfl, block_lt_of_cell hc1, fun i d hd j u hu => ?_⟩
      rw [List.getElem?_map] at hd
      obtain ⟨i', hi', rfl⟩ := Option.map_eq_some_iff.1 hd
      have hlt : i < len0 := by simpa using (List.getElem?_eq_some_iff.1 hi').1
      have hii : i' = i := by
        have := (List.getElem?_eq_some_iff.1 hi').2
        simpa using this.symm
      subst hii
      have := (hf i' hlt).2 j u hu
      rwa [Go.WideShapes.add_plain, Go.WideShapes.add_plain] at this
    · obtain ⟨i, hi, rfl⟩ := List.mem_map.1 hd
      exact (hf i (by simpa using hi)).1
/-- The cells of 64 bytes. -/
theorem raw_a64 {cs : List Value} (hf : DataW.trod enc Try.prog W 0 (fun _ => true) true fuel 62 cs = some x) : ∃ bs : List UInt8, cs = bs.map V8 ∧ bs.length = 64 := by
  obtain ⟨ys, m, _, _, hl, hyl, hel⟩ := DataW.trod_array Try.underlying62 hf
  rw [cellsA64] at hl
  refine ⟨cs.map numOfF, ?_, by simp [hl]⟩
  rw [List.map_map]
  apply List.ext_getElem?
  intro i
  rcases Nat.lt_or_ge i 64 with hi | hi
  · have h1 := hel i hi
    rw [cellsB, Nat.mul_one, List.getElem?_eq_getElem (by omega : i < ys.length)] at h1
    obtain ⟨a, ea, _, wa⟩ := DataW.trod_int Try.underlying5 h1
    have hb := bounds_u8 wa
    have hx : cs[i]? = some (.int .u8 a) := by
      have h2 := congrArg List.head? ea
      simpa [List.head?_take, List.head?_drop] using h2
    rw [List.getElem?_map, hx]
    simp only [Option.map_some, Function.comp, numOfF, V8]
    rw [toNat_ofNat8 (by omega)]
    congr 2
    omega
  · rw [List.getElem?_eq_none (by omega), List.getElem?_eq_none (by simp; omega)]
theorem open_a64s {a0 : Option Addr} {len0 cap0 : Nat} {d0 : DataW H} {p0 : List MemPlace} (h0 : DataW.Trod enc Try.prog W 0 (fun _ => true) true 60 (.slice a0 len0 cap0) d0 p0) :
    ∃ l : List (List UInt8), l.length = len0 ∧ ArrsAt W (.slice a0 len0 cap0) l := by
  obtain ⟨fuel, hf⟩ := h0
  rcases open_slice Try.underlying60 hf with ⟨hcs, _⟩ | ⟨a, l, cap, m, n, D, Pl, hcs, _, hl, hm, hmm, _, hx⟩
  · simp [Value.cells] at hcs
    obtain ⟨rfl, rfl, rfl⟩ := hcs
    exact ⟨[], rfl, none, 0, rfl, fun r hr => (by cases hr), fun h => by simp at h⟩
  · simp [Value.cells] at hcs
    obtain ⟨rfl, rfl, rfl⟩ := hcs
    simp only [if_true] at hmm
    rw [cellsA64] at hx
    have each : ∀ i, i < len0 → ∃ t : List UInt8, t.length = 64 ∧ ∀ j u, (t.map V8)[j]? = some u → W.cell? ((a.add (i * 64)).add j) = some u := fun i hi => by
      obtain ⟨cs', hc, ht⟩ := hx i (by omega)
      obtain ⟨_, hcl, hat⟩ := World.cells?_some hc
      obtain ⟨t, rfl, h32⟩ := raw_a64 ht
      refine ⟨t, h32, fun j u hu => ?_⟩
      rw [hat j (by have := (List.getElem?_eq_some_iff.1 hu).1; omega)]
      exact hu
    obtain ⟨f, hf⟩ := choose_lt each
    have h64 : ∀ r ∈ (List.range len0).map f, r.length = 64 := fun r hr => by
      obtain ⟨i, hi, rfl⟩ := List.mem_map.1 hr
      exact (hf i (by simpa using hi)).1
    refine ⟨(List.range len0).map f, by simp, some a, cap0, by simp, h64, fun hpos => ?_⟩
    have hpos' : 0 < len0 := by simpa using hpos
    have h320 := (hf 0 hpos').1
    obtain ⟨v0, hv0⟩ : ∃ v, ((f 0).map V8)[0]? = some v := ⟨_, List.getElem?_eq_getElem (by rw [List.length_map]; omega)⟩
    have hc0 := (hf 0 hpos').2 0 v0 hv0
    obtain ⟨b, off, spot⟩ := a
    have hspot : spot = none := by simpa [Addr.add] using World.cell?_spot hc0
    subst hspot
    have hc1 : W.cell? ⟨b, off, none⟩ = some v0 := by simpa [Addr.add] using hc0
    refine ⟨b, off, rfl, block_lt_of_cell hc1, fun j u hu => ?_⟩
    have hfl : ∀ rows : List (List UInt8), (∀ r ∈ rows, r.length = 64) → rows.flatten.length = 64 * rows.length := fun rows => by
      induction rows with
      | nil => intro _; rfl
      | cons r l ih => intro h; rw [List.flatten_cons, List.length_append, h r (by simp), ih (fun q hq => h q (by simp [hq])), List.length_cons]; omega
    have hj : j < 64 * len0 := by
      have := (List.getElem?_eq_some_iff.1 hu).1
      rw [List.length_map, hfl _ h64] at this
      simpa using this
    obtain ⟨i, q, rfl, hq⟩ : ∃ i q, j = 64 * i + q ∧ q < 64 := ⟨j / 64, j % 64, by omega, by omega⟩
    have hi : i < len0 := by omega
    have hp := flat_piece _ h64 i (by simpa using hi)
    have e1 : ((List.range len0).map f).getD i [] = f i := by rw [List.getD_eq_getElem?_getD, List.getElem?_map, List.getElem?_range hi]; rfl
    rw [e1] at hp
    have hu' : ((f i).map V8)[q]? = some u := by
      rw [← hp, List.getElem?_map, List.getElem?_take, if_pos hq, List.getElem?_drop, ← List.getElem?_map]
      exact hu
    have := (hf i hi).2 q u hu'
    rwa [Go.WideShapes.add_plain, Go.WideShapes.add_plain, Nat.add_assoc, Nat.mul_comm i 64] at this
end
end Go.Proofs.Ytiafmghdiidniaa
