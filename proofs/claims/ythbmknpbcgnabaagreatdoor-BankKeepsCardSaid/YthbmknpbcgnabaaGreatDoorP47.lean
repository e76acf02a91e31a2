/-
  OF THE WALK: WG, WI.
-/
import Derived.Deep.Fields
import Derived.Deep.Grids
import Derived.Test.YthbmknpbcgnabaaGreatDoorP43
import Derived.Test.YthbmknpbcgnabaaGreatDoorP46
import Derived.WideKeyArr2
namespace Go.Proofs.YthbmknpbcgnabaaGreatDoor
open Go.RowKit Aes Ctr Sl Dsk
set_option maxRecDepth 100000 in
set_option maxHeartbeats 8000000 in
theorem JKeeps_any {w : World} {vs : Value} {sec : List UInt8} {z : Int} {A2 : Option Addr} {m c2 : Nat} {ll : List (List (List UInt8))} {st : Nat} {A4 : Option Addr} {nk c4 : Nat} {bs : List Bool}
    (hs : Arg w vs sec) (hP : Parts3 w A2 m ll) (hst : st < 256) (hk : From w (.slice A4 nk c4) (bs.map Value.bool)) (hnk : bs.length = nk) (hT : Hm.Tab w) :
    Calls Tryz.prog 5 #[vs, .int .i64 z, .slice A2 m c2, .int .u8 (st : Int), .slice A4 nk c4] w fun e w' => e = .returned (.bool true) ∧ Below w.heap.size w w' := by
  by_cases hok : sec.length ≤ 100 ∧ 8 ≤ z ∧ z ≤ 20 ∧ m ≤ 6 ∧ nk ≤ 100
  · obtain ⟨n, rfl⟩ : ∃ n : Nat, z = (n : Int) := ⟨z.toNat, by omega⟩
    exact JKeeps_short hs hok.1 ⟨by omega, by omega⟩ hP hok.2.2.2.1 hst hk hnk hok.2.2.2.2 hT
  have HK := Lib.hid (Jknows_any w hT)
  obtain ⟨A0, c0, rfl⟩ := hs.form
  obtain ⟨sl, hsl⟩ : ∃ x, x = sec.length := ⟨_, rfl⟩
  rw [← hsl] at hok ⊢
  clear hs hP hst hk hnk hT hsl
  rcases Nat.lt_or_ge 100 sl with g1 | q1
  · clear hok
    go_enter Tryz.func5, Tryz.ntmps5
    go_wp2_with fail
    refine HK.out.mono ?_
    rintro e w1 ⟨rfl, hb⟩
    go_wp2
    go_ret
    exact ⟨rfl, hb⟩
  rcases Int.lt_or_le z 8 with g2 | q2
  · clear hok
    go_enter Tryz.func5, Tryz.ntmps5
    go_wp2_with fail
    refine HK.out.mono ?_
    rintro e w1 ⟨rfl, hb⟩
    go_wp2
    go_ret
    exact ⟨rfl, hb⟩
  rcases Int.lt_or_le 20 z with g3 | q3
  · clear hok
    go_enter Tryz.func5, Tryz.ntmps5
    go_wp2_with fail
    refine HK.out.mono ?_
    rintro e w1 ⟨rfl, hb⟩
    go_wp2
    go_ret
    exact ⟨rfl, hb⟩
  rcases Nat.lt_or_ge 6 m with g4 | q4
  · clear hok
    go_enter Tryz.func5, Tryz.ntmps5
    go_wp2_with fail
    refine HK.out.mono ?_
    rintro e w1 ⟨rfl, hb⟩
    go_wp2
    go_ret
    exact ⟨rfl, hb⟩
  have g5 : 100 < nk := by omega
  clear hok
  go_enter Tryz.func5, Tryz.ntmps5
  go_wp2_with fail
  refine HK.out.mono ?_
  rintro e w1 ⟨rfl, hb⟩
  go_wp2
  go_ret
  exact ⟨rfl, hb⟩
end Go.Proofs.YthbmknpbcgnabaaGreatDoor
namespace Go.Proofs.YthbmknpbcgnabaaGreatDoor
open Go.ChangeShapes Go.WideShapes Go.ChangeAt Go.RowKit Go.Deep Aes Ctr Sl
set_option maxRecDepth 100000
theorem cellsBo : Tryz.prog.cellsOf 4 = 1 := by kernel_rfl
section
variable {H : Type} {enc : TypeId × Value → H} {W : World} {fuel : Nat} {c : Value} {x : DataW H × List MemPlace}
theorem raw_bools (h : DataW.trod enc Tryz.prog W 0 (fun _ => true) true fuel 49 [c] = some x) : ∃ (bs : List Bool) (a : Option Addr) (cap : Nat), c = .slice a bs.length cap ∧ From W c (bs.map Value.bool) := by
  rcases open_bools Tryz.underlying49 Tryz.underlying4 cellsBo h with ⟨hcs, _⟩ | ⟨a, l, cap, B, hcs, _, hl, hm, _, hcell⟩
  · obtain rfl : c = .slice none 0 0 := by simpa using hcs
    exact ⟨[], none, 0, rfl, .inl ⟨none, rfl, rfl⟩⟩
  · obtain rfl : c = .slice (some a) l cap := by simpa using hcs
    rcases Nat.eq_zero_or_pos cap with h0 | h0
    · obtain rfl : l = 0 := by omega
      subst h0
      exact ⟨[], _, _, rfl, .inl ⟨_, rfl, rfl⟩⟩
    · obtain ⟨b, off, spot⟩ := a
      have hspot : spot = none := by simpa [Addr.add] using World.cell?_spot (hcell 0 (by omega))
      subst hspot
      have hc : ∀ j, j < cap → W.cell? ⟨b, off + j, none⟩ = some (.bool (B j)) := fun j hj => by
        rw [← Go.WideShapes.add_plain]; exact hcell j hj
      refine ⟨(List.range l).map B, some ⟨b, off, none⟩, cap, by simp, .inr ⟨b, off, cap, by simp, block_lt_of_cell (hc 0 h0), fun j u hu => ?_⟩⟩
      rw [List.getElem?_map, List.getElem?_map] at hu
      obtain ⟨z, hz, rfl⟩ := Option.map_eq_some_iff.1 hu
      obtain ⟨i, hi, rfl⟩ := Option.map_eq_some_iff.1 hz
      have hj : j < l := by simpa using (List.getElem?_eq_some_iff.1 hi).1
      have hij : i = j := by
        have := (List.getElem?_eq_some_iff.1 hi).2
        simpa using this.symm
      rw [hij, hc j (by omega)]
theorem open_argB {a0 : Option Addr} {len0 cap0 : Nat} {d0 : DataW H} {p0 : List MemPlace} (h0 : DataW.Trod enc Tryz.prog W 0 (fun _ => true) true 49 (.slice a0 len0 cap0) d0 p0) :
    ∃ bs : List Bool, bs.length = len0 ∧ From W (.slice a0 len0 cap0) (bs.map Value.bool) := by
  obtain ⟨fuel, hf⟩ := h0
  obtain ⟨bs, a, cap, e, h⟩ := raw_bools (c := .slice a0 len0 cap0) hf
  injection e with _ e2 _
  exact ⟨bs, e2.symm, h⟩
theorem open_parts3 {a0 : Option Addr} {len0 cap0 : Nat} {d0 : DataW H} {p0 : List MemPlace} (h0 : DataW.Trod enc Tryz.prog W 0 (fun _ => true) true 78 (.slice a0 len0 cap0) d0 p0) :
    ∃ ll : List (List (List UInt8)), ll.length = len0 ∧ Parts3 W a0 len0 ll := by
  obtain ⟨fuel, hf⟩ := h0
  rcases open_slice1 Tryz.underlying78 cellsPs hf with ⟨hcs, _⟩ | ⟨a, l, c, m, n, V, D, Pl, hcs, _, hl, hm, hmm, _, hx⟩
  · simp [Value.cells] at hcs
    obtain ⟨rfl, rfl, rfl⟩ := hcs
    exact ⟨[], rfl, rfl, fun h => absurd h (by omega)⟩
  · simp [Value.cells] at hcs
    obtain ⟨rfl, rfl, rfl⟩ := hcs
    have hm2 : len0 ≤ m := by rw [hmm]; split <;> omega
    have each : ∀ r, r < len0 → ∃ ps : List (List UInt8), ∃ (A : Option Addr) (cap : Nat), V r = .slice A ps.length cap ∧ PartsOn W (fun k => k < W.heap.size) (V r) ps := fun r hr => raw_parts (hx r (by omega)).2
    obtain ⟨f, hff⟩ := choose_lt each
    refine ⟨(List.range len0).map f, by simp, by simp, fun hpos => ?_⟩
    obtain ⟨b, off, spot⟩ := a
    have hc0 := (hx 0 (by omega)).1
    have hspot : spot = none := by simpa [Addr.add] using World.cell?_spot hc0
    subst hspot
    have hcj : ∀ j, j < len0 → W.cell? ⟨b, off + j, none⟩ = some (V j) := fun j hj => by
      rw [← Go.WideShapes.add_plain]; exact (hx j (by omega)).1
    refine ⟨b, off, rfl, block_lt_of_cell (hcj 0 hpos), fun i hi => ?_⟩
    have e : ((List.range len0).map f).getD i [] = f i := by
      rw [List.getD_eq_getElem?_getD, List.getElem?_map, List.getElem?_range hi]; rfl
    rw [e]
    obtain ⟨A, cap, hV, hP⟩ := hff i hi
    exact ⟨A, cap, hV ▸ hcj i hi, hV ▸ hP⟩
end
end Go.Proofs.YthbmknpbcgnabaaGreatDoor
