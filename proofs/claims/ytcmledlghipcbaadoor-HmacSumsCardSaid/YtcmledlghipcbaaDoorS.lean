/-
  THE WALKS of the reference's Digits and Times.
-/
import Derived.Test.YtcmledlghipcbaaDoorR
import Derived.Test.YtcmledlghipcbaaDoorN
import Derived.Test.YtcmledlghipcbaaDoorRows
import Derived.WalkSpells
import Derived.WalkLawsBesides
import Derived.BigQuiet
import Derived.Lib.Hide
namespace Go.Proofs.YtcmledlghipcbaaDoor
open Go.RowKit Sha

/-- A number of 64 bits as a cell. -/
def V64 (x : Nat) : Value := .int .u64 x
theorem info64u : (Tryd.prog.info? 47).map (fun i => (i.zero, i.size, i.bytes)) = some (some (.int .u64 0), 1, 8) := by kernel_rfl
theorem at64 {w : World} {b off : Nat} {l : List Nat} (h : Sees w b off (l.map V64)) (i : Nat) (hi : i < l.length) : w.cell? ⟨b, off + i, none⟩ = some (.int .u64 (l.getD i 0 : Nat)) :=
  h.at_ (by rw [List.getElem?_map, List.getElem?_eq_getElem hi]; simp [V64, hi])
theorem cell64 {w : World} {g : Nat} {t : TypeId} {l : List Nat} (h : Row w g t (l.map V64)) (i : Nat) (hi : i < l.length) : w.cell? ⟨g, i, none⟩ = some (.int .u64 (l.getD i 0 : Nat)) := by
  rw [h.cell, List.getElem?_map, List.getElem?_eq_getElem hi]; simp [V64, hi]

set_option maxHeartbeats 400000 in
theorem Digits_any (n : Nat) (hn : n < 18446744073709551616) (w : World) :
    Calls Tryd.prog 23 #[.int .u64 n] w fun e w' => e = .returned (.slice (some ⟨w.heap.size, 0, none⟩) 4 4) ∧ w.alloc (.cells ((digitsN n).map V64).toArray 47) = w' := by
  go_enter Tryd.func23, Tryd.ntmps23
  go_wp2
  go_ret
  exact ⟨rfl, rfl⟩

/-- n zeros. -/
def Z64 (n : Nat) : List Value := List.replicate n (.int .u64 0)
theorem Z64_map (n : Nat) : Z64 n = (List.replicate n 0).map V64 := by rw [Z64, List.map_replicate]; rfl
theorem make64 (n : Nat) (hn : n ≤ 1000) (x : Int) (hx : x = (n : Int)) (w : World) :
    (Instr.makeSlice 54 (.int .i64 x) (.int .i64 x)).run Tryd.prog w = .ok (.slice (some ⟨w.heap.size, 0, none⟩) n n) (w.alloc (.cells (Z64 n).toArray 47)) := by
  obtain ⟨i, hi, hz0, hz1, hz2⟩ := info_parts info64u
  subst hx
  have hr := run_make (P := Tryd.prog) w 54 47 i (.int .u64 0) Tryd.underlying54 hi hz0 .i64 .i64 n n (by omega) (by omega) (by rw [hz2]; omega) (by omega)
  rw [hr, Int.toNat_natCast, hz1, Nat.mul_one]
  have e : madeCells (Value.int .u64 0).cells n = (Z64 n).toArray := by
    apply Array.toList_inj.1
    rw [show (Value.int .u64 0).cells = #[.int .u64 0] from rfl, toList_madeCells_one, Z64]
  rw [e]

theorem sum64 (x y z c : Nat) : IntKind.u64.wrap (IntKind.u64.wrap ((x : Int) + IntKind.u64.wrap ((y : Int) * z)) + c) = (((x + y * z + c) % 18446744073709551616 : Nat) : Int) := by
  rw [IntKind.wrap_u64, IntKind.wrap_u64, IntKind.wrap_u64, ← Int.natCast_mul]
  generalize y * z = q
  omega
theorem div64 (n : Nat) (hn : n < 18446744073709551616) : IntKind.u64.wrap (((n : Nat) : Int).tdiv 65536) = ((n / 65536 : Nat) : Int) := by
  rw [show (65536 : Int) = ((65536 : Nat) : Int) from rfl, ← Int.ofNat_tdiv, IntKind.wrap_u64]
  omega
theorem add64 (x c : Nat) : IntKind.u64.wrap ((x : Int) + c) = (((x + c) % 18446744073709551616 : Nat) : Int) := by
  rw [IntKind.wrap_u64]; omega
theorem mod64 (n : Nat) : ((n : Nat) : Int).tmod 65536 = ((n % 65536 : Nat) : Int) := by
  rw [show (65536 : Int) = ((65536 : Nat) : Int) from rfl, Int.ofNat_tmod]

theorem timesIn_length (a b out : List Nat) (i k : Nat) : (timesIn a b out i k).1.length = out.length := by
  induction k with
  | zero => rfl
  | succ k ih => simp [timesIn, ih]
theorem timesTo_length (a b : List Nat) (i : Nat) : (timesTo a b i).length = a.length + b.length := by
  induction i with
  | zero => simp [timesTo]
  | succ i ih => simp [timesTo, timesIn_length, ih]

set_option maxRecDepth 100000 in
set_option maxHeartbeats 1000000 in
theorem Times_any (ab ao ac bb bo bc : Nat) (a b : List Nat) (ha : a.length ≤ 100) (hb : b.length ≤ 100) (w : World) (hal : ab < w.heap.size) (hbl : bb < w.heap.size) (hA : Sees w ab ao (a.map V64)) (hB : Sees w bb bo (b.map V64)) :
    Calls Tryd.prog 24 #[.slice (some ⟨ab, ao, none⟩) a.length ac, .slice (some ⟨bb, bo, none⟩) b.length bc] w fun e w' =>
      e = .returned (.slice (some ⟨w.heap.size, 0, none⟩) (a.length + b.length) (a.length + b.length)) ∧ Row w' w.heap.size 47 ((timesN a b).map V64) ∧ Below w.heap.size w w' := by
  have hmk := make64 (a.length + b.length) (by omega) ((a.length : Int) + b.length) (by omega) w
  have HA := Lib.hid hA
  have HB := Lib.hid hB
  clear hA hB
  go_enter Tryd.func24, Tryd.ntmps24
  go_wp2
  clear hmk
  go_loopw [6, 7, 8, 9] (fun i _ _ _ wr => ∃ k : Nat, k ≤ a.length ∧ i = .int .i64 k ∧ Row wr w.heap.size 47 ((timesTo a b k).map V64) ∧ Below w.heap.size w wr) (fun i _ _ _ _ => a.length - (intOf i).toNat)
  case atStart =>
    refine ⟨0, by omega, rfl, ?_, (Below.refl _ _).alloc (Nat.le_refl _) _⟩
    rw [timesTo, ← Z64_map]
    exact Row.new w _ _
  case round =>
    obtain ⟨i, hi, rfl, hrow, hbel⟩ := hrel
    by_cases hlt : i < a.length
    · have Hto : Hid (timesTo a b (i + 1) = (timesIn a b (timesTo a b i) i b.length).1.set (i + b.length) (((timesIn a b (timesTo a b i) i b.length).1.getD (i + b.length) 0 + (timesIn a b (timesTo a b i) i b.length).2) % 18446744073709551616)) := rfl
      have Hlen := Lib.hid (timesTo_length a b i)
      generalize timesTo a b i = o at *
      go_wp2
      go_loopw [7, 8, 9] (fun c k _ wr => ∃ j : Nat, j ≤ b.length ∧ k = .int .i64 j ∧ c = .int .u64 ((timesIn a b o i j).2 : Nat) ∧ Row wr w.heap.size 47 ((timesIn a b o i j).1.map V64) ∧ Below w.heap.size w wr) (fun _ k _ _ => b.length - (intOf k).toNat)
      case atStart => exact ⟨0, by omega, rfl, rfl, hrow, hbel⟩
      case round =>
        clear hrow hbel
        obtain ⟨j, hj, rfl, rfl, hrow, hbel⟩ := hrel
        by_cases hlt2 : j < b.length
        · have hc1 := cell64 hrow (i + j) (by rw [timesIn_length, Hlen.out]; omega)
          have hf1 := hrow.free (i + j)
          have hc2 : wr.cell? ⟨ab, ao + i, none⟩ = some (.int .u64 (a.getD i 0 : Nat)) := at64 (HA.out.below hbel hal) i hlt
          have hc3 : wr.cell? ⟨bb, bo + j, none⟩ = some (.int .u64 (b.getD j 0 : Nat)) := at64 (HB.out.below hbel hbl) j hlt2
          have Hst : Hid (timesIn a b o i (j + 1) = ((timesIn a b o i j).1.set (i + j) (((timesIn a b o i j).1.getD (i + j) 0 + a.getD i 0 * b.getD j 0 + (timesIn a b o i j).2) % 18446744073709551616 % 65536), ((timesIn a b o i j).1.getD (i + j) 0 + a.getD i 0 * b.getD j 0 + (timesIn a b o i j).2) % 18446744073709551616 / 65536)) := rfl
          generalize (timesIn a b o i j).2 = c at *
          generalize (timesIn a b o i j).1.getD (i + j) 0 = x at *
          generalize a.getD i 0 = y at *
          generalize b.getD j 0 = z at *
          go_wp2
          go_quiet (fail)
          go_wp2
          rw [sum64]
          have hN : (x + y * z + c) % 18446744073709551616 < 18446744073709551616 := Nat.mod_lt _ (by omega)
          generalize (x + y * z + c) % 18446744073709551616 = N at *
          rw [div64 N hN, mod64]
          go_roundw
          case rel =>
            refine ⟨j + 1, by omega, by go_num, by rw [Hst.out], ?_, (below_drewN hbel nq).setCell (Nat.le_refl _) _⟩
            rw [Hst.out, List.map_set]
            exact (hrow.drewN nq).set _ _
          case measure => simp [intOf]; omega
        · obtain rfl : j = b.length := by omega
          have hc1 := cell64 hrow (i + b.length) (by rw [timesIn_length, Hlen.out]; omega)
          have hf1 := hrow.free (i + b.length)
          generalize (timesIn a b o i b.length).2 = c at *
          generalize (timesIn a b o i b.length).1.getD (i + b.length) 0 = x at *
          go_wp2
          rw [add64]
          go_roundw
          case rel =>
            refine ⟨i + 1, by omega, by go_num, ?_, hbel.setCell (Nat.le_refl _) _⟩
            rw [Hto.out, List.map_set]
            exact hrow.set _ _
          case measure => simp [intOf]; omega
    · obtain rfl : i = a.length := by omega
      go_wp2
      go_ret
      exact ⟨rfl, hrow, hbel⟩
end Go.Proofs.YtcmledlghipcbaaDoor
