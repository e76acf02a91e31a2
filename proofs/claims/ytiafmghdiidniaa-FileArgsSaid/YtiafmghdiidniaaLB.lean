/-
  2 texts in one (LA, LB): each says at its own head what it holds.
-/
import Derived.Test.YtiafmghdiidniaaIBA

section
/-
  PLAIN (no program): geometries, and files as bytes (the document's answer for layer 14).
-/
namespace Go.Proofs.Ytiafmghdiidniaa
open Cdc
namespace Fil
open Inn

/-- A geometry: its blocks, its inodes. -/
structure Geo where
  n : Int
  k : Int
deriving DecidableEq
/-- The first block of files. -/
def gfirst (g : Geo) : Nat := 1 + ((g.k + 7) / 8).toNat
def gmay (g : Geo) : Bool := decide (8 ≤ g.n ∧ g.n ≤ 128 ∧ 2 ≤ g.k ∧ g.k ≤ 32 ∧ (gfirst g : Int) < g.n)
theorem gmay_iff {g : Geo} : gmay g = true ↔ 8 ≤ g.n ∧ g.n ≤ 128 ∧ 2 ≤ g.k ∧ g.k ≤ 32 ∧ (gfirst g : Int) < g.n := by simp [gmay]
theorem gfirst_le {g : Geo} (h : g.k ≤ 32) : gfirst g ≤ 5 := by unfold gfirst; omega
theorem gfirst_pos (g : Geo) : 1 ≤ gfirst g := by unfold gfirst; omega

/-- How many blocks all files need. -/
def needs (fs : List (List UInt8)) : Nat := (fs.map fun s => need s.length).sum
theorem needs_append (a b : List (List UInt8)) : needs (a ++ b) = needs a + needs b := by simp [needs]
theorem needs_snoc (a : List (List UInt8)) (s : List UInt8) : needs (a ++ [s]) = needs a + need s.length := by rw [needs_append]; simp [needs]
theorem need_le {z : Int} (h : z ≤ 2304) : need z ≤ 37 := by
  have := data_le h
  unfold need; split <;> omega
/-- How many blocks are left. -/
def gleft (g : Geo) (fs : List (List UInt8)) : Int := g.n - gfirst g - needs fs

/-- Bytes, as many as that: zeros behind. -/
def sized (s : List UInt8) (n : Nat) : List UInt8 := s.take n ++ List.replicate (n - s.length) 0
theorem sized_length (s : List UInt8) (n : Nat) : (sized s n).length = n := by simp [sized]; omega
theorem sized_short {s : List UInt8} {n : Nat} (h : n ≤ s.length) : sized s n = s.take n := by
  rw [sized, show n - s.length = 0 by omega, List.replicate_zero, List.append_nil]
theorem sized_long {s : List UInt8} {n : Nat} (h : s.length ≤ n) : sized s n = s ++ List.replicate (n - s.length) 0 := by
  rw [sized, List.take_of_length_le h]
/-- Bytes from off on, n at most. -/
def piece (s : List UInt8) (off n : Int) : List UInt8 := (s.drop off.toNat).take n.toNat
/-- A file's bytes with b written at off. -/
def wrote (s : List UInt8) (off : Nat) (b : List UInt8) : List UInt8 :=
  let z := sized s (max (off + b.length) s.length)
  z.take off ++ b ++ z.drop (off + b.length)

/-- What a resize tells, and does. -/
def resizeE (g : Geo) (fs : List (List UInt8)) (i : Nat) (z : Int) : Int :=
  if z < 0 then 1 else if 2304 < z then 9 else if gleft g fs < (need z : Int) - need (fs.getD i []).length then 7 else 0
def resizeF (fs : List (List UInt8)) (i : Nat) (z : Int) : List (List UInt8) := fs.set i (sized (fs.getD i []) z.toNat)
/-- Where a write ends the file. -/
def endOf (fs : List (List UInt8)) (i : Nat) (off : Int) (b : List UInt8) : Int := max (off + b.length) (fs.getD i []).length
/-- What a write tells, and does. -/
def writeE (g : Geo) (fs : List (List UInt8)) (i : Nat) (off : Int) (b : List UInt8) : Int :=
  if off < 0 then 1 else if b = [] then 0 else if 2304 < off ∨ 2304 < off + b.length then 9 else resizeE g fs i (endOf fs i off b)
def writeF (fs : List (List UInt8)) (i : Nat) (off : Int) (b : List UInt8) : List (List UInt8) :=
  if b = [] then fs else fs.set i (wrote (fs.getD i []) off.toNat b)
end Fil
end Go.Proofs.Ytiafmghdiidniaa
end

section
/-
  THE WALKS of the reference's First, of the law's own pick.
-/
namespace Go.Proofs.Ytiafmghdiidniaa
open Go.RowKit Cdc Inn Fil

/-- A geometry's cells. -/
def geoC (g : Geo) : Array Value := #[.int .i64 g.n, .int .i64 g.k]

set_option maxRecDepth 100000 in
set_option maxHeartbeats 400000 in
theorem RFiFirst_any (g : Geo) (h0 : 0 ≤ g.k) (hk : g.k ≤ 32) (w : World) :
    Calls Try.prog 11 #[.agg #[.int .i64 g.n, .int .i64 g.k]] w fun e w' => e = .returned (.int .i64 (gfirst g)) ∧ Below w.heap.size w w' := by
  obtain ⟨D, hD⟩ : ∃ D, D = ((g.k + 7) / 8).toNat := ⟨_, rfl⟩
  have hF : Hid (gfirst g = 1 + D) := by show _ = _; rw [hD]; rfl
  obtain ⟨F, hFF⟩ : ∃ F, F = gfirst g := ⟨_, rfl⟩
  rw [← hFF] at hF ⊢
  have hD1 : g.k ≤ 8 * (D : Int) := by omega
  have hD2 : 0 < D → 8 * ((D : Int) - 1) < g.k := by intro h; omega
  have hD3 : D ≤ 4 := by omega
  obtain ⟨gn, k⟩ := g
  simp only at *
  clear hD hFF
  obtain ⟨w0, hw0⟩ : ∃ w0, w0 = w.alloc (.cells #[.int .i64 gn, .int .i64 k] 23) := ⟨_, rfl⟩
  have HR : Hid (Row w0 w.heap.size 23 [.int .i64 gn, .int .i64 k]) := by rw [hw0]; exact Row.new w _ _
  have HC : Hid (Below w.heap.size w w0) := by rw [hw0]; exact (Below.refl _ _).alloc (Nat.le_refl _) _
  have c1 : w0.cell? ⟨w.heap.size, 1, none⟩ = some (.int .i64 k) := HR.out.cell 1
  go_enter Try.func11, Try.ntmps11
  go_wp2
  rw [← hw0]
  clear hw0 HR
  go_loop [3, 4] (fun c i => ∃ m : Nat, m ≤ D ∧ i = .int .i64 (8 * (m : Int)) ∧ c = .int .i64 ((m : Int) + 1)) (fun _ i => 8 * D - (intOf i).toNat)
  case atStart => exact ⟨0, by omega, rfl, rfl⟩
  case round =>
    obtain ⟨m, hm, rfl, rfl⟩ := hrel
    by_cases hlt : 8 * (m : Int) < k
    · go_wp2
      go_round
      case rel => exact ⟨m + 1, by omega, by go_num, by go_num⟩
      case measure => simp [intOf] <;> omega
    · obtain rfl : m = D := by omega
      go_wp2
      go_ret
      have e : (F : Int) = (m : Int) + 1 := by rw [hF.out]; omega
      rw [e]
      exact ⟨rfl, HC.out⟩
end Go.Proofs.Ytiafmghdiidniaa
end
