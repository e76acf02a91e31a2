/-
  PLAIN, and THE CONTRACTS wanted of the program's files, over any account C of how a store lies.
-/
import Derived.Test.YtiafmghdiidniaaLH
import Derived.Test.YtiafmghdiidniaaDA
namespace Go.Proofs.Ytiafmghdiidniaa
open Go.RowKit Cdc Inn
namespace Fil

/-- Files lie in a store: each its inode, each its bytes. -/
structure Files (g : Geo) (l : List Ino) (bl : List (List UInt8)) (fs : List (List UInt8)) : Prop where
  apart : Apart g l bl
  kind : ∀ x ∈ l, x.k ≠ 0
  bytes : l.map (fun x => content x bl) = fs
/-- A store as it is at first. -/
def freshB (g : Geo) : List (List UInt8) := (UInt8.ofNat (2 ^ gfirst g - 1) :: List.replicate 63 0) :: List.replicate (g.n.toNat - 1) (List.replicate 64 0)
/-- All blocks have 64 bytes. -/
def Sixty (bl : List (List UInt8)) : Prop := ∀ b ∈ bl, b.length = 64
/-- An inode that no file may have. -/
def odd (x : Ino) : Bool := !Inn.may x || decide (x.k = 0)
theorem odd_no {x : Ino} (h : odd x = false) : Inn.may x = true ∧ x.k ≠ 0 := by simpa [odd] using h
theorem odd_of {x : Ino} (h : Inn.may x = true) (hk : x.k ≠ 0) : odd x = false := by simp [odd, h, hk]

theorem fresh_len {g : Geo} (hg : gmay g = true) : ((freshB g).length : Int) = g.n := by
  obtain ⟨g1, _⟩ := gmay_iff.1 hg
  simp [freshB]; omega
theorem fresh_sixty (g : Geo) : Sixty (freshB g) := by
  intro b hb
  rw [freshB, List.mem_cons] at hb
  rcases hb with rfl | hb
  · simp
  · rw [List.mem_replicate] at hb; rw [hb.2]; simp
theorem fresh_zero (g : Geo) : blk (freshB g) 0 = UInt8.ofNat (2 ^ gfirst g - 1) :: List.replicate 63 0 := rfl
theorem low_bits : ∀ (n : Fin 6) (k : Fin 8), Bm.bt (UInt8.ofNat (2 ^ n.val - 1)) k = decide (k.val < n.val) := by decide +kernel
theorem fresh_bits {g : Geo} (hg : gmay g = true) (i : Nat) (hi : i < 512) : Bm.tb (blk (freshB g) 0) i = decide (i < gfirst g) := by
  obtain ⟨_, _, _, g4, _⟩ := gmay_iff.1 hg
  have h5 := gfirst_le g4
  rw [fresh_zero]
  unfold Bm.tb
  by_cases h0 : i / 8 = 0
  · rw [h0]
    obtain ⟨j, hj⟩ : ∃ j, j = i % 8 := ⟨_, rfl⟩
    have := low_bits ⟨gfirst g, by omega⟩ ⟨j, by omega⟩
    rw [← hj, show i = j by omega]
    exact this
  · obtain ⟨m, hm⟩ : ∃ m, i / 8 = m + 1 := ⟨i / 8 - 1, by omega⟩
    rw [hm, List.getD_cons_succ, decide_eq_false (by omega)]
    have : (List.replicate 63 (0 : UInt8)).getD m 0 = 0 := by
      rw [List.getD_eq_getElem?_getD, List.getElem?_replicate]; split <;> rfl
    rw [this]
    simp [Bm.bt]
/-- An empty file. -/
def empty (k : Int) : Ino := ⟨k, 0, 0, 0, 0, 0, 0⟩
theorem empty_may {k : Int} (h : k = 1 ∨ k = 2) : Inn.may (empty k) = true := by
  rcases h with rfl | rfl <;> decide +kernel
theorem empty_all (k : Int) (bl : List (List UInt8)) : allOf (empty k) bl = [] := rfl
theorem empty_content (k : Int) (bl : List (List UInt8)) : content (empty k) bl = [] := by simp [content, empty]
theorem fresh_files {g : Geo} (hg : gmay g = true) (ks : List Int) (hk : ∀ k ∈ ks, k = 1 ∨ k = 2) : Files g (ks.map empty) (freshB g) (ks.map fun _ => []) := by
  obtain ⟨g1, g2, g3, g4, g5⟩ := gmay_iff.1 hg
  have hT : taken g (ks.map empty) (freshB g) = List.range (gfirst g) := by
    unfold taken
    have : (List.flatMap (fun x => allOf x (freshB g)) (ks.map empty)) = [] := by
      rw [List.flatMap_eq_nil_iff]
      intro x hx
      obtain ⟨k, _, rfl⟩ := List.mem_map.1 hx
      exact empty_all k _
    rw [this, List.append_nil]
  refine ⟨⟨fun x hx => ?_, ?_, fun i hi => ?_, fun i hi => ?_, fresh_len hg, fresh_sixty g⟩, fun x hx => ?_, ?_⟩
  · obtain ⟨k, hk', rfl⟩ := List.mem_map.1 hx
    exact empty_may (hk k hk')
  · rw [hT]; exact List.nodup_range
  · rw [hT, List.mem_range] at hi; omega
  · rw [hT, fresh_bits hg i hi]
    simp
  · obtain ⟨k, hk', rfl⟩ := List.mem_map.1 hx
    rcases hk k hk' with rfl | rfl <;> decide
  · rw [List.map_map]
    apply List.map_congr_left
    intro k _
    exact empty_content k _

theorem content_length {g : Geo} {l : List Ino} {bl : List (List UInt8)} (h : Apart g l bl) {x : Ino} (hx : x ∈ l) : (((content x bl).length : Nat) : Int) = x.b := by
  have hb := may_bounds (h.may x hx)
  have hn : ∀ i ∈ numsOf x bl, (blk bl i).length = 64 := fun i hi => h.blen (h.lt i (by
    unfold taken
    refine List.mem_append_right _ (List.mem_flatMap.2 ⟨x, hx, ?_⟩)
    unfold numsOf at hi
    unfold allOf
    rcases List.mem_append.1 hi with hi | hi
    · exact List.mem_append_left _ (List.mem_append_left _ hi)
    · exact List.mem_append_right _ hi))
  have hl : (numsOf x bl).length = data x.b := by
    have h1 := allOf_length h hx
    unfold need at h1
    unfold numsOf
    unfold allOf at h1
    rw [List.length_append, List.length_append] at h1
    rw [List.length_append]
    split at h1
    · simp only [List.length_singleton] at h1; omega
    · simp only [List.length_nil] at h1; omega
  have hs : ((numsOf x bl).flatMap (blk bl)).length = 64 * (numsOf x bl).length := by
    generalize numsOf x bl = L at *
    clear hl
    induction L with
    | nil => rfl
    | cons a L ih =>
      rw [List.flatMap_cons, List.length_append, hn a (by simp), ih (fun i hi => hn i (by simp [hi])), List.length_cons]
      omega
  unfold content
  rw [List.length_take, hs, hl]
  have : x.b ≤ 64 * (data x.b : Int) := by unfold data; omega
  omega
theorem Files.len {g : Geo} {l : List Ino} {bl : List (List UInt8)} {fs : List (List UInt8)} (h : Files g l bl fs) : l.length = fs.length := by rw [← h.bytes, List.length_map]
theorem Files.at_ {g : Geo} {l : List Ino} {bl : List (List UInt8)} {fs : List (List UInt8)} (h : Files g l bl fs) {i : Nat} {x : Ino} (hx : l[i]? = some x) : fs.getD i [] = content x bl ∧ ((fs.getD i []).length : Int) = x.b := by
  have e : fs.getD i [] = content x bl := by
    rw [← h.bytes, List.getD_eq_getElem?_getD, List.getElem?_map, hx]; rfl
  refine ⟨e, ?_⟩
  rw [e]
  exact content_length h.apart (List.mem_of_getElem? hx)
theorem Files.left {g : Geo} {l : List Ino} {bl : List (List UInt8)} {fs : List (List UInt8)} (h : Files g l bl fs) (hg : gmay g = true) : freeN g bl = gleft g fs := by
  refine free_left h.apart hg fs ?_
  rw [← h.bytes, List.map_map]
  apply List.map_congr_left
  intro x hx
  exact (content_length h.apart hx).symm

/-- What Read hands back: bs and the number h. -/
structure ReadDoes (x : Ino) (off n : Int) (bl : List (List UInt8)) (bs : List UInt8) (h : Int) : Prop where
  bad : h ≠ 0 → bs = []
  few : h = 0 → (bs.length : Int) ≤ n ∧ (bs.length : Int) ≤ x.b
  arg : odd x = true ∨ off < 0 ∨ n < 0 → h = 1
  file : ∀ g l f fs, Files g l bl fs → l[f]? = some x → 0 ≤ off → 0 ≤ n → h = 0 ∧ bs = piece (fs.getD f []) off n
/-- What Resize hands back, and leaves. -/
structure ResizeDoes (g : Geo) (x : Ino) (z : Int) (bl : List (List UInt8)) (r : Ino) (h : Int) (bl' : List (List UInt8)) : Prop where
  many : bl'.length = bl.length
  len : Sixty bl'
  fits : r.fits
  num : Inn.In64 h
  bad : h ≠ 0 → r = zero
  good : h = 0 → r.b = z
  arg : gmay g = false ∨ odd x = true ∨ z < 0 → h = 1 ∧ bl' = bl
  file : ∀ l f fs, gmay g = true → Files g l bl fs → l[f]? = some x → h = resizeE g fs f z ∧ (h ≠ 0 → bl' = bl) ∧ (h = 0 → Files g (l.set f r) bl' (resizeF fs f z))
/-- What Write hands back, and leaves. -/
structure WriteDoes (g : Geo) (x : Ino) (off : Int) (b : List UInt8) (bl : List (List UInt8)) (r : Ino) (h : Int) (bl' : List (List UInt8)) : Prop where
  many : bl'.length = bl.length
  len : Sixty bl'
  fits : r.fits
  num : Inn.In64 h
  bad : h ≠ 0 → r = zero
  good : h = 0 → x.b ≤ r.b
  arg : gmay g = false ∨ odd x = true ∨ off < 0 → h = 1 ∧ bl' = bl
  file : ∀ l f fs, gmay g = true → Files g l bl fs → l[f]? = some x → h = writeE g fs f off b ∧ (h ≠ 0 → bl' = bl) ∧ (h = 0 → Files g (l.set f r) bl' (writeF fs f off b))
/-- What Left hands back. -/
structure LeftDoes (g : Geo) (bl : List (List UInt8)) (n h : Int) : Prop where
  num : Inn.In64 n ∧ Inn.In64 h
  arg : gmay g = false → h = 1
  file : ∀ l fs, gmay g = true → Files g l bl fs → h = 0 ∧ n = gleft g fs
end Fil
open Fil

/-- C w F m bl: at m lies a store in the blocks F of memory: bl. -/
abbrev Stor := World → (Nat → Prop) → Nat → List (List UInt8) → Prop
def AfterF (C : Stor) (w : World) (F : Nat → Prop) (w' : World) (m : Nat) (bl : List (List UInt8)) : Prop :=
  ∃ F', C w' F' m bl ∧ (∀ k, F' k → F k ∨ w.heap.size ≤ k) ∧ Chg (fun k _ => F k) w w'
def geoV (g : Geo) : Value := .agg #[.int .i64 g.n, .int .i64 g.k]
def geoIn (g : Geo) : Prop := Inn.In64 g.n ∧ Inn.In64 g.k
structure FileC (C : Stor) : Prop where
  lt : ∀ {w F m bl}, C w F m bl → ∀ k, F k → k < w.heap.size
  sixty : ∀ {w F m bl}, C w F m bl → Sixty bl
  few : ∀ {w F m bl}, C w F m bl → bl.length ≤ 128
  stay : ∀ {w F m bl w' X}, C w F m bl → Chg X w w' → (∀ k o, F k → ¬ X k o) → C w' F m bl
  may : ∀ (g : Geo) (w : World), geoIn g → Calls Try.prog 9 #[.agg #[.int .i64 g.n, .int .i64 g.k]] w fun e w' => e = .returned (.bool (gmay g)) ∧ Below w.heap.size w w'
  first : ∀ (g : Geo) (w : World), gmay g = true → Calls Try.prog 10 #[.agg #[.int .i64 g.n, .int .i64 g.k]] w fun e w' => e = .returned (.int .i64 (gfirst g)) ∧ Below w.heap.size w w'
  newBad : ∀ (g : Geo) (w : World), geoIn g → gmay g = false → Calls Try.prog 7 #[.agg #[.int .i64 g.n, .int .i64 g.k]] w fun e w' => e = .returned (.tuple #[.pointer none, .int .i64 1]) ∧ Below w.heap.size w w'
  newOk : ∀ (g : Geo) (w : World), gmay g = true → Calls Try.prog 7 #[.agg #[.int .i64 g.n, .int .i64 g.k]] w fun e w' =>
    ∃ m F, e = .returned (.tuple #[.pointer (some ⟨m, 0, none⟩), .int .i64 0]) ∧ C w' F m (freshB g) ∧ (∀ k, F k → w.heap.size ≤ k) ∧ Below w.heap.size w w'
  mread : ∀ {w F m bl}, C w F m bl → ∀ i : Nat, i < bl.length → Calls Try.prog 39 #[.pointer (some ⟨m, 0, none⟩), .int .i64 i] w fun e w' =>
    ∃ r, e = .returned (.tuple #[r, .int .i64 0]) ∧ Hid (ArgHi w' w.heap.size r (blk bl i)) ∧ Below w.heap.size w w'
  mwrite : ∀ {w F m bl}, C w F m bl → ∀ (i : Nat) (v : Value) (b : List UInt8), i ≤ 1000 → b.length = 64 → Arg w v b → (∀ a n c, v = .slice (some a) n c → 0 < n → ¬ F a.block) → Calls Try.prog 24 #[.pointer (some ⟨m, 0, none⟩), .int .i64 i, v] w fun e w' =>
    ∃ h bl', e = .returned (.int .i64 h) ∧ Sixty bl' ∧ bl'.length = bl.length ∧ AfterF C w F w' m bl'
  leftNil : ∀ (g : Geo) (w : World), geoIn g → Calls Try.prog 19 #[.nilIface, .agg #[.int .i64 g.n, .int .i64 g.k]] w fun e w' => ∃ n, e = .returned (.tuple #[.int .i64 n, .int .i64 1]) ∧ Below w.heap.size w w'
  left : ∀ {w F m bl}, C w F m bl → ∀ (g : Geo), geoIn g → Calls Try.prog 19 #[.iface 26 (.pointer (some ⟨m, 0, none⟩)), .agg #[.int .i64 g.n, .int .i64 g.k]] w fun e w' =>
    ∃ n h, e = .returned (.tuple #[.int .i64 n, .int .i64 h]) ∧ LeftDoes g bl n h ∧ Below w.heap.size w w'
  read : ∀ {w F m bl}, C w F m bl → ∀ (x : Ino) (off n : Int), x.fits → Inn.In64 off → Inn.In64 n → Calls Try.prog 17 #[.iface 26 (.pointer (some ⟨m, 0, none⟩)), .agg (inoC x), .int .i64 off, .int .i64 n] w fun e w' =>
    ∃ v bs h, e = .returned (.tuple #[v, .int .i64 h]) ∧ ReadDoes x off n bl bs h ∧ Hid (ArgHi w' w.heap.size v bs) ∧ Below w.heap.size w w'
  resize : ∀ {w F m bl}, C w F m bl → ∀ (g : Geo) (x : Ino) (z : Int), geoIn g → x.fits → Inn.In64 z → Calls Try.prog 13 #[.iface 26 (.pointer (some ⟨m, 0, none⟩)), .agg #[.int .i64 g.n, .int .i64 g.k], .agg (inoC x), .int .i64 z] w fun e w' =>
    ∃ r h bl', e = .returned (.tuple #[.agg (inoC r), .int .i64 h]) ∧ ResizeDoes g x z bl r h bl' ∧ AfterF C w F w' m bl'
  write : ∀ {w F m bl}, C w F m bl → ∀ (g : Geo) (x : Ino) (off : Int) (v : Value) (b : List UInt8), geoIn g → x.fits → Inn.In64 off → b.length ≤ 1000 → Arg w v b → (∀ a n c, v = .slice (some a) n c → 0 < n → ¬ F a.block) →
    Calls Try.prog 15 #[.iface 26 (.pointer (some ⟨m, 0, none⟩)), .agg #[.int .i64 g.n, .int .i64 g.k], .agg (inoC x), .int .i64 off, v] w fun e w' =>
    ∃ r h bl', e = .returned (.tuple #[.agg (inoC r), .int .i64 h]) ∧ WriteDoes g x off b bl r h bl' ∧ AfterF C w F w' m bl'
end Go.Proofs.Ytiafmghdiidniaa
