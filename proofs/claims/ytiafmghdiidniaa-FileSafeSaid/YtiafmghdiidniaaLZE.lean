/-
  PLAIN: a file that is being changed (a draft), and what is done with it. HOW IT LIES in memory ('DrL').
-/
import Derived.Test.YtiafmghdiidniaaLZA
namespace Go.Proofs.Ytiafmghdiidniaa
set_option maxRecDepth 100000
set_option maxHeartbeats 1000000
open Go.RowKit Cdc Inn Fil

namespace Fil
/-- A draft: its blocks' numbers, its bytes, the blocks to be written. -/
structure Dr where
  nums : List Nat
  z : Int
  ch : Nat → Option (List UInt8)
def Dr.put (d : Dr) (i : Nat) (b : List UInt8) : Dr := { d with ch := fun j => if j = i then some b else d.ch j }
def Dr.row (d : Dr) (i : Nat) : List UInt8 := (d.ch i).getD []
/-- A block is loaded. -/
def Dr.load (bl : List (List UInt8)) (d : Dr) (i : Nat) : Option Dr := if (d.ch i).isSome then some d else if i < bl.length then some (d.put i (blk bl i)) else none
/-- The number of the block of byte off. -/
def placeOf (off : Nat) : Nat := if 4 ≤ off / 64 then off / 64 + 1 else off / 64
def numAt (l : List Nat) (off : Nat) : Nat := l.getD (placeOf off) 0
def Dr.clearTail (bl : List (List UInt8)) (d : Dr) : Option Dr :=
  if d.z.toNat % 64 = 0 then some d
  else (d.load bl (numAt d.nums d.z.toNat)).map fun e => e.put (numAt d.nums d.z.toNat) ((e.row (numAt d.nums d.z.toNat)).take (d.z.toNat % 64) ++ List.replicate (64 - d.z.toNat % 64) 0)
def Dr.mark (d : Dr) (i : Nat) (on : Bool) : Dr := d.put 0 (Bm.setB (d.row 0) i on)
/-- Blocks are given back, but those that are kept. -/
def Dr.free (kept : List Nat) : List Nat → Dr → Dr
  | [], d => d
  | i :: r, d => Dr.free kept r (if i ∈ kept then d else d.mark i false)
def Dr.release (d : Dr) (keep : Nat) : Dr := { Dr.free (d.nums.take keep) (d.nums.drop keep) d with nums := d.nums.take keep }
def zeros64 : List UInt8 := List.replicate 64 0
def Dr.take (g : Geo) (d : Dr) : Option Dr :=
  if Bm.first (d.row 0) (gfirst g) g.n < 0 then none
  else some ({ d.mark (Bm.first (d.row 0) (gfirst g) g.n).toNat true with nums := d.nums ++ [(Bm.first (d.row 0) (gfirst g) g.n).toNat] }.put (Bm.first (d.row 0) (gfirst g) g.n).toNat zeros64)
def Dr.grow (g : Geo) : Nat → Dr → Option Dr
  | 0, d => some d
  | k + 1, d => (d.take g).bind (Dr.grow g k)
/-- Numbers as bytes, zeros behind. -/
def named (l : List Nat) : List UInt8 := l.map UInt8.ofNat ++ List.replicate (64 - l.length) 0
def Dr.name (d : Dr) : Dr := if d.nums.length ≤ 4 then d else d.put (d.nums.getD 4 0) (named (d.nums.drop 5))
/-- The size is changed: what is told if that cannot be, or the draft. -/
def Dr.resize2 (bl : List (List UInt8)) (g : Geo) (d : Dr) : Except Int Dr :=
  if need d.z = d.nums.length then .ok d
  else match d.load bl 0 with
    | none => .error 1
    | some e => match Dr.grow g (need d.z - (e.release (min (need d.z) e.nums.length)).nums.length) (e.release (min (need d.z) e.nums.length)) with
      | none => .error 7
      | some f => .ok f.name
def Dr.resize (bl : List (List UInt8)) (g : Geo) (d : Dr) (z : Int) : Except Int Dr :=
  match (if d.z < z then d.clearTail bl else some d) with
  | none => .error 1
  | some e => Dr.resize2 bl g { e with z := z }
/-- Bytes are written over from place o on. -/
def over (r : List UInt8) (o : Nat) (b : List UInt8) : List UInt8 := r.take o ++ b ++ r.drop (o + b.length)
def Dr.fill (bl : List (List UInt8)) : Nat → Dr → Nat → List UInt8 → Option Dr
  | 0, d, _, _ => some d
  | n + 1, d, off, b => if b = [] then some d
    else (d.load bl (numAt d.nums off)).bind fun e => Dr.fill bl n (e.put (numAt d.nums off) (over (e.row (numAt d.nums off)) (off % 64) (b.take (64 - off % 64)))) (off + min (64 - off % 64) b.length) (b.drop (64 - off % 64))
def Dr.write (bl : List (List UInt8)) (g : Geo) (d : Dr) (off : Nat) (b : List UInt8) : Except Int Dr :=
  match d.resize bl g (max d.z (off + b.length)) with
  | .error e => .error e
  | .ok e => match e.fill bl b.length off b with
    | none => .error 1
    | some f => .ok f
/-- The store behind it. -/
def Dr.saved (bl : List (List UInt8)) (d : Dr) : List (List UInt8) := (List.range bl.length).map fun i => (d.ch i).getD (blk bl i)
def Dr.ino (k : Int) (d : Dr) : Ino := ⟨k, d.z, d.nums.getD 0 0, d.nums.getD 1 0, d.nums.getD 2 0, d.nums.getD 3 0, d.nums.getD 4 0⟩
/-- What every draft keeps: its numbers are blocks'. -/
structure Dr.Ok (d : Dr) : Prop where
  num : ∀ n ∈ d.nums, n < 128
  len : d.nums.length ≤ 37
  z0 : 0 ≤ d.z
  z1 : d.z ≤ 2304
theorem numAt_lt {d : Dr} (h : d.Ok) (off : Nat) : numAt d.nums off < 128 := by
  unfold numAt
  rw [List.getD_eq_getElem?_getD]
  rcases hq : d.nums[placeOf off]? with _ | x
  · exact Nat.succ_pos _
  · exact h.num x (List.mem_of_getElem? hq)
end Fil

/-- Numbers as cells. -/
def VNs (l : List Nat) : List Value := (l.map fun n : Nat => (n : Int)).map VI
theorem VNs_length (l : List Nat) : (VNs l).length = l.length := by simp [VNs]
theorem VNs_one (l : List Nat) : ∀ v ∈ VNs l, v.oneCell' = true := fun v hv => by
  obtain ⟨x, _, rfl⟩ := List.mem_map.1 hv; rfl
theorem Blk.block {w w' : World} {v : Value} {g : Nat} {b : List UInt8} (h : Blk w v g b) (e : w'.heap[g]? = w.heap[g]?) : Blk w' v g b := by
  have hc : ∀ o, w'.cell? ⟨g, o, none⟩ = w.cell? ⟨g, o, none⟩ := fun o => World.cell?_of_block (w := w) e
  have hf : ∀ o, w'.frozen? ⟨g, o, none⟩ = w.frozen? ⟨g, o, none⟩ := fun o => by simp only [World.frozen?, e]
  exact ⟨h.val, h.len, fun j v hv => by rw [hc]; exact h.here.1 j v hv, fun j hj => by rw [hc, hf]; exact h.here.2 j hj⟩
theorem Own.block {w w' : World} {B : Nat} {e : TypeId} {v : Value} {ys : List Value} (h : Own w B e v ys) (k : ∀ q, v.ownBlock = some q → w'.heap[q]? = w.heap[q]?) : Own w' B e v ys := by
  obtain ⟨h1, h2⟩ := h
  refine ⟨h1, ?_⟩
  rcases h2 with h2 | ⟨g, cap, cur, rfl, hg, hb, r⟩
  · exact .inl h2
  · exact .inr ⟨g, cap, cur, rfl, hg, by rw [k g rfl]; exact hb, r⟩

/-- A draft's own cells. -/
structure DrH (w : World) (D m : Nat) (g : Geo) (kd z : Int) (nv : Value) (vs : Nat → Value) : Prop where
  c0 : w.cell? ⟨D, 0, none⟩ = some (.iface 26 (.pointer (some ⟨m, 0, none⟩)))
  c1 : w.cell? ⟨D, 1, none⟩ = some (.int .i64 g.n)
  c2 : w.cell? ⟨D, 2, none⟩ = some (.int .i64 g.k)
  c3 : w.cell? ⟨D, 3, none⟩ = some (.int .i64 kd)
  c4 : w.cell? ⟨D, 4, none⟩ = some (.int .i64 z)
  c5 : w.cell? ⟨D, 5, none⟩ = some nv
  ch : ∀ i, i < 128 → w.cell? ⟨D, 6 + i, none⟩ = some (vs i)
  free : ∀ o, w.frozen? ⟨D, o, none⟩ = false
/-- Its rows. -/
structure DrR (w : World) (B D : Nat) (d : Dr) (nv : Value) (vs : Nat → Value) (gs : Nat → Nat) : Prop where
  lo : B ≤ D
  nil : ∀ i, i < 128 → d.ch i = none → vs i = .slice none 0 0
  row : ∀ i, i < 128 → ∀ b, d.ch i = some b → Blk w (vs i) (gs i) b ∧ B ≤ gs i ∧ gs i ≠ D ∧ nv.ownBlock ≠ some (gs i)
  inj : ∀ i j, i < 128 → j < 128 → d.ch i ≠ none → d.ch j ≠ none → gs i = gs j → i = j
  own : Own w B 3 nv (VNs d.nums)
  nvD : nv.ownBlock ≠ some D
  nvF : ∃ q c, nv = .slice (some ⟨q, 0, none⟩) d.nums.length c ∧ d.nums.length ≤ c
structure DrL (w : World) (B D m : Nat) (g : Geo) (kd : Int) (d : Dr) (nv : Value) (vs : Nat → Value) (gs : Nat → Nat) : Prop where
  hd : DrH w D m g kd d.z nv vs
  rw_ : DrR w B D d nv vs gs
/-- Its numbers at nv. -/
def DrN (w : World) (B D m : Nat) (g : Geo) (kd : Int) (d : Dr) (nv : Value) : Prop := ∃ vs gs, DrL w B D m g kd d nv vs gs
/-- Somehow. -/
def DrA (w : World) (B D m : Nat) (g : Geo) (kd : Int) (d : Dr) : Prop := ∃ nv vs gs, DrL w B D m g kd d nv vs gs
section
variable {w w' : World} {B D m : Nat} {g : Geo} {kd z : Int} {d : Dr} {nv : Value} {vs : Nat → Value} {gs : Nat → Nat}
theorem DrH.block (h : DrH w D m g kd z nv vs) (e : w'.heap[D]? = w.heap[D]?) : DrH w' D m g kd z nv vs := by
  have hc : ∀ o, w'.cell? ⟨D, o, none⟩ = w.cell? ⟨D, o, none⟩ := fun o => World.cell?_of_block (w := w) e
  have hf : ∀ o, w'.frozen? ⟨D, o, none⟩ = w.frozen? ⟨D, o, none⟩ := fun o => by simp only [World.frozen?, e]
  exact ⟨by rw [hc]; exact h.c0, by rw [hc]; exact h.c1, by rw [hc]; exact h.c2, by rw [hc]; exact h.c3, by rw [hc]; exact h.c4, by rw [hc]; exact h.c5, fun i hi => by rw [hc]; exact h.ch i hi, fun o => by rw [hf]; exact h.free o⟩
theorem DrH.lt (h : DrH w D m g kd z nv vs) : D < w.heap.size := World.block_lt_of_cell? w _ h.c0
theorem DrR.block (h : DrR w B D d nv vs gs) (e : ∀ k, k ≠ D → k < w.heap.size → w'.heap[k]? = w.heap[k]?) : DrR w' B D d nv vs gs :=
  ⟨h.lo, h.nil, fun i hi b hb => by obtain ⟨h1, h2, h3, h4⟩ := h.row i hi b hb; exact ⟨h1.block (e _ h3 h1.lt), h2, h3, h4⟩, h.inj, h.own.block fun q hq => e q (fun e' => h.nvD (by rw [hq, e'])) (h.own.lt hq).2, h.nvD, h.nvF⟩
theorem DrL.below (h : DrL w B D m g kd d nv vs gs) (hb : Below w.heap.size w w') : DrL w' B D m g kd d nv vs gs :=
  ⟨h.hd.block (hb.block D h.hd.lt), h.rw_.block fun k _ hk => hb.block k hk⟩
theorem DrA.below (h : DrA w B D m g kd d) (hb : Below w.heap.size w w') : DrA w' B D m g kd d := by
  obtain ⟨nv, vs, gs, h⟩ := h; exact ⟨nv, vs, gs, h.below hb⟩
theorem setCell_cell (w : World) (D o p : Nat) (v : Value) (hne : o ≠ p) : (w.setCell ⟨D, o, none⟩ v).cell? ⟨D, p, none⟩ = w.cell? ⟨D, p, none⟩ := World.cell?_setCell_other _ _ _ _ (fun e => by injection e with _ e2; exact hne e2)
theorem setCell_heap (w : World) (D o k : Nat) (v : Value) (hne : k ≠ D) : (w.setCell ⟨D, o, none⟩ v).heap[k]? = w.heap[k]? := Below.heap_setCell w ⟨D, o, none⟩ v k hne
theorem DrH.setZ (h : DrH w D m g kd z nv vs) (z' : Int) : DrH (w.setCell ⟨D, 4, none⟩ (.int .i64 z')) D m g kd z' nv vs :=
  ⟨by rw [setCell_cell _ _ _ _ _ (by decide)]; exact h.c0, by rw [setCell_cell _ _ _ _ _ (by decide)]; exact h.c1, by rw [setCell_cell _ _ _ _ _ (by decide)]; exact h.c2, by rw [setCell_cell _ _ _ _ _ (by decide)]; exact h.c3,
   World.cell?_setCell_same _ _ _ h.c4, by rw [setCell_cell _ _ _ _ _ (by decide)]; exact h.c5, fun i hi => by rw [setCell_cell _ _ _ _ _ (by omega)]; exact h.ch i hi, fun o => by rw [World.frozen?_setCell]; exact h.free o⟩
theorem DrH.setN (h : DrH w D m g kd z nv vs) (nv' : Value) : DrH (w.setCell ⟨D, 5, none⟩ nv') D m g kd z nv' vs :=
  ⟨by rw [setCell_cell _ _ _ _ _ (by decide)]; exact h.c0, by rw [setCell_cell _ _ _ _ _ (by decide)]; exact h.c1, by rw [setCell_cell _ _ _ _ _ (by decide)]; exact h.c2, by rw [setCell_cell _ _ _ _ _ (by decide)]; exact h.c3,
   by rw [setCell_cell _ _ _ _ _ (by decide)]; exact h.c4, World.cell?_setCell_same _ _ _ h.c5, fun i hi => by rw [setCell_cell _ _ _ _ _ (by omega)]; exact h.ch i hi, fun o => by rw [World.frozen?_setCell]; exact h.free o⟩
theorem DrH.setC (h : DrH w D m g kd z nv vs) (i : Nat) (hi : i < 128) (v : Value) : DrH (w.setCell ⟨D, 6 + i, none⟩ v) D m g kd z nv (fun j => if j = i then v else vs j) :=
  ⟨by rw [setCell_cell _ _ _ _ _ (by omega)]; exact h.c0, by rw [setCell_cell _ _ _ _ _ (by omega)]; exact h.c1, by rw [setCell_cell _ _ _ _ _ (by omega)]; exact h.c2, by rw [setCell_cell _ _ _ _ _ (by omega)]; exact h.c3,
   by rw [setCell_cell _ _ _ _ _ (by omega)]; exact h.c4, by rw [setCell_cell _ _ _ _ _ (by omega)]; exact h.c5, fun j hj => by
    by_cases e : j = i
    · subst e; rw [if_pos rfl]; exact World.cell?_setCell_same _ _ _ (h.ch j hi)
    · rw [if_neg e, setCell_cell _ _ _ _ _ (by omega)]; exact h.ch j hj, fun o => by rw [World.frozen?_setCell]; exact h.free o⟩
/-- The size is set. -/
theorem DrL.setZ (h : DrL w B D m g kd d nv vs gs) (z' : Int) : DrL (w.setCell ⟨D, 4, none⟩ (.int .i64 z')) B D m g kd { d with z := z' } nv vs gs :=
  have r := h.rw_.block (w' := w.setCell ⟨D, 4, none⟩ (.int .i64 z')) fun _ hk _ => setCell_heap _ _ _ _ _ hk
  ⟨h.hd.setZ z', r.lo, r.nil, r.row, r.inj, r.own, r.nvD, r.nvF⟩
/-- A block is laid: one that no other row has. -/
theorem DrL.put (h : DrL w B D m g kd d nv vs gs) (i : Nat) (hi : i < 128) {v : Value} {q : Nat} {b : List UInt8} (hv : Blk w v q b) (hB : B ≤ q) (hD : q ≠ D) (hn : nv.ownBlock ≠ some q) (hf : ∀ j, j < 128 → d.ch j ≠ none → gs j ≠ q) :
    DrL (w.setCell ⟨D, 6 + i, none⟩ v) B D m g kd (d.put i b) nv (fun j => if j = i then v else vs j) (fun j => if j = i then q else gs j) := by
  refine ⟨h.hd.setC i hi v, ?_⟩
  have hr := h.rw_.block (w' := w.setCell ⟨D, 6 + i, none⟩ v) fun k hk _ => setCell_heap _ _ _ _ _ hk
  refine ⟨hr.lo, fun j hj hc => ?_, fun j hj c hc => ?_, fun a c ha hc h1 h2 e => ?_, hr.own, hr.nvD, hr.nvF⟩
  · simp only [Dr.put] at hc ⊢
    by_cases e : j = i
    · rw [if_pos e] at hc; cases hc
    · rw [if_neg e] at hc ⊢; exact hr.nil j hj hc
  · simp only [Dr.put] at hc ⊢
    by_cases e : j = i
    · rw [if_pos e] at hc; injection hc with hc; subst hc
      simp only [if_pos e]
      exact ⟨hv.block (setCell_heap _ _ _ _ _ hD), hB, hD, hn⟩
    · rw [if_neg e] at hc; simp only [if_neg e]; exact hr.row j hj c hc
  · simp only [Dr.put] at h1 h2 e
    by_cases ea : a = i <;> by_cases ec : c = i
    · omega
    · rw [if_pos ea, if_neg ec] at e; rw [if_neg ec] at h2; exact absurd e.symm (hf c hc h2)
    · rw [if_neg ea, if_pos ec] at e; rw [if_neg ea] at h1; exact absurd e (hf a ha h1)
    · rw [if_neg ea, if_neg ec] at e; rw [if_neg ea] at h1; rw [if_neg ec] at h2; exact hr.inj a c ha hc h1 h2 e
/-- The same with a block that is younger. -/
theorem DrL.putNew (h : DrL w B D m g kd d nv vs gs) (hb : Below w.heap.size w w') (i : Nat) (hi : i < 128) {v : Value} {q : Nat} {b : List UInt8} (hv : Blk w' v q b) (hq : w.heap.size ≤ q) (hB : B ≤ w.heap.size) :
    DrL (w'.setCell ⟨D, 6 + i, none⟩ v) B D m g kd (d.put i b) nv (fun j => if j = i then v else vs j) (fun j => if j = i then q else gs j) := by
  have hD := h.hd.lt
  refine (h.below hb).put i hi hv (by omega) (by omega) (fun e => ?_) (fun j hj hc e => ?_)
  · have := (h.rw_.own.lt e).2; omega
  · rcases hx : d.ch j with _ | c
    · exact hc hx
    · have := (h.rw_.row j hj c hx).1.lt; omega
/-- A row's bytes are written over. -/
theorem DrL.over (h : DrL w B D m g kd d nv vs gs) (i : Nat) (hi : i < 128) {b : List UInt8} (hb : d.ch i = some b) (o : Nat) (cs : List UInt8) (ho : o + cs.length ≤ 64) :
    DrL (w.setCells (gs i) o (cs.map V8)) B D m g kd (d.put i (over b o cs)) nv vs gs := by
  obtain ⟨h1, h2, h3, h4⟩ := h.rw_.row i hi b hb
  obtain ⟨hw, hc⟩ := h1.write o cs ho
  have hbl : ∀ k, k ≠ gs i → k < w.heap.size → (w.setCells (gs i) o (cs.map V8)).heap[k]? = w.heap[k]? := fun k hk hl => hc.block k hl fun o e => hk e
  refine ⟨h.hd.block (hbl D h3.symm h.hd.lt), h.rw_.lo, fun j hj hx => ?_, fun j hj c hx => ?_, fun a c ha hc' x1 x2 e => ?_, h.rw_.own.block fun q hq => hbl q (fun e => h4 (by rw [hq, e])) (h.rw_.own.lt hq).2, h.rw_.nvD, h.rw_.nvF⟩
  · simp only [Dr.put] at hx
    by_cases e : j = i
    · rw [if_pos e] at hx; cases hx
    · rw [if_neg e] at hx; exact h.rw_.nil j hj hx
  · simp only [Dr.put] at hx
    by_cases e : j = i
    · rw [if_pos e] at hx; injection hx with hx; subst hx; subst e; exact ⟨hw, h2, h3, h4⟩
    · rw [if_neg e] at hx
      obtain ⟨r1, r2, r3, r4⟩ := h.rw_.row j hj c hx
      exact ⟨r1.block (hbl _ (fun e' => e (h.rw_.inj j i hj hi (by rw [hx]; simp) (by rw [hb]; simp) e')) r1.lt), r2, r3, r4⟩
  · simp only [Dr.put] at x1 x2
    refine h.rw_.inj a c ha hc' ?_ ?_ e
    · by_cases ea : a = i
      · rw [ea, hb]; simp
      · rwa [if_neg ea] at x1
    · by_cases ec : c = i
      · rw [ec, hb]; simp
      · rwa [if_neg ec] at x2
/-- The numbers are others, in the old block or in a younger one. -/
theorem DrL.setN (h : DrL w B D m g kd d nv vs gs) {nv' : Value} {l : List Nat} (hg : ∀ k, k < w.heap.size → nv.ownBlock ≠ some k → w'.heap[k]? = w.heap[k]?) (ho : Own w' B 3 nv' (VNs l))
    (hn : ∀ q, nv'.ownBlock = some q → nv.ownBlock = some q ∨ w.heap.size ≤ q) (hF : ∃ q c, nv' = .slice (some ⟨q, 0, none⟩) l.length c ∧ l.length ≤ c) : DrL (w'.setCell ⟨D, 5, none⟩ nv') B D m g kd { d with nums := l } nv' vs gs := by
  have hD := h.hd.lt
  have hnD : nv'.ownBlock ≠ some D := fun e => by
    rcases hn D e with h1 | h1
    · exact h.rw_.nvD h1
    · omega
  refine ⟨(h.hd.block (hg D hD h.rw_.nvD)).setN nv', h.rw_.lo, h.rw_.nil, fun i hi b hb => ?_, h.rw_.inj, ho.block fun q hq => setCell_heap _ _ _ _ _ (fun e => hnD (by rw [hq, e])), hnD, hF⟩
  obtain ⟨h1, h2, h3, h4⟩ := h.rw_.row i hi b hb
  refine ⟨(h1.block (hg _ h1.lt h4)).block (setCell_heap _ _ _ _ _ h3), h2, h3, fun e => ?_⟩
  rcases hn _ e with h5 | h5
  · exact h4 h5
  · have := h1.lt; omega
end
end Go.Proofs.Ytiafmghdiidniaa
