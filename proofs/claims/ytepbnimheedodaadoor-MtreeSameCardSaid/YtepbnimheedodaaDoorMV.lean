/-
  TOOLS: rows of tags that the program makes: a block's cells turned in its middle; make; rows that are being filled.
-/
import Derived.Test.YtepbnimheedodaaDoorMU
namespace Go.Proofs.YtepbnimheedodaaDoor
open Go.RowKit Mk

theorem row_mid {g : Nat} {t : TypeId} (post : List Value) : ∀ (vs old pre : List Value) (o : Nat) (w : World), pre.length = o → old.length = vs.length → Row w g t (pre ++ (old ++ post)) → Row (w.setCells g o vs) g t (pre ++ (vs ++ post))
  | [], old, pre, o, w, _, hl, h => by
    obtain rfl : old = [] := List.eq_nil_of_length_eq_zero hl
    exact h
  | v :: r, [], pre, o, w, _, hl, h => by simp at hl
  | v :: r, x :: old, pre, o, w, hp, hl, h => by
    rw [World.setCells]
    have h1 := h.set o v
    rw [List.cons_append, List.set_append_right _ _ (by omega), show o - pre.length = 0 by omega, List.set_cons_zero] at h1
    have h2 := row_mid post r old (pre ++ [v]) (o + 1) (w.setCell ⟨g, o, none⟩ v) (by simp [hp]) (by simpa using hl) (by simpa using h1)
    simpa using h2
theorem row_apart {g g' : Nat} {t : TypeId} {cs : List Value} : ∀ {w : World}, Row w g t cs → g ≠ g' → ∀ (vs : List Value) (o : Nat), Row (w.setCells g' o vs) g t cs
  | _, h, _, [], _ => h
  | _, h, hn, v :: r, o => by
    rw [World.setCells]
    exact row_apart (h.apart (p := ⟨g', o, none⟩) hn v) hn r (o + 1)
theorem below_cells {B g : Nat} (hg : B ≤ g) {a : World} : ∀ (vs : List Value) (o : Nat) {w : World}, Below B a w → Below B a (w.setCells g o vs)
  | [], _, _, h => h
  | v :: r, o, _, h => by
    rw [World.setCells]
    exact below_cells hg r (o + 1) (h.setCell (p := ⟨g, o, none⟩) hg v)
theorem Row.thereMid {w : World} {g : Nat} {t : TypeId} {cs : List Value} (h : Row w g t cs) (o n : Nat) (hn : o + n ≤ cs.length) : w.there g o n := fun j hj => by
  rw [h.cell]
  exact ⟨by rw [List.getElem?_eq_getElem (by omega)]; rfl, h.free _⟩
theorem Row.piece {w : World} {g : Nat} {t : TypeId} {cs : List Value} (h : Row w g t cs) (o : Nat) (ds : List Value) (hd : (cs.drop o).take ds.length = ds) : w.rangeAt g o ds := by
  intro j v hj
  rw [h.cell]
  have hjl : j < ds.length := (List.getElem?_eq_some_iff.1 hj).1
  rw [← hd, List.getElem?_take, if_pos hjl, List.getElem?_drop] at hj
  exact hj

/-- A row of tags as the program lays it, and its pieces. -/
def cells (l : List Tg) : List Value := l.flatten.map V8
theorem cells_append (a b : List Tg) : cells (a ++ b) = cells a ++ cells b := by simp [cells]
theorem cells_length (l : List Tg) (h : ∀ t ∈ l, t.length = 32) : (cells l).length = 32 * l.length := by
  induction l with
  | nil => rfl
  | cons t r ih =>
    have := ih fun u hu => h u (List.mem_cons_of_mem _ hu)
    simp only [cells, List.length_map, List.flatten_cons, List.length_append, List.length_cons] at this ⊢
    have := h t (by simp)
    omega
theorem cells_piece (l : List Tg) (h : ∀ t ∈ l, t.length = 32) (i n : Nat) (hin : i + n ≤ l.length) : ((cells l).drop (32 * i)).take (cells ((l.drop i).take n)).length = cells ((l.drop i).take n) := by
  have e : l = l.take i ++ ((l.drop i).take n ++ (l.drop i).drop n) := by rw [List.take_append_drop, List.take_append_drop]
  have hl : (cells (l.take i)).length = 32 * i := by
    rw [cells_length _ fun t ht => h t (List.mem_of_mem_take ht), List.length_take]; congr 1; omega
  have e2 : cells l = cells (l.take i) ++ (cells ((l.drop i).take n) ++ cells ((l.drop i).drop n)) := by rw [← cells_append, ← cells_append, ← e]
  rw [e2, ← hl, List.drop_append, List.drop_of_length_le (Nat.le_refl _), Nat.sub_self, List.drop_zero, List.nil_append, List.take_append_of_le_length (Nat.le_refl _), List.take_of_length_le (Nat.le_refl _)]
theorem info4 : (Tryd.prog.info? 80).map (fun i => (i.zero, i.size, i.bytes)) = some (some (.agg Z128.toArray), 128, 128) := by kernel_rfl
theorem getB {α : Type} [Inhabited α] (cs : Array α) (d : α) (n : Nat) (h : cs = Array.replicate n d) (j : Nat) (hj : j < n) : cs[j]! = d := by
  subst h; simp [hj]
set_option maxRecDepth 100000 in
theorem made4 (n : Nat) (hn : n ≤ 100000) (W : World) : (Instr.makeSlice 84 (.int .i64 (n : Int)) (.int .i64 (n : Int))).run Tryd.prog W = .ok (.slice (some ⟨W.heap.size, 0, none⟩) n n) (W.alloc (.cells (cells (List.replicate (4 * n) zero)).toArray 80)) := by
  obtain ⟨i, hi, hz0, hz1, hz2⟩ := info_parts info4
  have := run_make (P := Tryd.prog) W 84 80 i (.agg Z128.toArray) Tryd.underlying84 hi hz0 .i64 .i64 n n (by omega) (by omega) (by rw [hz2]; omega) (by omega)
  rw [Int.toNat_natCast, hz1] at this
  rw [this]
  congr 3
  unfold madeCells
  have hc : (Value.agg Z128.toArray).cells = Z128.toArray := rfl
  have hz : Z128.toArray = Array.replicate 128 (.int .u8 0) := by rw [Z128, List.toArray_replicate]
  have hR : (cells (List.replicate (4 * n) zero)) = List.replicate (n * 128) (.int .u8 0) := by
    have h1 : (List.replicate (4 * n) zero).flatten = List.replicate (4 * n * 32) 0 := by
      rw [zero, List.flatten_replicate_replicate]
    rw [cells, h1, List.map_replicate, show 4 * n * 32 = n * 128 by omega]; rfl
  rw [hR, hc]
  apply Array.ext
  · simp
  · intro j h1 h2
    simp only [Array.getElem_map, Array.getElem_range, List.getElem_toArray, List.getElem_replicate]
    exact getB _ _ 128 hz _ (by rw [hz, Array.size_replicate]; exact Nat.mod_lt _ (by omega))

/-- A row of M tags that is being filled. -/
def fill (l : List Tg) (M k : Nat) : List Tg := l.take k ++ List.replicate (M - k) zero
theorem fill_all (l : List Tg) (M : Nat) (h : l.length = M) : fill l M M = l := by rw [fill, List.take_of_length_le (by omega), Nat.sub_self]; simp
theorem fill_split (l : List Tg) (M k : Nat) (hk : k < M) : cells (fill l M k) = cells (l.take k) ++ (zero.map V8 ++ cells (List.replicate (M - (k + 1)) zero)) := by
  rw [fill, cells_append, show M - k = M - (k + 1) + 1 by omega, List.replicate_succ]; simp [cells]
theorem fill_next (l : List Tg) (M k : Nat) (t : Tg) (ht : l[k]? = some t) : cells (fill l M (k + 1)) = cells (l.take k) ++ (t.map V8 ++ cells (List.replicate (M - (k + 1)) zero)) := by
  have hk := (List.getElem?_eq_some_iff.1 ht).1
  rw [fill, take_snoc l k hk [], List.getD_eq_getElem?_getD, ht, cells_append, cells_append]; simp [cells]
theorem zero_len : (zero.map V8).length = 32 := by simp [zero]
theorem row_fill {W : World} {g : Nat} {l : List Tg} {M k : Nat} (hR : Row W g 80 (cells (fill l M k))) (h32 : ∀ t ∈ l, t.length = 32) (hk : k < M) (t : Tg) (ht : l[k]? = some t) : Row (W.setCells g (32 * k) (t.map V8)) g 80 (cells (fill l M (k + 1))) := by
  have hkl := (List.getElem?_eq_some_iff.1 ht).1
  rw [fill_split l M k hk] at hR
  rw [fill_next l M k t ht]
  refine row_mid _ _ _ _ _ _ ?_ ?_ hR
  · rw [cells_length _ fun u hu => h32 u (List.mem_of_mem_take hu), List.length_take]; congr 1; omega
  · rw [zero_len, List.length_map, h32 t (List.mem_of_getElem? ht)]
theorem fill_there {W : World} {g : Nat} {l : List Tg} {M k : Nat} (hR : Row W g 80 (cells (fill l M k))) (h32 : ∀ t ∈ l, t.length = 32) (hk : k < M) (hkl : k ≤ l.length) : W.there g (32 * k) 32 := by
  refine hR.thereMid _ _ ?_
  rw [fill_split l M k hk, List.length_append, List.length_append, zero_len, cells_length _ fun u hu => h32 u (List.mem_of_mem_take hu), List.length_take, Nat.min_eq_left hkl]; omega
/-- A row with its zeros that is being filled. -/
abbrev low (l : List Tg) (h k : Nat) : List Tg := fill l (4 ^ h) k
theorem low_full (l : List Tg) (h : Nat) : low l h l.length = full l h := by rw [low, fill, List.take_of_length_le (Nat.le_refl _)]; rfl
/-- The four of a place, the row above it. -/
theorem ups_get (key : Tg) (row : List Tg) (n k : Nat) (hr : row.length = 4 * n) (hk : k < n) : (ups key row)[k]? = some (node key ((row.drop (4 * k)).take 4)) := by
  rw [ups, List.getElem?_map, List.getElem?_range (by omega)]; rfl
end Go.Proofs.YtepbnimheedodaaDoor
