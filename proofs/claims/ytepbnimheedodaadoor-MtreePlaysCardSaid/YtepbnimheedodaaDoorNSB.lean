/-
  4 TEXTS IN ONE (NX, NY, NSA, NSB): each says at its own head what it holds.
-/
import Derived.Test.YtepbnimheedodaaDoorNW
import Derived.Test.YtepbnimheedodaaDoorNP
import Derived.Test.YtepbnimheedodaaDoorND
import Derived.Test.YtepbnimheedodaaDoorMYC

section
/-
  HOW THE PROGRAM'S TREE LIES in memory; THE WALKS of Places, has, Stale, Work, Get.
-/
namespace Go.Proofs.YtepbnimheedodaaDoor
open Go.RowKit Mk Mt

/-- How wide the row of a level is. -/
def wid (n h j : Nat) : Nat := if j < h then 4 * up n (j + 1) else 1
/-- A tree at D: its key's bytes in KB, its rows' slices in RB, the stale nodes in MB, row j in rb j. -/
structure TA (w : World) (F : Nat → Prop) (D : Nat) (key : Tg) (L : List Tg) (S : List Bool) (V : Nat) (h : Nat) (kv : Value) (KB RB rc MB : Nat) (rb : Nat → Nat) (rw : Nat → List Tg) (ks : List Nd) : Prop where
  hh : IsH L.length h
  hS : S.length = L.length
  pos : 0 < L.length
  few : L.length ≤ 100
  h32 : ∀ t ∈ L, t.length = 32
  hk : key.length ≤ 1000
  tree : Row w D 57 [kv, I64 L.length, .slice (some ⟨RB, 0, none⟩) (h + 1) rc, .map (some MB), I64 V]
  akey : ∀ w' : World, w.heap.size ≤ w'.heap.size → w'.heap[KB]? = w.heap[KB]? → Arg w' kv key
  rows : ∀ j, j ≤ h → w.cell? ⟨RB, j, none⟩ = some (.slice (some ⟨rb j, 0, none⟩) (wid L.length h j) (wid L.length h j))
  row : ∀ j, j ≤ h → Row w (rb j) 34 (cells (rw j))
  len : ∀ j, j ≤ h → (rw j).length = wid L.length h j
  r32 : ∀ j, j ≤ h → ∀ t ∈ rw j, t.length = 32
  val : ∀ j i, j ≤ h → i < wid L.length h j → (j = 0 ∨ (j, i) ∉ ks) → (rw j).getD i [] = tv key L j i
  map : NodesAt w MB ks
  mem : ∀ p, p ∈ ks ↔ isK h S p
  inj : ∀ i j, i ≤ h → j ≤ h → rb i = rb j → i = j
  rD : ∀ j, j ≤ h → rb j ≠ D
  rR : ∀ j, j ≤ h → rb j ≠ RB
  rM : ∀ j, j ≤ h → rb j ≠ MB
  rK : ∀ j, j ≤ h → rb j ≠ KB
  DR : D ≠ RB
  DM : D ≠ MB
  DK : D ≠ KB
  MR : MB ≠ RB
  MK : MB ≠ KB
  FD : F D
  FR : F RB
  FM : F MB
  FK : F KB
  Fr : ∀ j, j ≤ h → F (rb j)
  lt : ∀ k, F k → k < w.heap.size
def T9 : Tree := fun w F D key L S V => ∃ h kv KB RB rc MB rb rw ks, TA w F D key L S V h kv KB RB rc MB rb rw ks
section
variable {w w' : World} {F : Nat → Prop} {D : Nat} {key : Tg} {L : List Tg} {S : List Bool} {V h : Nat} {kv : Value} {KB RB rc MB : Nat} {rb : Nat → Nat} {rw : Nat → List Tg} {ks : List Nd}
theorem TA.same (a : TA w F D key L S V h kv KB RB rc MB rb rw ks) (hs : w.heap.size ≤ w'.heap.size) (hb : ∀ k, F k → w'.heap[k]? = w.heap[k]?) : TA w' F D key L S V h kv KB RB rc MB rb rw ks :=
  { a with
    tree := a.tree.same (hb _ a.FD)
    akey := fun w2 h2 hb2 => a.akey w2 (Nat.le_trans hs h2) (hb2.trans (hb _ a.FK))
    rows := fun j hj => (World.cell?_of_block (hb _ a.FR)).trans (a.rows j hj)
    row := fun j hj => (a.row j hj).same (hb _ (a.Fr j hj))
    map := a.map.same (hb _ a.FM)
    lt := fun k hk => Nat.lt_of_lt_of_le (a.lt k hk) hs }
theorem TA.stay {X : Nat → Nat → Prop} (a : TA w F D key L S V h kv KB RB rc MB rb rw ks) (hc : Chg X w w') (hn : ∀ k o, F k → ¬ X k o) : TA w' F D key L S V h kv KB RB rc MB rb rw ks :=
  a.same hc.size fun k hk => hc.block k (a.lt k hk) fun o => hn k o hk
theorem TA.below (a : TA w F D key L S V h kv KB RB rc MB rb rw ks) (hb : Below w.heap.size w w') : TA w' F D key L S V h kv KB RB rc MB rb rw ks := a.same hb.size fun k hk => hb.block k (a.lt k hk)
theorem TA.fits (a : TA w F D key L S V h kv KB RB rc MB rb rw ks) : w.cell? ⟨D, 0, none⟩ = some kv ∧ w.cell? ⟨D, 1, none⟩ = some (I64 L.length) ∧ w.cell? ⟨D, 2, none⟩ = some (.slice (some ⟨RB, 0, none⟩) (h + 1) rc) ∧ w.cell? ⟨D, 3, none⟩ = some (.map (some MB)) ∧ w.cell? ⟨D, 4, none⟩ = some (I64 V) := by
  have h1 := a.tree.cell
  exact ⟨by rw [h1]; rfl, by rw [h1]; rfl, by rw [h1]; rfl, by rw [h1]; rfl, by rw [h1]; rfl⟩
theorem TA.count (a : TA w F D key L S V h kv KB RB rc MB rb rw ks) : ks.length = st h S := isK_count a.map.nodup a.mem
theorem TA.wide (a : TA w F D key L S V h kv KB RB rc MB rb rw ks) : L.length ≤ wid L.length h 0 ∧ 1 ≤ h ∧ h ≤ 4 := by
  have h4 := isH_four a.few a.hh
  refine ⟨?_, h4⟩
  rw [wid, if_pos (by omega), up, up]; omega
theorem T9.lt (a : T9 w F D key L S V) : ∀ k, F k → k < w.heap.size := by
  obtain ⟨_, _, _, _, _, _, _, _, _, a⟩ := a
  exact a.lt

theorem places_any (a : TA w F D key L S V h kv KB RB rc MB rb rw ks) : Calls Tryd.prog 17 #[.pointer (some ⟨D, 0, none⟩)] w fun e w' => e = .returned (I64 L.length) ∧ w' = w := by
  obtain ⟨_, c1, _, _, _⟩ := a.fits
  clear a
  go_enter Tryd.func17, Tryd.ntmps17
  go_wp2
  go_ret
  exact ⟨rfl, rfl⟩
theorem work_any (a : TA w F D key L S V h kv KB RB rc MB rb rw ks) : Calls Tryd.prog 16 #[.pointer (some ⟨D, 0, none⟩)] w fun e w' => e = .returned (I64 V) ∧ w' = w := by
  obtain ⟨_, _, _, _, c4⟩ := a.fits
  clear a
  go_enter Tryd.func16, Tryd.ntmps16
  go_wp2
  go_ret
  exact ⟨rfl, rfl⟩
theorem stale_any (a : TA w F D key L S V h kv KB RB rc MB rb rw ks) : Calls Tryd.prog 14 #[.pointer (some ⟨D, 0, none⟩)] w fun e w' => e = .returned (I64 (st h S)) ∧ w' = w := by
  obtain ⟨_, _, _, c3, _⟩ := a.fits
  have hl := SetAt.len a.map Tryd.underlying55 3
  rw [List.length_map, a.count] at hl
  clear a
  go_enter Tryd.func14, Tryd.ntmps14
  go_wp2
  go_ret
  exact ⟨rfl, rfl⟩
theorem has_any (a : TA w F D key L S V h kv KB RB rc MB rb rw ks) (d : Int) : Calls Tryd.prog 25 #[.pointer (some ⟨D, 0, none⟩), .int .i64 d] w fun e w' => e = .returned (.bool (decide (0 ≤ d ∧ d < (L.length : Int)))) ∧ w' = w := by
  have hp := places_any a
  clear a
  have hc : (0 ≤ d ∧ d < (L.length : Int) ∧ decide (0 ≤ d ∧ d < (L.length : Int)) = true) ∨ (0 ≤ d ∧ ¬ d < (L.length : Int) ∧ decide (0 ≤ d ∧ d < (L.length : Int)) = false) ∨ (¬ 0 ≤ d ∧ decide (0 ≤ d ∧ d < (L.length : Int)) = false) := by
    by_cases h1 : 0 ≤ d
    · by_cases h2 : d < (L.length : Int)
      · exact .inl ⟨h1, h2, decide_eq_true ⟨h1, h2⟩⟩
      · exact .inr (.inl ⟨h1, h2, decide_eq_false fun h => h2 h.2⟩)
    · exact .inr (.inr ⟨h1, decide_eq_false fun h => h1 h.1⟩)
  generalize decide (0 ≤ d ∧ d < (L.length : Int)) = r at hc ⊢
  rcases hc with ⟨h1, h2, rfl⟩ | ⟨h1, h2, rfl⟩ | ⟨h1, rfl⟩
  all_goals
    go_enter Tryd.func25, Tryd.ntmps25
    go_wp2_with (go_at_call 17; refine hp.mono ?_; rintro e w' ⟨rfl, rfl⟩)
    go_ret
    first
    | exact ⟨rfl, rfl⟩
    | exact ⟨congrArg (fun b => Ending.returned (.bool b)) (decide_eq_false (by omega)), rfl⟩
end
end Go.Proofs.YtepbnimheedodaaDoor
end

section
/-
  THE WALK of the program's Get.
-/
namespace Go.Proofs.YtepbnimheedodaaDoor
open Go.RowKit Mk Mt

theorem rowt {w : World} {g : Nat} {t : TypeId} {l : List Tg} (hR : Row w g t (cells l)) (h32 : ∀ t ∈ l, t.length = 32) (i : Nat) (hi : i < l.length) : w.rangeAt g (i * 32) ((l.getD i []).map V8) := by
  have e : (l.drop i).take 1 = [l.getD i []] := by
    rw [List.drop_eq_getElem_cons hi, List.take_succ_cons, List.take_zero, List.getD_eq_getElem?_getD, List.getElem?_eq_getElem hi]; rfl
  have e2 : cells [l.getD i []] = (l.getD i []).map V8 := by simp [cells]
  have h := cells_piece l h32 i 1 (by omega)
  rw [e, e2, Nat.mul_comm] at h
  exact hR.piece (i * 32) _ h
theorem getD_mem {α : Type} {l : List α} {i : Nat} {d : α} (hi : i < l.length) : l.getD i d ∈ l := by
  rw [List.getD_eq_getElem?_getD, List.getElem?_eq_getElem hi]; exact List.getElem_mem hi
section
variable {w w' : World} {F : Nat → Prop} {D : Nat} {key : Tg} {L : List Tg} {S : List Bool} {V h : Nat} {kv : Value} {KB RB rc MB : Nat} {rb : Nat → Nat} {rw : Nat → List Tg} {ks : List Nd}
theorem TA.low (a : TA w F D key L S V h kv KB RB rc MB rb rw ks) (i : Nat) (hi : i < L.length) : (rw 0).getD i [] = L.getD i [] ∧ i < (rw 0).length := by
  have hw := a.wide.1
  refine ⟨?_, by rw [a.len 0 (Nat.zero_le _)]; omega⟩
  rw [a.val 0 i (Nat.zero_le _) (by omega) (.inl rfl), tv, List.getD_eq_getElem?_getD, List.getD_eq_getElem?_getD, List.getElem?_eq_getElem hi]; rfl
theorem get_bad (a : TA w F D key L S V h kv KB RB rc MB rb rw ks) (d : Int) (hd : d < 0 ∨ (L.length : Int) ≤ d) : Calls Tryd.prog 13 #[.pointer (some ⟨D, 0, none⟩), .int .i64 d] w fun e w' =>
    e = .returned (.tuple #[.agg Hm.Z32.toArray, .int .i64 1]) ∧ Below w.heap.size w w' := by
  have hz := Hm.zeroTag
  have hh := fun W (hb : Below w.heap.size w W) => has_any (a.below hb) d
  rw [decide_eq_false (fun h => by omega)] at hh
  have HH := Lib.hid hh
  clear a hh
  go_enter Tryd.func13, Tryd.ntmps13
  go_wp2_with (first
    | (go_at_call 25; refine (HH.out _ ((Below.refl _ _).alloc (Nat.le_refl _) _)).mono ?_; rintro e w' ⟨rfl, rfl⟩)
    | (refine wpList_store_row rfl 34 _ _ rfl w.heap.size Hm.Z32.toArray rfl rfl 34 _ (Row.new w _ Hm.Z32) (by kernel_rfl) (by kernel_rfl) (by kernel_rfl) ?_))
  have hR := (Row.new w 34 Hm.Z32).whole Hm.Z32
  obtain ⟨W3, hW3⟩ : ∃ W3, W3 = (w.alloc (.cells Hm.Z32.toArray 34)).setRow w.heap.size Hm.Z32.toArray := ⟨_, rfl⟩
  have hB : Below w.heap.size w W3 := by rw [hW3]; exact below_setRow' ((Below.refl _ _).alloc (Nat.le_refl _) _) (Nat.le_refl _) _
  rw [← hW3] at hR ⊢
  have hinfo : (Tryd.prog.info? 34).map (·.size) = some Hm.Z32.toArray.size := by kernel_rfl
  refine bodyPost_ret (v := .tuple #[.agg Hm.Z32.toArray, .int .i64 1]) (Hm.results_row_tmp (p := 4) (u := 5) rfl _ _ w.heap.size 34 Hm.Z32.toArray (0, 0) _ rfl hR Tryd.underlying34 rfl hinfo) rfl ?_
  exact ⟨rfl, hB⟩
theorem get_ok (a : TA w F D key L S V h kv KB RB rc MB rb rw ks) (i : Nat) (hi : i < L.length) : Calls Tryd.prog 13 #[.pointer (some ⟨D, 0, none⟩), I64 i] w fun e w' =>
    (∃ ts : List Value, Hid (Vec 32 (L.getD i []) ts) ∧ e = .returned (.tuple #[.agg ts.toArray, .int .i64 0])) ∧ Below w.heap.size w w' := by
  have hz := Hm.zeroTag
  have hh := fun W (hb : Below w.heap.size w W) => has_any (a.below hb) (i : Int)
  rw [decide_eq_true (show 0 ≤ (i : Int) ∧ (i : Int) < (L.length : Int) by omega)] at hh
  have HH := Lib.hid hh
  obtain ⟨_, _, c2, _, _⟩ := a.fits
  have r0 := a.rows 0 (Nat.zero_le _)
  obtain ⟨l1, l2⟩ := a.low i hi
  have hw := a.wide
  have hld := rowt (a.row 0 (Nat.zero_le _)) (a.r32 0 (Nat.zero_le _)) i l2
  rw [l1] at hld
  have h32 := a.h32 _ (getD_mem (d := []) hi)
  obtain ⟨rs, hrs⟩ : ∃ rs, rs = (L.getD i []).map V8 := ⟨_, rfl⟩
  have hv : Vec 32 (L.getD i []) rs := ⟨hrs, h32⟩
  rw [← hrs] at hld
  have hlr := a.lt _ (a.Fr 0 (Nat.zero_le _))
  have hlR := a.lt _ a.FR
  have hlD := a.lt _ a.FD
  obtain ⟨wd, hwd⟩ : ∃ wd, wd = wid L.length h 0 := ⟨_, rfl⟩
  rw [← hwd] at r0 hw
  have hiw : (i : Int) < (wd : Int) := by omega
  have Hv := Lib.hid hv
  have Hld : Hid (∀ W, Below w.heap.size w W → W.rangeAt (rb 0) (i * 32) rs) := fun W hW j v hj => (hW.cell (p := ⟨rb 0, i * 32 + j, none⟩) hlr).trans (hld j v hj)
  have Hlen : Hid (rs.length = 32) := hv.len
  have hl32 := hv.size
  have hB0 : Below w.heap.size w (w.alloc (.cells Hm.Z32.toArray 34)) := (Below.refl _ _).alloc (Nat.le_refl _) _
  replace c2 := (hB0.cell (p := ⟨D, 2, none⟩) hlD).trans c2
  replace r0 := (hB0.cell (p := ⟨RB, 0, none⟩) hlR).trans r0
  have Hr : Hid (∃ h2, h = h2) := ⟨h, rfl⟩
  have HB0 := Lib.hid hB0
  clear a hh l1 l2 hld h32 hv hrs hwd hw hB0 hi
  obtain ⟨w0, hw0⟩ : ∃ w0, w0 = w.alloc (.cells Hm.Z32.toArray 34) := ⟨_, rfl⟩
  have hR0 : Row w0 w.heap.size 34 Hm.Z32 := by rw [hw0]; exact Row.new w _ Hm.Z32
  have HR0 := Lib.hid hR0
  rw [← hw0] at c2 r0 HB0
  clear hR0
  go_enter Tryd.func13, Tryd.ntmps13
  go_wp2_with (first
    | (go_at_call 25; rw [← hw0]; refine (HH.out _ HB0.out).mono ?_; rintro e w' ⟨rfl, rfl⟩; clear hw0)
    | (refine wpList_load_mid rfl 34 (.tmp 18) rfl (rb 0) (i * 32) rfl rs _ (Hld.out _ HB0.out) Tryd.underlying34 rfl (by rw [Hlen.out]; kernel_rfl) ?_)
    | (refine wpList_store_row rfl 34 (.tmp 4) (.tmp 19) rfl w.heap.size rs.toArray rfl rfl 34 _ HR0.out (by rw [Hv.out.size]; kernel_rfl) (by rw [Hv.out.size]; rfl) Hv.out.one ?_))
  have hR := HR0.out.whole rs
  obtain ⟨W3, hW3⟩ : ∃ W3, W3 = w'.setRow w.heap.size rs.toArray := ⟨_, rfl⟩
  have hB : Below w.heap.size w W3 := by rw [hW3]; exact below_setRow' HB0.out (Nat.le_refl _) _
  rw [← hW3] at hR ⊢
  have hinfo : (Tryd.prog.info? 34).map (·.size) = some rs.toArray.size := by rw [Hv.out.size]; kernel_rfl
  refine bodyPost_ret (v := .tuple #[.agg rs.toArray, .int .i64 0]) (Hm.results_row_tmp (p := 4) (u := 5) rfl _ _ w.heap.size 34 rs.toArray (0, 0) _ rfl hR Tryd.underlying34 rfl hinfo) rfl ?_
  exact ⟨⟨rs, Hv, rfl⟩, hB⟩
end
end Go.Proofs.YtepbnimheedodaaDoor
end

section
/-
  WHAT A SET COMES TO (no walk): one tag of the lowest row, and the nodes above it.
-/
namespace Go.Proofs.YtepbnimheedodaaDoor
open Go.RowKit Mk Mt

section
variable {w w1 w' : World} {F : Nat → Prop} {D : Nat} {key : Tg} {L : List Tg} {S : List Bool} {V h : Nat} {kv : Value} {KB RB rc MB : Nat} {rb : Nat → Nat} {rw : Nat → List Tg} {ks : List Nd}
theorem cells_set (l : List Tg) (h32 : ∀ t ∈ l, t.length = 32) (i : Nat) (hi : i < l.length) (t : Tg) :
    ∃ a b m, cells l = a ++ (m ++ b) ∧ cells (l.set i t) = a ++ (t.map V8 ++ b) ∧ a.length = i * 32 ∧ m.length = 32 := by
  refine ⟨cells (l.take i), cells (l.drop (i + 1)), (l.getD i []).map V8, ?_, ?_, ?_, ?_⟩
  · have e : l = l.take i ++ ([l.getD i []] ++ l.drop (i + 1)) := by
      rw [List.getD_eq_getElem?_getD, List.getElem?_eq_getElem hi, Option.getD_some, List.singleton_append, ← List.drop_eq_getElem_cons hi, List.take_append_drop]
    have e2 : cells l = cells (l.take i) ++ (cells [l.getD i []] ++ cells (l.drop (i + 1))) := by rw [← cells_append, ← cells_append, ← e]
    rw [e2]; simp [cells]
  · have e : l.set i t = l.take i ++ ([t] ++ l.drop (i + 1)) := by rw [List.set_eq_take_append_cons_drop, if_pos hi]; rfl
    rw [e, cells_append, cells_append]; simp [cells]
  · rw [cells_length _ (fun t ht => h32 t (List.mem_of_mem_take ht)), List.length_take]; omega
  · rw [List.length_map, h32 _ (getD_mem hi)]
theorem row_set {g : Nat} {ty : TypeId} {l : List Tg} (hR : Row w g ty (cells l)) (h32 : ∀ t ∈ l, t.length = 32) (i : Nat) (hi : i < l.length) (t : Tg) (ht : t.length = 32) :
    Row (w.setCells g (i * 32) (t.map V8)) g ty (cells (l.set i t)) ∧ w.there g (i * 32) 32 := by
  obtain ⟨a, b, m, e1, e2, e3, e4⟩ := cells_set l h32 i hi t
  rw [e1] at hR
  rw [e2]
  refine ⟨row_mid _ _ _ _ _ _ e3 (by rw [e4, List.length_map, ht]) hR, hR.thereMid _ _ (by rw [List.length_append, List.length_append]; omega)⟩
theorem set_32 {l : List Tg} (h32 : ∀ t ∈ l, t.length = 32) (i : Nat) {t : Tg} (ht : t.length = 32) : ∀ u ∈ l.set i t, u.length = 32 := fun u hu => by
  rcases List.mem_or_eq_of_mem_set hu with h | h
  · exact h32 u h
  · rw [h]; exact ht
theorem getD_set {α : Type} (l : List α) (i k : Nat) (t d : α) (hi : i < l.length) : (l.set i t).getD k d = if k = i then t else l.getD k d := by
  rw [List.getD_eq_getElem?_getD, List.getD_eq_getElem?_getD, List.getElem?_set]
  by_cases e : i = k
  · subst e; simp [hi]
  · rw [if_neg e, if_neg (fun x => e x.symm)]
/-- The row of a level behind a Set. -/
def rwS (rw : Nat → List Tg) (i : Nat) (t : Tg) (j : Nat) : List Tg := if j = 0 then (rw 0).set i t else rw j
theorem TA.setRow (a : TA w F D key L S V h kv KB RB rc MB rb rw ks) (i : Nat) (hi : i < L.length) (t : Tg) (ht : t.length = 32) (hs : w.heap.size ≤ w'.heap.size) (hb : ∀ k, F k → k ≠ rb 0 → k ≠ MB → w'.heap[k]? = w.heap[k]?)
    (hR : Row w' (rb 0) 34 (cells ((rw 0).set i t))) (ks' : List Nd) (hm : NodesAt w' MB ks') (hk : ∀ p, p ∈ ks' ↔ p ∈ ks ∨ (1 ≤ p.1 ∧ p.1 ≤ h ∧ p.2 = i / 4 ^ p.1)) :
    TA w' F D key (L.set i t) (S.set i true) V h kv KB RB rc MB rb (rwS rw i t) ks' := by
  have hz := Nat.zero_le h
  have hl := a.low i hi
  have hlen : (L.set i t).length = L.length := List.length_set
  refine { hh := by rw [hlen]; exact a.hh, hS := by rw [List.length_set, hlen]; exact a.hS, pos := by rw [hlen]; exact a.pos, few := by rw [hlen]; exact a.few, h32 := set_32 a.h32 i ht, hk := a.hk, tree := ?_, akey := ?_, rows := ?_, row := ?_, len := ?_, r32 := ?_, val := ?_, map := hm, mem := ?_,
           inj := a.inj, rD := a.rD, rR := a.rR, rM := a.rM, rK := a.rK, DR := a.DR, DM := a.DM, DK := a.DK, MR := a.MR, MK := a.MK, FD := a.FD, FR := a.FR, FM := a.FM, FK := a.FK, Fr := a.Fr, lt := fun k hk => Nat.lt_of_lt_of_le (a.lt k hk) hs }
  · rw [hlen]
    exact a.tree.same (hb D a.FD (fun e => a.rD 0 hz e.symm) a.DM)
  · exact fun w2 h2 hb2 => a.akey w2 (Nat.le_trans hs h2) (hb2.trans (hb KB a.FK (fun e => a.rK 0 hz e.symm) (fun e => a.MK e.symm)))
  · intro j hj
    rw [hlen]
    exact (World.cell?_of_block (hb RB a.FR (fun e => a.rR 0 hz e.symm) (fun e => a.MR e.symm))).trans (a.rows j hj)
  · intro j hj
    unfold rwS
    by_cases e : j = 0
    · subst e; rw [if_pos rfl]; exact hR
    · rw [if_neg e]
      exact (a.row j hj).same (hb (rb j) (a.Fr j hj) (fun e2 => e (a.inj j 0 hj hz e2)) (a.rM j hj))
  · intro j hj
    rw [hlen]
    unfold rwS
    by_cases e : j = 0
    · subst e; rw [if_pos rfl, List.length_set]; exact a.len 0 hj
    · rw [if_neg e]; exact a.len j hj
  · intro j hj
    unfold rwS
    by_cases e : j = 0
    · subst e; rw [if_pos rfl]; exact set_32 (a.r32 0 hj) i ht
    · rw [if_neg e]; exact a.r32 j hj
  · intro j i0 hj hi0 hn
    rw [hlen] at hi0
    unfold rwS
    by_cases e : j = 0
    · subst e
      rw [if_pos rfl, getD_set _ _ _ _ _ hl.2, tv, getD_set _ _ _ _ _ hi]
      by_cases e2 : i0 = i
      · rw [if_pos e2, if_pos e2]
      · rw [if_neg e2, if_neg e2, a.val 0 i0 hj hi0 (.inl rfl), tv]
    · rw [if_neg e]
      rcases hn with hn | hn
      · exact absurd hn e
      have h1 : (j, i0) ∉ ks := fun h2 => hn ((hk _).2 (.inl h2))
      have h2 : i0 ≠ i / 4 ^ j := fun h3 => hn ((hk _).2 (.inr ⟨Nat.pos_of_ne_zero e, hj, h3⟩))
      rw [a.val j i0 hj hi0 (.inr h1), tv_set key L i t j i0 h2]
  · intro p
    rw [hk, isK_set (by rw [a.hS]; exact hi), a.mem]
end
end Go.Proofs.YtepbnimheedodaaDoor
end

section
/-
  THE WALK of the program's Set.
-/
namespace Go.Proofs.YtepbnimheedodaaDoor
open Go.RowKit Mk Mt

theorem cells_off {g g2 o2 : Nat} : ∀ {w : World} (vs : List Value) (o : Nat), g ≠ g2 → (w.setCells g2 o vs).cell? ⟨g, o2, none⟩ = w.cell? ⟨g, o2, none⟩
  | _, [], _, _ => rfl
  | w, v :: r, o, h => by
    rw [World.setCells, cells_off r (o + 1) h]
    exact World.cell?_of_block (heap_setCell_other w ⟨g2, o, none⟩ g v h)
theorem size_cells {g : Nat} : ∀ {w : World} (vs : List Value) (o : Nat), (w.setCells g o vs).heap.size = w.heap.size
  | _, [], _ => rfl
  | w, v :: r, o => by
    rw [World.setCells, size_cells r (o + 1)]
    simp [World.setCell]
theorem block_off {g g2 : Nat} : ∀ {w : World} (vs : List Value) (o : Nat), g ≠ g2 → (w.setCells g2 o vs).heap[g]? = w.heap[g]?
  | _, [], _, _ => rfl
  | w, v :: r, o, h => by
    rw [World.setCells, block_off r (o + 1) h]
    exact heap_setCell_other w ⟨g2, o, none⟩ g v h
theorem run_update_op {P : Program} {w w' : World} {a : Act} {o : Oper} {t : TypeId} {m k x : Operand} {mv kv xv : Value} (ho : o.op = .mapUpdate t m k x) (hm : a.eval m = mv) (hk : a.eval k = kv) (hx : a.eval x = xv) (hr : (Instr.mapUpdate t mv kv xv).run P w = .ok () w') :
    (execOp a.eval o).run P w = .ok .skip w' := by
  simp [execOp, ho, hm, hk, hx, hr, Result.andThen]
theorem wpList_skip {P : Program} {ops : Array Oper} {Q : Exit → Act → World → Prop} {o : Oper} {rest : List Oper} {a : Act} {w w' : World} (hg : o.guard = none)
    (hr : (execOp a.eval o).run P w = .ok .skip w') (h : wpList P ops Q rest (a.put o.dst undef) w') : wpList P ops Q (o :: rest) a w :=
  wpList_plain hg fun K hK => by unfold Oper.wp; rw [hr]; exact hK _ _ h
theorem NodesAt.add {w : World} {b : Nat} {ks : List Nd} (h : NodesAt w b ks) (x : Nd) (h1 : x.1 ≤ 1000000) (h2 : x.2 ≤ 1000000) :
    ∃ w' ks', (Instr.mapUpdate 55 (.map (some b)) (.agg #[I64 x.1, I64 x.2]) (.agg #[])).run Tryd.prog w = .ok () w' ∧ Chg (fun q _ => q = b) w w' ∧ NodesAt w' b ks' ∧ ∀ p, p ∈ ks' ↔ p ∈ ks ∨ p = x := by
  obtain ⟨l, hl⟩ := node_key (x.1 : Int) (x.2 : Int) (by omega) (by omega) (by omega) (by omega)
  obtain ⟨w', hr, hc, _, ⟨_, h3⟩ | ⟨hin, h3⟩⟩ := SetAt.add node_keyed h Tryd.underlying55 hl
  · refine ⟨w', ks ++ [x], hr, hc, ?_, fun p => by rw [List.mem_append, List.mem_singleton]⟩
    unfold NodesAt
    rw [List.map_append]
    exact h3
  · refine ⟨w', ks, hr, hc, h3, fun p => ⟨.inl, ?_⟩⟩
    rintro (hp | rfl)
    · exact hp
    · obtain ⟨y, hy, hye⟩ := List.mem_map.1 hin
      rwa [← eN_inj hye]
/-- What is known between two levels of Set. -/
structure AtS (w1 wr : World) (MB : Nat) (ks : List Nd) (i lv c : Nat) (ks' : List Nd) : Prop where
  map : NodesAt wr MB ks'
  mem : ∀ p, p ∈ ks' ↔ p ∈ ks ∨ (1 ≤ p.1 ∧ p.1 < lv ∧ p.2 = i / 4 ^ p.1)
  at_ : c = i / 4 ^ (lv - 1)
  chg : Chg (fun q _ => q = MB) w1 wr
section
variable {w w' : World} {F : Nat → Prop} {D : Nat} {key : Tg} {L : List Tg} {S : List Bool} {V h : Nat} {kv : Value} {KB RB rc MB : Nat} {rb : Nat → Nat} {rw : Nat → List Tg} {ks : List Nd}
theorem set_bad (a : TA w F D key L S V h kv KB RB rc MB rb rw ks) (d : Int) (hd : d < 0 ∨ (L.length : Int) ≤ d) (t : Tg) (ts : List Value) (hv : Vec 32 t ts) : Calls Tryd.prog 9 #[.pointer (some ⟨D, 0, none⟩), .int .i64 d, .agg ts.toArray] w fun e w' =>
    e = .returned (.int .i64 1) ∧ Below w.heap.size w w' := by
  have hh := has_any (a.below ((Below.refl _ _).alloc (Nat.le_refl _) (.cells ts.toArray 34))) d
  rw [decide_eq_false (fun h => by omega)] at hh
  have hs32 := hv.size
  have HB : Hid (Below w.heap.size w (w.alloc (.cells ts.toArray 34))) := (Below.refl _ _).alloc (Nat.le_refl _) _
  clear a hv
  go_enter Tryd.func9, Tryd.ntmps9
  go_wp2_with (go_at_call 25; refine hh.mono ?_; rintro e w' ⟨rfl, rfl⟩)
  go_ret
  exact ⟨rfl, HB.out⟩
set_option maxRecDepth 100000 in
set_option maxHeartbeats 1000000 in
theorem set_ok (a : TA w F D key L S V h kv KB RB rc MB rb rw ks) (i : Nat) (hi : i < L.length) (t : Tg) (ts : List Value) (hv : Vec 32 t ts) : Calls Tryd.prog 9 #[.pointer (some ⟨D, 0, none⟩), I64 i, .agg ts.toArray] w fun e w' =>
    e = .returned (.int .i64 0) ∧ AfterT T9 w F w' D key (L.set i t) (S.set i true) V := by
  have hz := Nat.zero_le h
  have hwi := a.wide
  have hlow := a.low i hi
  have HA := Lib.hid a
  have hs32 := hv.size
  obtain ⟨bt, hbt⟩ : ∃ bt, bt = w.heap.size := ⟨_, rfl⟩
  obtain ⟨wb, hwb⟩ : ∃ wb, wb = w.alloc (.cells ts.toArray 34) := ⟨_, rfl⟩
  have hB0 : Below w.heap.size w wb := by rw [hwb]; exact (Below.refl _ _).alloc (Nat.le_refl _) _
  have hRt : Row wb bt 34 ts := by rw [hwb, hbt]; exact Row.new w 34 ts
  have a0 := a.below hB0
  have hh := has_any a0 (i : Int)
  rw [decide_eq_true (show 0 ≤ (i : Int) ∧ (i : Int) < (L.length : Int) by omega)] at hh
  obtain ⟨_, _, c2, c3, _⟩ := a0.fits
  obtain ⟨wd, hwd⟩ : ∃ wd, wd = wid L.length h 0 := ⟨_, rfl⟩
  obtain ⟨r0, hr0⟩ : ∃ r0, r0 = rb 0 := ⟨_, rfl⟩
  have hrow := a0.row 0 hz
  have r00 := a0.rows 0 hz
  have h32 := a.r32 0 hz
  rw [← hr0] at hrow r00
  rw [← hwd] at r00
  have Hv := Lib.hid hv
  have Hbt := Lib.hid hbt
  have hlr : r0 < w.heap.size := by rw [hr0]; exact a.lt _ (a.Fr 0 hz)
  have HDr : Hid (D ≠ r0) := fun e => a.rD 0 hz (by rw [← hr0, ← e])
  have HRr : Hid (RB ≠ r0) := fun e => a.rR 0 hz (by rw [← hr0, ← e])
  have Hbr : Hid (bt ≠ r0) := by show _ ≠ _; omega
  have Hr0 := Lib.hid hr0
  have Hiw : Hid (0 ≤ (i : Int) ∧ (i : Int) < (wd : Int)) := by
    have hwi1 := hwi.1
    rw [← hwd] at hwi1
    show _ ∧ _
    omega
  have HKeep : Hid (∀ W, Below wb.heap.size wb W → W.cell? ⟨D, 2, none⟩ = some (.slice (some ⟨RB, 0, none⟩) (h + 1) rc) ∧ W.cell? ⟨RB, 0, none⟩ = some (.slice (some ⟨r0, 0, none⟩) wd wd) ∧ Row W bt 34 ts) := fun W hW =>
    ⟨(hW.cell (p := ⟨D, 2, none⟩) (a0.lt _ a0.FD)).trans c2, (hW.cell (p := ⟨RB, 0, none⟩) (a0.lt _ a0.FR)).trans r00, hRt.below hW hRt.lt⟩
  have HThere : Hid (∀ W, Below wb.heap.size wb W → W.there r0 (i * 32) ts.toArray.size) := fun W hW => by
    rw [hs32]; exact (row_set (hrow.below hW hrow.lt) h32 i hlow.2 t hv.2).2
  have HSt : Hid (∀ W, Below wb.heap.size wb W → Row (W.setCells r0 (i * 32) ts) r0 34 (cells ((rw 0).set i t)) ∧ NodesAt (W.setCells r0 (i * 32) ts) MB ks ∧ Chg (fun q _ => F q) w (W.setCells r0 (i * 32) ts) ∧ (∀ q, F q → q ≠ r0 → (W.setCells r0 (i * 32) ts).heap[q]? = w.heap[q]?)) := fun W hW => by
    have hr1 := row_set (hrow.below hW hrow.lt) h32 i hlow.2 t hv.2
    rw [← hv.1] at hr1
    have hBW : Below w.heap.size w W := hB0.trans (hW.mono hB0.size)
    have hlen : ts.length = 32 := hv.len
    have hb : ∀ q, q < w.heap.size → q ≠ r0 → (W.setCells r0 (i * 32) ts).heap[q]? = w.heap[q]? := fun q hq hn => (block_off ts (i * 32) hn).trans (hBW.block q hq)
    exact ⟨hr1.1, a.map.same (hb MB (a.lt _ a.FM) (fun e => a.rM 0 hz (by rw [← hr0, e]))), (Chg.below hBW _).setCells (fun _ _ _ => by show F _; rw [hr0]; exact a.Fr 0 hz) (by rw [hlen]; exact hr1.2), fun q hq hn => hb q (a.lt q hq) hn⟩
  have HMDR : Hid (MB ≠ D ∧ MB ≠ RB ∧ D < w.heap.size ∧ F MB ∧ h ≤ 4 ∧ i ≤ 100) := ⟨fun e => a.DM e.symm, a.MR, a.lt _ a.FD, a.FM, hwi.2.2, by have := a.few; omega⟩
  have Hhi := Lib.hid hi
  have Hwd := Lib.hid hwd
  have HC23 : Hid (w.cell? ⟨D, 2, none⟩ = some (.slice (some ⟨RB, 0, none⟩) (h + 1) rc) ∧ w.cell? ⟨D, 3, none⟩ = some (.map (some MB))) := ⟨a.fits.2.2.1, a.fits.2.2.2.1⟩
  clear hv hbt hB0 hRt a0 hrow r00 h32 hlow hwi hi a hr0 hwd hz c2 c3
  go_enter Tryd.func9, Tryd.ntmps9
  go_wp2_with (go_at_call 25; rw [← hwb]; clear hwb; refine hh.mono ?_; rintro e wb ⟨rfl, rfl⟩; clear hh)
  rw [← Hbt.out]
  have hC : Below wb.heap.size wb wb.drew := below_drewN (Below.refl _ _) 1
  refine wp_region_held_drew (S := (fun W => W.cell? ⟨D, 2, none⟩ = some (.slice (some ⟨RB, 0, none⟩) (h + 1) rc) ∧ W.cell? ⟨RB, 0, none⟩ = some (.slice (some ⟨r0, 0, none⟩) wd wd) ∧ Row W bt 34 ts)) (by kernel_rfl) (HKeep.out _ hC) (fun hHeld => ?_)
  generalize wb.drew = wbd at *
  refine wpAnyH_take (i := 0) (oi := ⟨some 12, _, _, _, _, _⟩) (v := ?_) rfl (by kernel_rfl) (by kernel_rfl) (by kernel_rfl) (fun _ _ _ h => h) (Or.inl ⟨by rfl, ?_⟩) hHeld ?_
  rotate_left
  · intro w hSw
    go_simp
    with_reducible rfl
  try go_frame
  refine wpAnyH_take (i := 1) (oi := ⟨some 13, _, _, _, _, _⟩) (v := ?_) rfl (by kernel_rfl) (by kernel_rfl) (by kernel_rfl) (fun _ _ _ h => h) (Or.inl ⟨by rfl, ?_⟩) hHeld ?_
  rotate_left
  · intro w hSw
    go_simp
    with_reducible rfl
  try go_frame
  refine wpAnyH_take (i := 2) (oi := ⟨some 14, _, _, _, _, _⟩) (v := ?_) rfl (by kernel_rfl) (by kernel_rfl) (by kernel_rfl) (fun _ _ _ h => h) (Or.inl ⟨by rfl, ?_⟩) hHeld ?_
  rotate_left
  · intro w hSw
    go_simp
    with_reducible rfl
  try go_frame
  refine wpAnyH_take (i := 3) (oi := ⟨some 15, _, _, _, _, _⟩) (v := ?_) rfl (by kernel_rfl) (by kernel_rfl) (by kernel_rfl) (fun _ _ _ h => h) (Or.inl ⟨by rfl, ?_⟩) hHeld ?_
  rotate_left
  · intro w hSw
    have s1 := hSw.1
    go_simp
    with_reducible rfl
  try go_frame
  refine wpAnyH_take (i := 4) (oi := ⟨some 16, _, _, _, _, _⟩) (v := ?_) rfl (by kernel_rfl) (by kernel_rfl) (by kernel_rfl) (fun _ _ _ h => h) (Or.inl ⟨by rfl, ?_⟩) hHeld ?_
  rotate_left
  · intro w hSw
    go_simp
    with_reducible rfl
  try go_frame
  refine wpAnyH_take (i := 5) (oi := ⟨some 17, _, _, _, _, _⟩) (v := ?_) rfl (by kernel_rfl) (by kernel_rfl) (by kernel_rfl) (fun _ _ _ h => h) (Or.inl ⟨by rfl, ?_⟩) hHeld ?_
  rotate_left
  · intro w hSw
    have s2 := hSw.2.1
    go_simp
    with_reducible rfl
  try go_frame
  refine wpAnyH_take (i := 6) (oi := ⟨some 18, _, _, _, _, _⟩) (v := ?_) rfl (by kernel_rfl) (by kernel_rfl) (by kernel_rfl) (fun _ _ _ h => h) (Or.inl ⟨by rfl, ?_⟩) hHeld ?_
  rotate_left
  · intro w hSw
    go_simp
    with_reducible rfl
  try go_frame
  refine wpAnyH_take (i := 7) (oi := ⟨some 19, _, _, _, _, _⟩) (v := .agg (ts).toArray) rfl (by kernel_rfl) (by kernel_rfl) (by kernel_rfl) (fun _ _ _ h => h) (yieldsIf_load_mid (by rfl) 34 (.tmp 5) rfl (bt) (0) rfl (ts) _ (fun W h => h.2.2.sees) Tryd.underlying34 rfl (by rw [Hv.out.len]; kernel_rfl)) hHeld ?_
  try go_frame
  refine wpAnyH_take (i := 8) (oi := ⟨some 20, _, _, _, _, _⟩) (v := ?_) rfl (by kernel_rfl) (by kernel_rfl) (by kernel_rfl) (fun _ _ _ h => h) (Or.inl ⟨by rfl, ?_⟩) hHeld ?_
  rotate_left
  · intro w hSw
    have hiw := Hiw.out
    go_simp
    with_reducible rfl
  try go_frame
  refine wpAnyH_ready (rs := [9]) (by kernel_rfl) (by simp) ?_
  refine AllReadyH.cons (o := ⟨none, _, _, _, _, _⟩) rfl (fun K hK => ?_) AllReadyH.nil
  rw [if_pos (by rfl)]
  refine Go.wp_store_mid 34 (.tmp 20) (.tmp 19) rfl (r0) (i * 32) ts.toArray rfl rfl (HThere.out _ hC) (by rw [Hv.out.size]; kernel_rfl) Hv.out.one ?_
  rw [List.toList_toArray]
  have HAf := Lib.hid (HSt.out _ hC)
  have hX := HKeep.out _ hC
  refine hK.out _ _ ⟨(cells_off ts (i * 32) HDr.out).trans hX.1, (cells_off ts (i * 32) HRr.out).trans hX.2.1, row_apart hX.2.2 Hbr.out ts (i * 32)⟩ (fun hHeld => ?_)
  clear hK K hX
  generalize (wbd.setCells r0 (i * 32) ts) = w1 at *
  try go_frame
  refine wpAnyH_done (by kernel_rfl) ?_ _
  clear hC HKeep hHeld HSt HThere
  go_wp2
  have HS0 : Hid (AtS w1 w1 MB ks i 1 i ks) := ⟨HAf.out.2.1, fun p => ⟨.inl, fun h => h.elim id (fun x => absurd x.2.1 (by omega))⟩, by simp, Chg.refl _ _⟩
  have HD1 : Hid (D < w1.heap.size) := by show _ < _; have h1 := HMDR.out.2.2.1; have h2 := HAf.out.2.2.1.size; omega
  have HCw : Hid (w1.cell? ⟨D, 2, none⟩ = some (.slice (some ⟨RB, 0, none⟩) (h + 1) rc) ∧ w1.cell? ⟨D, 3, none⟩ = some (.map (some MB))) := by
    have hb := HAf.out.2.2.2 D HA.out.FD HDr.out
    exact ⟨(World.cell?_of_block hb).trans HC23.out.1, (World.cell?_of_block hb).trans HC23.out.2⟩
  have h1 : 1 ≤ h := HA.out.wide.2.1
  go_loopw [1, 7] (fun p q wr => ∃ (lv c : Nat) (ks' : List Nd), 1 ≤ lv ∧ lv ≤ h + 1 ∧ p = I64 c ∧ q = I64 lv ∧ c ≤ 100 ∧ Hid (AtS w1 wr MB ks i lv c ks')) (fun _ q _ => h + 1 - (intOf q).toNat)
  case atStart => exact ⟨1, i, ks, by omega, by omega, rfl, rfl, HMDR.out.2.2.2.2.2, HS0⟩
  case round =>
    obtain ⟨lv, c, ks', hl1, hlh, rfl, rfl, hc100, HR⟩ := hrel
    clear HS0
    have c2 : wr.cell? ⟨D, 2, none⟩ = some (.slice (some ⟨RB, 0, none⟩) (h + 1) rc) := (HR.out.chg.cell D 2 HD1.out (fun e => HMDR.out.1 e.symm)).trans HCw.out.1
    have c3 : wr.cell? ⟨D, 3, none⟩ = some (.map (some MB)) := (HR.out.chg.cell D 3 HD1.out (fun e => HMDR.out.1 e.symm)).trans HCw.out.2
    have h4 : h ≤ 4 := HMDR.out.2.2.2.2.1
    by_cases hlt : lv < h + 1
    · obtain ⟨c', hc'⟩ : ∃ c', c' = c / 4 := ⟨_, rfl⟩
      have hcq : (c : Int) / 4 = (c' : Int) := by omega
      obtain ⟨w3, ks3, hr, hch, hmap, hmem⟩ := HR.out.map.add (lv, c') (by show lv ≤ _; omega) (by show c' ≤ _; omega)
      have HN : Hid (AtS w1 w3 MB ks i (lv + 1) c' ks3) := by
        refine ⟨hmap, fun p => ?_, ?_, HR.out.chg.then hch⟩
        · rw [hmem, HR.out.mem]
          have e1 : i / 4 ^ lv = c' := by
            rw [hc', HR.out.at_, Nat.div_div_eq_div_mul, ← Nat.pow_succ, show (lv - 1).succ = lv by omega]
          constructor
          · rintro ((x | ⟨x, y, z⟩) | rfl)
            · exact .inl x
            · exact .inr ⟨x, by omega, z⟩
            · exact .inr ⟨hl1, Nat.lt_succ_self _, e1.symm⟩
          · rintro (x | ⟨x, y, z⟩)
            · exact .inl (.inl x)
            · by_cases e : p.1 = lv
              · right
                exact Prod.ext e (by rw [z, e, e1])
              · exact .inl (.inr ⟨x, by omega, z⟩)
        · rw [hc', HR.out.at_, Nat.div_div_eq_div_mul, ← Nat.pow_succ, show (lv - 1).succ = lv + 1 - 1 by omega]
      have hc2 : c' ≤ 100 := by omega
      clear hc' hch hmap hmem HR
      go_wp2_with (refine wpList_skip rfl (run_update_op rfl rfl rfl rfl hr) ?_)
      go_roundw
      case rel => exact ⟨lv + 1, c', ks3, by omega, by omega, rfl, by go_num, hc2, HN⟩
      case measure => rw [show intOf (.int .i64 ((lv : Int) + 1)) = (lv : Int) + 1 from rfl, show intOf (.int .i64 (lv : Int)) = (lv : Int) from rfl]; omega
    · obtain rfl : lv = h + 1 := by omega
      clear hc100
      go_wp2
      refine bodyPost_ret (results_tmp rfl _ _ _) rfl ?_
      refine ⟨rfl, F, ⟨h, kv, KB, RB, rc, MB, rb, rwS rw i t, ks', ?_⟩, fun k hk => .inl hk, ?_⟩
      · have hx := HAf.out
        refine HA.out.setRow i Hhi.out t Hv.out.2 (Nat.le_trans hx.2.2.1.size HR.out.chg.size) (fun k hk h0 hm => ?_) ?_ ks' HR.out.map (fun p => ?_)
        · exact (HR.out.chg.block k (Nat.lt_of_lt_of_le (HA.out.lt k hk) hx.2.2.1.size) (fun _ e => hm e)).trans (hx.2.2.2 k hk (by rw [Hr0.out]; exact h0))
        · rw [← Hr0.out]
          exact hx.1.same (HR.out.chg.block r0 hx.1.lt (fun _ e => HA.out.rM 0 (Nat.zero_le _) (by rw [← Hr0.out, e])))
        · rw [HR.out.mem]
          constructor
          · rintro (x | ⟨x, y, z⟩)
            · exact .inl x
            · exact .inr ⟨x, by omega, z⟩
          · rintro (x | ⟨x, y, z⟩)
            · exact .inl x
            · exact .inr ⟨x, by omega, z⟩
      · exact HAf.out.2.2.1.trans HR.out.chg fun b _ _ e => by rw [e]; exact HA.out.FM
end
end Go.Proofs.YtepbnimheedodaaDoor
end
