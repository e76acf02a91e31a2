/-
  4 TEXTS IN ONE (NT, NU, NV, NW): each says at its own head what it holds.
-/
import Derived.Test.YtepbnimheedodaaDoorNR
import Derived.Deep.QuietTactic
import Derived.Shelf.SlSortCmp.WholeK
import Derived.Test.YtepbnimheedodaaDoorNS

section
/-
  THE WALKS of cmp.Compare, slices.Compare (over two numbers each) and the program's byLevel; nodes in their order.
-/
namespace Go.Proofs.YtepbnimheedodaaDoor
open Go.RowKit Go.Shelf Go.Lib Go.Sort

def cI (x y : Int) : Int := if x < y then -1 else if y < x then 1 else 0
theorem nan_any (x : Int) (w : World) : Calls Tryd.prog 74 #[.int .i64 x] w fun e w' => e = .returned (.bool false) ∧ w' = w := by
  go_enter Tryd.func74, Tryd.ntmps74
  go_wp2
  go_ret
  exact ⟨by simp, rfl⟩
theorem cmp_any (x y : Int) (w : World) : Calls Tryd.prog 57 #[.int .i64 x, .int .i64 y] w fun e w' => e = .returned (.int .i64 (cI x y)) ∧ w' = w := by
  have h1 := nan_any x w
  have h2 := nan_any y w
  have hc : (x < y ∧ cI x y = -1) ∨ (¬ x < y ∧ y < x ∧ cI x y = 1) ∨ (¬ x < y ∧ ¬ y < x ∧ cI x y = 0) := by
    unfold cI
    by_cases a : x < y
    · exact .inl ⟨a, by rw [if_pos a]⟩
    · by_cases b : y < x
      · exact .inr (.inl ⟨a, b, by rw [if_neg a, if_pos b]⟩)
      · exact .inr (.inr ⟨a, b, by rw [if_neg a, if_neg b]⟩)
  generalize cI x y = r at hc ⊢
  rcases hc with ⟨a, rfl⟩ | ⟨a, b, rfl⟩ | ⟨a, b, rfl⟩
  all_goals
    go_enter Tryd.func57, Tryd.ntmps57
    go_wp2_with (first
      | (go_at_call 74; refine h1.mono ?_; rintro e w' ⟨rfl, rfl⟩; clear h1)
      | (go_at_call 74; refine h2.mono ?_; rintro e w' ⟨rfl, rfl⟩))
    go_ret
    exact ⟨rfl, rfl⟩

/-- How two nodes stand to one another. -/
def cf (x y : Nd) : Int := if cI x.1 y.1 ≠ 0 then cI x.1 y.1 else cI x.2 y.2
theorem lt_cf (x y : Nd) : ltOf cf x y = decide (x.1 < y.1 ∨ (x.1 = y.1 ∧ x.2 < y.2)) := by
  unfold ltOf cf cI
  rw [decide_eq_decide]
  split <;> split <;> (try split) <;> (try split) <;> omega
theorem swo_cf : SWO (ltOf cf) where
  irrefl x := by rw [lt_cf]; simp
  trans x y z h1 h2 := by rw [lt_cf, decide_eq_true_eq] at *; omega
  ntrans x y z h1 h2 := by rw [lt_cf, decide_eq_false_iff_not] at *; omega
end Go.Proofs.YtepbnimheedodaaDoor
end

section
/-
  THE WALKS of slices.Compare over two numbers each, and of the program's byLevel.
-/
namespace Go.Proofs.YtepbnimheedodaaDoor
open Go.RowKit Go.Shelf Go.Lib Go.Sort

theorem cf_cases (x y : Nd) : ((x.1 : Int) < y.1 ∧ cI x.1 y.1 = -1 ∧ cf x y = -1) ∨ ((y.1 : Int) < x.1 ∧ cI x.1 y.1 = 1 ∧ cf x y = 1) ∨
    (cI x.1 y.1 = 0 ∧ ((cI x.2 y.2 = 0 ∧ cf x y = 0) ∨ (cI x.2 y.2 = -1 ∧ cf x y = -1) ∨ (cI x.2 y.2 = 1 ∧ cf x y = 1))) := by
  unfold cf cI
  split <;> split <;> (try split) <;> (try split) <;> omega
theorem compare_any (x y : Nd) (gx gy : Nat) (w : World) (hx : Row w gx 68 (cN x)) (hy : Row w gy 68 (cN y)) :
    Calls Tryd.prog 42 #[.slice (some ⟨gx, 0, none⟩) 2 2, .slice (some ⟨gy, 0, none⟩) 2 2] w fun e w' => e = .returned (.int .i64 (cf x y)) ∧ w' = w := by
  have x0 : w.cell? ⟨gx, 0, none⟩ = some (.int .i64 (x.1 : Int)) := by rw [hx.cell]; rfl
  have x1 : w.cell? ⟨gx, 1, none⟩ = some (.int .i64 (x.2 : Int)) := by rw [hx.cell]; rfl
  have y0 : w.cell? ⟨gy, 0, none⟩ = some (.int .i64 (y.1 : Int)) := by rw [hy.cell]; rfl
  have y1 : w.cell? ⟨gy, 1, none⟩ = some (.int .i64 (y.2 : Int)) := by rw [hy.cell]; rfl
  have h1 := cmp_any x.1 y.1 w
  have h2 := cmp_any x.2 y.2 w
  have hc := cf_cases x y
  clear hx hy
  generalize cf x y = r at hc ⊢
  generalize cI x.1 y.1 = r1 at hc h1
  generalize cI x.2 y.2 = r2 at hc h2
  rcases hc with ⟨_, rfl, rfl⟩ | ⟨_, rfl, rfl⟩ | ⟨rfl, ⟨rfl, rfl⟩ | ⟨rfl, rfl⟩ | ⟨rfl, rfl⟩⟩
  · go_enter Tryd.func42, Tryd.ntmps42
    go_wp2
    refine wp_loop_rounds 3 ?_
    rw [rounds_succ]
    go_wp2_with (first | (go_at_call 57; refine h1.mono ?_; rintro e w' ⟨rfl, rfl⟩; clear h1) | (go_at_call 57; refine h2.mono ?_; rintro e w' ⟨rfl, rfl⟩; clear h2))
    refine bodyPost_ret (results_tmp rfl _ _ _) rfl ?_
    exact ⟨rfl, rfl⟩
  · go_enter Tryd.func42, Tryd.ntmps42
    go_wp2
    refine wp_loop_rounds 3 ?_
    rw [rounds_succ]
    go_wp2_with (first | (go_at_call 57; refine h1.mono ?_; rintro e w' ⟨rfl, rfl⟩; clear h1) | (go_at_call 57; refine h2.mono ?_; rintro e w' ⟨rfl, rfl⟩; clear h2))
    refine bodyPost_ret (results_tmp rfl _ _ _) rfl ?_
    exact ⟨rfl, rfl⟩
  · go_enter Tryd.func42, Tryd.ntmps42
    go_wp2
    refine wp_loop_rounds 3 ?_
    rw [rounds_succ]
    go_wp2_with (first | (go_at_call 57; refine h1.mono ?_; rintro e w' ⟨rfl, rfl⟩; clear h1) | (go_at_call 57; refine h2.mono ?_; rintro e w' ⟨rfl, rfl⟩; clear h2))
    rw [rounds_succ]
    go_wp2_with (first | (go_at_call 57; refine h1.mono ?_; rintro e w' ⟨rfl, rfl⟩; clear h1) | (go_at_call 57; refine h2.mono ?_; rintro e w' ⟨rfl, rfl⟩; clear h2))
    rw [rounds_succ]
    go_wp2
    refine bodyPost_ret (results_tmp rfl _ _ _) rfl ?_
    exact ⟨rfl, rfl⟩
  · go_enter Tryd.func42, Tryd.ntmps42
    go_wp2
    refine wp_loop_rounds 3 ?_
    rw [rounds_succ]
    go_wp2_with (first | (go_at_call 57; refine h1.mono ?_; rintro e w' ⟨rfl, rfl⟩; clear h1) | (go_at_call 57; refine h2.mono ?_; rintro e w' ⟨rfl, rfl⟩; clear h2))
    rw [rounds_succ]
    go_wp2_with (first | (go_at_call 57; refine h1.mono ?_; rintro e w' ⟨rfl, rfl⟩; clear h1) | (go_at_call 57; refine h2.mono ?_; rintro e w' ⟨rfl, rfl⟩; clear h2))
    refine bodyPost_ret (results_tmp rfl _ _ _) rfl ?_
    exact ⟨rfl, rfl⟩
  · go_enter Tryd.func42, Tryd.ntmps42
    go_wp2
    refine wp_loop_rounds 3 ?_
    rw [rounds_succ]
    go_wp2_with (first | (go_at_call 57; refine h1.mono ?_; rintro e w' ⟨rfl, rfl⟩; clear h1) | (go_at_call 57; refine h2.mono ?_; rintro e w' ⟨rfl, rfl⟩; clear h2))
    rw [rounds_succ]
    go_wp2_with (first | (go_at_call 57; refine h1.mono ?_; rintro e w' ⟨rfl, rfl⟩; clear h1) | (go_at_call 57; refine h2.mono ?_; rintro e w' ⟨rfl, rfl⟩; clear h2))
    refine bodyPost_ret (results_tmp rfl _ _ _) rfl ?_
    exact ⟨rfl, rfl⟩

theorem byLevel_any (x y : Nd) (w : World) : Calls Tryd.prog 28 #[.agg #[I64 x.1, I64 x.2], .agg #[I64 y.1, I64 y.2]] w fun e w' => e = .returned (.int .i64 (cf x y)) ∧ ∃ q os, w' = grow (w.drewN q) os := by
  obtain ⟨w0, hw0⟩ : ∃ w0, w0 = (w.alloc (.cells #[I64 x.1, I64 x.2] 68)).alloc (.cells #[I64 y.1, I64 y.2] 68) := ⟨_, rfl⟩
  have HX : Hid (Row w0 w.heap.size 68 (cN x)) := by rw [hw0]; exact (Row.new w 68 (cN x)).alloc _
  have HY : Hid (Row w0 (w.heap.size + 1) 68 (cN y)) := by rw [hw0]; exact Row.newAt 68 (cN y) (by simp)
  have HE : Hid (∃ os, w0 = grow w os) := by
    exact ⟨_, by rw [hw0, alloc_eq_grow, alloc_eq_grow, grow_grow]⟩
  go_enter Tryd.func28, Tryd.ntmps28
  go_wp2
  rw [← hw0]
  clear hw0
  go_quiet ((refine (compare_any x y _ _ _ (HX.out.drewN _) (HY.out.drewN _)).mono ?_; rintro e w' ⟨rfl, rfl⟩; exact ⟨rfl, _, rfl⟩))
  obtain ⟨os, rfl⟩ := HE.out
  go_wp2
  go_ret
  exact ⟨rfl, nq, os, rfl⟩
theorem lays_byLevel (blk off size : Nat) (w : World) : CmpLays Tryd.prog 28 #[] cN 2 cf blk off size w := fun _ _ _ _ x y => byLevel_any x y _
end Go.Proofs.YtepbnimheedodaaDoor
end

section
/-
  THE LIBRARY'S SORT at nodes by byLevel: no node, or some; THE WALK of slices.SortedFunc.
-/
namespace Go.Proofs.YtepbnimheedodaaDoor
open Go.RowKit Go.Shelf Go.Lib Go.Sort

attribute [local go_sem] Oper.semAt_some

theorem enters_byLevel (args : Array Value) (w : World) : (callFunc 28 args).run Tryd.prog w = .ok (.enter 28 args) w := enters_of Tryd.func28 (by kernel_rfl) rfl args w
theorem enters_keys1 (args : Array Value) (w : World) : (callFunc 41 args).run Tryd.prog w = .ok (.enter 41 args) w := enters_of Tryd.func41 (by kernel_rfl) rfl args w

set_option maxHeartbeats 2000000 in
theorem insertion_none (p : Option Addr) (cap : Nat) (fv : Value) (w : World) : Calls Tryd.prog 64 #[.slice p 0 cap, .int .i64 0, .int .i64 0, fv] w fun e w' => e = .returned (.tuple #[]) ∧ w' = w := by
  go_enter Tryd.func64, Tryd.ntmps64
  go_wp2
  refine wp_loop_rounds 1 ?_
  rw [rounds_succ]
  go_wp2
  go_end0
  exact ⟨rfl, rfl⟩
set_option maxHeartbeats 2000000 in
theorem pdq_none (p : Option Addr) (cap : Nat) (lim : Int) (fv : Value) (w : World) : Calls Tryd.prog 55 #[.slice p 0 cap, .int .i64 0, .int .i64 0, .int .i64 lim, fv] w fun e w' => e = .returned (.tuple #[]) ∧ w' = w := by
  have hi := fun W => insertion_none p cap fv W
  go_enter Tryd.func55, Tryd.ntmps55
  go_wp2
  refine wp_loop_rounds 1 ?_
  rw [rounds_succ]
  go_wp2_with (go_at_call 64; refine (hi _).mono ?_; rintro e w' ⟨rfl, rfl⟩)
  (try simp only [Exit.inBlock, Exit.then]); refine bodyPost_ret (results_none rfl _ _ _) rfl ?_
  exact ⟨rfl, rfl⟩
set_option maxHeartbeats 2000000 in
theorem sort_none (p : Option Addr) (cap : Nat) (fv : Value) (w : World) : Calls Tryd.prog 40 #[.slice p 0 cap, fv] w fun e w' => e = .returned (.tuple #[]) ∧ w' = w := by
  have hp := fun lim W => pdq_none p cap lim fv W
  have hl : ∀ W, Calls Tryd.prog 56 #[.int .u64 0] W fun e w' => e = .returned (.int .i64 (Lib.bitLen 0 : Nat)) ∧ w' = W := fun W => by
    have h := Any.bits_Len (SlLaysF0.n15.bits (P := Tryd.prog) (ρ := Tryd.sortLay_ren) { Tryd.sortLay with }) 0 W (by omega) (by omega)
    exact h
  go_enter Tryd.func40, Tryd.ntmps40
  go_wp2_with (first | (go_at_call 56; refine (hl _).mono ?_; rintro e w' ⟨rfl, rfl⟩) | (go_at_call 55; refine (hp _ _).mono ?_; rintro e w' ⟨rfl, rfl⟩))
  go_end0
  exact ⟨rfl, rfl⟩

/-- In their order. -/
def Asc (ss : List Nd) : Prop := ∀ (i j : Nat) (x y : Nd), i < j → ss[i]? = some x → ss[j]? = some y → ¬ (y.1 < x.1 ∨ (y.1 = x.1 ∧ y.2 < x.2))
/-- The nodes lie at g, one behind the other. -/
def Nds (w : World) (g : Nat) (ss : List Nd) : Prop := ∀ (i : Nat) (x : Nd), ss[i]? = some x → w.cell? ⟨g, i * 2, none⟩ = some (I64 x.1) ∧ w.cell? ⟨g, i * 2 + 1, none⟩ = some (I64 x.2)
theorem flat_get (ss : List Nd) : ∀ t, t < ss.length * 2 → (ss.flatMap cN)[t]? = some ((cN (ss.toArray[t / 2]!))[t % 2]!) := by
  intro t ht
  induction ss generalizing t with
  | nil => simp at ht
  | cons a r ih =>
    match t with
    | 0 => simp [cN]
    | 1 => simp [cN]
    | t + 2 =>
      have h2 : t < r.length * 2 := by simp at ht; omega
      have := ih t h2
      rw [List.flatMap_cons, show cN a = [I64 a.1, I64 a.2] from rfl]
      have e1 : (t + 2) / 2 = t / 2 + 1 := by omega
      have e2 : (t + 2) % 2 = t % 2 := by omega
      rw [e1, e2]
      simpa using this
theorem holds_of_own {w : World} {g : Nat} {cur : Array Value} {ss : List Nd} (hg : w.heap[g]? = some (.cells cur 68 (0, 0))) (ht : cur.toList.take (ss.length * 2) = ss.flatMap cN) : HoldsK cN 2 w g 0 ss.toArray := by
  intro j hj
  rw [size_flatK] at hj
  have hj' : j < ss.length * 2 := by simpa using hj
  rw [Nat.zero_add]
  refine ⟨?_, by simp [World.frozen?, hg]⟩
  have h1 : (cur.toList.take (ss.length * 2))[j]? = (ss.flatMap cN)[j]? := by rw [ht]
  rw [List.getElem?_take_of_lt hj', flat_get ss j hj'] at h1
  rw [get_flatK _ _ _ _ hj]
  simp only [World.cell?, hg]
  simp only [Option.isSome_none, Bool.false_eq_true, if_false]
  rw [← Array.getElem?_toList, h1]
  rfl
theorem nds_of_holds {w : World} {g : Nat} {d : Array Nd} (h : HoldsK cN 2 w g 0 d) : Nds w g d.toList := by
  intro i x hx
  have hi : i < d.size := by
    rw [Array.getElem?_toList] at hx
    exact (Array.getElem?_eq_some_iff.1 hx).1
  have hxe : d[i]! = x := by
    rw [Array.getElem?_toList] at hx
    rw [getElem!_def, hx]
  have h0 := (HoldsK.cell h hi (c := 0) (by omega)).1
  have h1 := (HoldsK.cell h hi (c := 1) (by omega)).1
  rw [Nat.zero_add, hxe] at h0 h1
  exact ⟨h0, h1⟩
theorem by_sorted (w : World) (g n : Nat) (d : Array Nd) (os : Array Obj) : w.grownBy (sortWorldK cN 2 w g 0 n d os) (some g) := by
  unfold sortWorldK putRowK
  refine ⟨rfl, rfl, rfl, by simp, fun k hk hne => ?_⟩
  rw [heap_grow_old _ _ (by simpa using hk)]
  have : g ≠ k := fun e => hne (by rw [e])
  simp [putRow, mapBlock, Sort.ahead, Array.getElem?_modify, this]
theorem sort_some (g cap : Nat) (ss : List Nd) (w : World) (hH : HoldsK cN 2 w g 0 ss.toArray) (hg : g < w.heap.size) (hsz : ss.length ≤ 100000) :
    Calls Tryd.prog 40 #[.slice (some ⟨g, 0, none⟩) ss.length cap, .func (.func 28) #[] #[]] w fun e w' => e = .returned (.tuple #[]) ∧ ∃ ts : List Nd, ts.Perm ss ∧ ts.length = ss.length ∧ Asc ts ∧ Nds w' g ts ∧ g < w'.heap.size ∧ w.grownBy w' (some g) := by
  have h := AnyQ.slices_SortFunc Tryd.sortLay 2 Tryd.isAgg68 Tryd.sizeOf68 cN (fun _ => rfl) (fun x v hv => by simp only [cN, List.mem_cons, List.not_mem_nil, or_false] at hv; rcases hv with rfl | rfl <;> rfl) cf swo_cf 28 #[] g 0 cap ss.toArray w enters_byLevel (lays_byLevel _ _ _ _) hH hg (by simp; omega)
  rw [List.size_toArray] at h
  change Calls Tryd.prog 40 _ _ _ at h
  refine h.mono ?_
  rintro e w' ⟨rfl, d', n, os, hp, hs, rfl⟩
  obtain ⟨p1, _, p3⟩ := hp
  replace p1 : d'.size = ss.length := by simpa using p1
  have e1 : (d'.extract 0 ss.length).toList = d'.toList := by rw [← p1]; simp
  have e2 : (ss.toArray.extract 0 ss.length).toList = ss := by simp
  rw [e1, e2] at p3
  refine ⟨rfl, d'.toList, p3, by rw [Array.length_toList]; exact p1, ?_, nds_of_holds (holdsK_sortWorldK cN 2 w g 0 n ss.toArray d' os hg hH (by rw [p1]; simp)), lt_sortWorldK cN 2 w g 0 n d' os hg, by_sorted w g n d' os⟩
  intro i j x y hij hx hy
  rw [Array.getElem?_toList] at hx hy
  have hj := (Array.getElem?_eq_some_iff.1 hy).1
  have hl := hs i j (Nat.zero_le _) hij (by omega)
  rw [getElem!_def, hy, getElem!_def, hx, lt_cf, decide_eq_false_iff_not] at hl
  exact hl
end Go.Proofs.YtepbnimheedodaaDoor
end

section
/-
  THE WALK of slices.SortedFunc over a map's nodes, by byLevel.
-/
namespace Go.Proofs.YtepbnimheedodaaDoor
open Go.RowKit Go.Shelf Go.Lib Go.Sort

/-- The nodes that v reads as. -/
def Read (w : World) (B : Nat) (v : Value) (ts : List Nd) : Prop := (ts = [] ∧ v = .slice none 0 0) ∨ ∃ g cap, v = .slice (some ⟨g, 0, none⟩) ts.length cap ∧ B ≤ g ∧ g < w.heap.size ∧ Nds w g ts
set_option maxHeartbeats 1000000 in
theorem sorted_any (Bm b : Nat) (ks : List Nd) (w : World) (hBm : Bm < w.heap.size) (hm : w.cell? ⟨Bm, 0, none⟩ = some (.map (some b))) (hown : NodesAt w b ks) (hk : ks.length ≤ 100000) :
    Calls Tryd.prog 26 #[.func (.func 41) #[] #[.pointer (some ⟨Bm, 0, none⟩)], .func (.func 28) #[] #[]] w fun e w' =>
      ∃ (v : Value) (ts : List Nd), e = .returned v ∧ ts.Perm ks ∧ Asc ts ∧ Read w' w.heap.size v ts ∧ Below w.heap.size w w' := by
  have hO := open_wide Tryd.prog
  have hc : ∀ W, Below w.heap.size w W → w.heap.size ≤ W.heap.size → Calls Tryd.prog 39 #[.func (.func 41) #[] #[.pointer (some ⟨Bm, 0, none⟩)]] W fun e w' => ∃ (v : Value) (ss : List Nd), e = .returned v ∧ ss.Perm ks ∧ OwnN w' W.heap.size v ss ∧ (v = .slice none 0 0 ↔ ss = []) ∧ Below W.heap.size W w' := fun W hb hs =>
    callsIn_wide.1 (collect_in Fence.wide 3 hO rfl (by omega) 41 _ enters_keys1 (fun ss => ss.Perm ks) ks.length hk W
      (keys_gives Fence.wide (3 - 1 - 1) hO rfl (by omega) Bm b ks W (by omega) ((hb.cell (p := ⟨Bm, 0, none⟩) hBm).trans hm) (hown.same (hb.block b hown.lt))))
  have hc0 := hc w (Below.refl _ _) (Nat.le_refl _)
  clear hc hown hm
  go_enter Tryd.func26, Tryd.ntmps26
  go_wp2_with (go_at_call 39; refine hc0.mono ?_; rintro e w1 ⟨v, ss, rfl, hp, hrow, hnil, hb⟩)
  have HP : Hid (ss.Perm ks) := hp
  have HB : Hid (Below w.heap.size w w1) := hb
  have hlen := hp.length_eq
  clear hp hb hc0
  rcases hrow.2 with ⟨rfl, hz⟩ | ⟨gb, cap, cur, rfl, hbase, hgb, r1, r2, r3, r4⟩
  · have hss : ss = [] := List.eq_nil_of_length_eq_zero hz
    subst hss
    clear hrow hnil
    go_wp2_with (go_at_call 40; refine (sort_none none 0 _ w1).mono ?_; rintro e w' ⟨rfl, rfl⟩)
    go_ret
    exact ⟨_, [], rfl, HP.out, fun i j x y _ hx => by simp at hx, .inl ⟨rfl, rfl⟩, HB.out⟩
  · have hH : HoldsK cN 2 w1 gb 0 ss.toArray := holds_of_own hgb r4
    have hgl : gb < w1.heap.size := (Array.getElem?_eq_some_iff.1 hgb).1
    have cS := sort_some gb cap ss w1 hH hgl (by omega)
    clear hrow hnil hgb r2 r3 r4 hH
    go_wp2_with (go_at_call 40; refine cS.mono ?_; rintro e w' ⟨rfl, ts, hp2, hl2, ha, hn, hlt, hg⟩)
    go_ret
    refine ⟨_, ts, rfl, hp2.trans HP.out, ha, .inr ⟨gb, cap, by rw [hl2, hlen]; rfl, hbase, hlt, hn⟩, HB.out.grown hg HB.out.size (fun k e => by cases e; exact hbase)⟩
end Go.Proofs.YtepbnimheedodaaDoor
end
