/-
  OF THE WALK: MrNL, MrNQ, MrNR, MrNT, MrNU.
-/
import Derived.Deep.QuietTactic
import Derived.Maps.OwnIn
import Derived.Shelf.SlSortCmp.WholeK
import Derived.Test.YthbmknpbcgnabaaGreatDoorP24
namespace Go.Proofs.YthbmknpbcgnabaaGreatDoor.Mr
open Go.RowKit Go.Shelf Go.Maps
attribute [local go_sem] Oper.semAt_some
theorem keys_any (F : Fence) (n : Nat) (hO : Open F Tryz.prog) (hro : F.round = none) (mb : Option Nat) (w : World) :
    CallsIn F n Tryz.prog 76 #[.map mb] w fun e w' => e = .returned (.func (.func 108) #[] #[.pointer (some ⟨w.heap.size, 0, none⟩)]) ∧ w' = w.alloc (.cells #[.map mb] 143) := by
  refine callsIn_of_wp Tryz.func76 rfl (hO.fn _) ?_ hro
  simp only [Tryz.ntmps76, List.size_toArray, List.length_cons, List.length_nil, Nat.reduceAdd, Nat.reduceSub, Array.replicate_succ, Array.replicate_zero, List.push_toArray, List.append_toArray, List.nil_append, List.cons_append]
  gi_wp2
  go_ret
  exact ⟨rfl, rfl⟩
set_option maxRecDepth 100000 in
set_option maxHeartbeats 1000000 in
theorem keys1_in (F : Fence) (n : Nat) (hO : Open F Tryz.prog) (hro : F.round = none) (hn : 1 ≤ n) (l Bm b : Nat) (ks : List Nd) (J : List Nd → World → Prop)
    (hY : ∀ pre x W, J pre W → pre.length < ks.length → YieldAt F (n - 1) Tryz.prog l #[eN x] W fun e W' => e = .returned (.bool true) ∧ J (pre ++ [x]) W' ∧ KeepsWalks W W')
    (W : World) (hJ : AbidesFrom W.heap.size J) (hm : W.cell? ⟨Bm, 0, none⟩ = some (.map (some b))) (hown : NodesAt W b ks) (h0 : J [] W) :
    CallsIn F n Tryz.prog 108 #[.func (.yield l) #[] #[], .pointer (some ⟨Bm, 0, none⟩)] W fun e W' => (∃ v, e = .returned v) ∧ ∃ ss : List Nd, ss.Perm ks ∧ J ss W' := by
  obtain ⟨w0, hr0, hrg0, hg0, hs0⟩ := Rgs.start hown Tryz.underlying143
  have HRg := Lib.hid hrg0
  have HJ0 : Hid (J [] w0) := hJ [] W w0 none h0 hg0 (fun r e => by cases e)
  have HY := Lib.hid hY
  have HJ := Lib.hid hJ
  have hnz := node_zero
  clear hrg0 hg0 hs0 hown h0 hY hJ
  refine callsIn_of_wp Tryz.func108 rfl (hO.fn _) ?_ hro
  simp only [Tryz.ntmps108, List.size_toArray, List.length_cons, List.length_nil, Nat.reduceAdd, Nat.reduceSub, Array.replicate_succ, Array.replicate_zero, List.push_toArray, List.append_toArray, List.nil_append, List.cons_append]
  gi_wp2_with (gi_at_range; refine wpListIn_val hO rfl (by intro c hc; cases hc) (run_range_op rfl rfl hr0) ?_)
  clear hr0 hm
  go_frame
  gi_loopw [3] (fun _ wr => ∃ (cnt : Nat) (ss : List Nd), Hid (Rgs wr b W.heap.size ks ss cnt) ∧ Hid (J ss wr)) (fun _ wr => wr.rangeLeft b W.heap.size)
  case atStart => exact ⟨_, [], HRg, HJ0⟩
  case round =>
    obtain ⟨cnt, ss, hrg, hJs⟩ := hrel
    clear HRg HJ0
    rcases hrg.out.next 4 with ⟨_, hp, hrun⟩ | ⟨x, w2, cnt2, hrun, hx, hrg2, hlt, hg2, hs2, hen⟩
    · have HP := Lib.hid hp
      clear hp
      gi_wp2_with (gi_at_next; refine wpListIn_val hO rfl (by intro c hc; cases hc) (run_next_op rfl rfl hrun) ?_)
      gi_wp2
      go_end0
      exact ⟨⟨_, rfl⟩, ss, HP.out, hJs.out⟩
    · have HRg2 := Lib.hid hrg2
      have HJ2 : J ss (w2.alloc (.cells #[.int .i64 (x.1 : Int), .int .i64 (x.2 : Int)] 148)) :=
        HJ.out ss wr _ (some W.heap.size) hJs.out (by_alloc hg2 _) (fun r e => by cases e; exact ⟨Nat.le_refl _, hrg.out.iter_walk⟩)
      have hfew := hrg.out.few
      obtain ⟨fn, tmps, assign, body, hy, hR⟩ := HY.out ss x _ HJ2 (by omega)
      have HW2 : Hid (KeepsWalks w2 (w2.alloc (.cells #[.int .i64 (x.1 : Int), .int .i64 (x.2 : Int)] 148))) := KeepsWalks.alloc _ _
      clear hrg2 hs2 HJ2 hfew
      simp only [eN] at hrun hen hy
      gi_wp2_with (gi_at_next; refine wpListIn_val hO rfl (by intro c hc; cases hc) (run_next_op rfl rfl hrun) ?_)
      gi_wp2
      refine hR.mono ?_
      rintro e W3 ⟨rfl, hJ3, hk3⟩
      have HJ3 := Lib.hid hJ3
      have HRg3 := Lib.hid ((HRg2.out.of_walks HW2.out).of_walks hk3)
      clear hR hy hJ3 hk3 hrun hen
      gi_wp2
      go_roundw
      case rel => exact ⟨cnt2, ss ++ [x], HRg3, HJ3⟩
      case measure => rw [HRg3.out.left_eq, hrg.out.left_eq]; exact hlt
end Go.Proofs.YthbmknpbcgnabaaGreatDoor.Mr
namespace Go.Proofs.YthbmknpbcgnabaaGreatDoor.Mr
open Go.RowKit Go.Shelf Go.Maps
attribute [local go_sem] Oper.semAt_some
abbrev I64 (x : Nat) : Value := .int .i64 (x : Int)
theorem keys_gives (F : Fence) (n : Nat) (hO : Open F Tryz.prog) (hro : F.round = none) (hn : 1 ≤ n) (Bm b : Nat) (ks : List Nd) (w : World) (hBm : Bm < w.heap.size) (hm : w.cell? ⟨Bm, 0, none⟩ = some (.map (some b))) (hown : NodesAt w b ks) :
    SeqGives F n Tryz.prog 108 #[.pointer (some ⟨Bm, 0, none⟩)] eN (fun ss => ss.Perm ks) ks.length w := fun l J W hW hJ hY h0 =>
  keys1_in F n hO hro hn l Bm b ks J hY W hJ ((hW.cell (p := ⟨Bm, 0, none⟩) hBm).trans hm) (hown.same (hW.block b hown.lt)) h0
theorem node_info : (Tryz.prog.info? 148).map (fun i => (i.zero, i.size, i.bytes)) = some (some (.agg #[.int .i64 0, .int .i64 0]), 2, 16) := by kernel_rfl
def apAssign : Code := (Code.region 2 #[{ dst := some 5, op := Op.alloc 148, type := 0, pos := "iter.go:51", after := #[], guard := none },
  { dst := none, op := Op.store 148 (Operand.tmp 5) (Operand.tmp 7), type := 0, pos := "iter.go:51", after := #[{ on := 0, ground := Ground.data }, { on := 0, ground := Ground.phase }], guard := none }] false)
def apBody : Code := (Code.block 1 (Code.region 3 #[{ dst := some 8, op := Op.load 150 (Operand.tmp 2), type := 150, pos := "iter.go:52", after := #[], guard := none },
  { dst := some 9, op := Op.load 148 (Operand.tmp 5), type := 148, pos := "iter.go:52", after := #[], guard := none },
  { dst := some 10, op := Op.buildSlice 150 1 #[(0, Operand.tmp 9)], type := 150, pos := "iter.go:52", after := #[{ on := 1, ground := Ground.data }], guard := none },
  { dst := some 11, op := Op.call { callee := Callee.builtin Builtin.append, args := #[Operand.tmp 8, Operand.tmp 10], argTypes := #[150, 150] }, type := 150, pos := "iter.go:52", after := #[{ on := 0, ground := Ground.data }, { on := 2, ground := Ground.data }], guard := none },
  { dst := none, op := Op.store 150 (Operand.tmp 2) (Operand.tmp 11), type := 0, pos := "iter.go:52", after := #[{ on := 3, ground := Ground.data }, { on := 3, ground := Ground.chain }, { on := 0, ground := Ground.phase }, { on := 1, ground := Ground.phase }, { on := 2, ground := Ground.phase }, { on := 3, ground := Ground.phase }], guard := none }] false))
def apRec (fn : FuncId) (sv : Value) (Bs D : Nat) (st : LoopState) (pend : Option Code) : Loop :=
  { state := st, pending := pend, fn, tmps := #[.slice none 0 0, sv, .pointer (some ⟨Bs, 0, none⟩), undef, .slice none 0 0, undef, sv, undef, undef, undef, undef, undef, undef], params := #[7], assign := apAssign, body := apBody, defers := D }
abbrev OwnN (w : World) (B : Nat) (v : Value) (ss : List Nd) : Prop := w.ownsRow B 148 2 v ss.length (ss.flatMap cN)
structure ApAt (w0 : World) (fn : FuncId) (sv : Value) (Bs l D : Nat) (ss : List Nd) (W : World) : Prop where
  box : ∃ v, W.heap[Bs]? = some (.cells #[v] 150 (0, 0)) ∧ OwnN W w0.heap.size v ss ∧ (v = .slice none 0 0 ↔ ss = [])
  L : W.heap[l]? = some (.loop (apRec fn sv Bs D .ready none))
  K : W.heap[D]? = some (.deferred (some []))
  below : Below w0.heap.size w0 W
theorem ap_abides (w0 : World) (fn : FuncId) (sv : Value) (Bs l D B : Nat) (hB : w0.heap.size ≤ B) : AbidesFrom B (ApAt w0 fn sv Bs l D) := fun s W W' row h hg hrow => by
  have hrow' : ∀ r, row = some r → ∃ o : Obj, W.heap[r]? = some o ∧ o.isWalk = true := fun r e => (hrow r e).2
  obtain ⟨v, hv, hr, hn⟩ := h.box
  exact ⟨⟨v, (grownBy_keeps hg hrow' hv rfl).trans hv, ownsRow_abides_a hr hg hrow', hn⟩, (grownBy_keeps hg hrow' h.L rfl).trans h.L, (grownBy_keeps hg hrow' h.K rfl).trans h.K,
    h.below.grown hg h.below.size (fun k e => Nat.le_trans hB (hrow k e).1)⟩
set_option maxRecDepth 100000 in
set_option maxHeartbeats 2000000 in
theorem apYield (F : Fence) (hO : Open F Tryz.prog) (m : Nat) (w0 : World) (fn : FuncId) (sv : Value) (Bs l D : Nat) (hBl : Bs ≠ l) (hDl : D ≠ l) (hDB : D ≠ Bs) (h0B : w0.heap.size ≤ Bs) (h0l : w0.heap.size ≤ l)
    (N : Nat) (hN : N ≤ 100000) (ss : List Nd) (x : Nd) (W : World) (h : ApAt w0 fn sv Bs l D ss W) (hlen : ss.length < N) :
    YieldAt F m Tryz.prog l #[eN x] W fun e W' => e = .returned (.bool true) ∧ ApAt w0 fn sv Bs l D (ss ++ [x]) W' ∧ KeepsWalks W W' := by
  have hne : (150 : TypeId) ≠ 148 := by decide
  have hnz := node_zero
  obtain ⟨i0, hi, hz0, hz1, hz2⟩ := info_parts node_info
  obtain ⟨v, hv, hrow, _⟩ := h.box
  refine ⟨fn, #[.slice none 0 0, sv, .pointer (some ⟨Bs, 0, none⟩), undef, .slice none 0 0, undef, sv, eN x, undef, undef, undef, undef, undef], apAssign, apBody, by simpa [apRec] using run_yield (P := Tryz.prog) (args := #[eN x]) h.L rfl, roundIn_of_wpIn (hO.fn _) ?_⟩
  have hl : l < W.heap.size := (Array.getElem?_eq_some_iff.1 h.L).1
  obtain ⟨nb, hnb⟩ : ∃ nb, nb = W.heap.size := ⟨_, rfl⟩
  obtain ⟨W0, hW0⟩ : ∃ W0, W0 = W.alloc (.cells #[I64 x.1, I64 x.2] 148) := ⟨_, rfl⟩
  have hBlt0 : Bs < W.heap.size := (Array.getElem?_eq_some_iff.1 hv).1
  have hDlt0 : D < W.heap.size := (Array.getElem?_eq_some_iff.1 h.K).1
  have hv0 : W0.heap[Bs]? = some (.cells #[v] 150 (0, 0)) := by rw [hW0]; exact (Below.heap_alloc _ _ _ hBlt0).trans hv
  have hK0 : W0.heap[D]? = some (.deferred (some [])) := by rw [hW0]; exact (Below.heap_alloc _ _ _ hDlt0).trans h.K
  have hL0 : W0.heap[l]? = some (.loop (apRec fn sv Bs D .ready none)) := by rw [hW0]; exact (Below.heap_alloc _ _ _ hl).trans h.L
  have hN0 : Row W0 nb 148 (cN x) := by rw [hW0, hnb]; exact Row.new W 148 (cN x)
  have hrow0 : OwnN W0 w0.heap.size v ss := by rw [hW0]; exact World.ownsRow.alloc hrow _
  have hb0 : Below w0.heap.size w0 W0 := by rw [hW0]; exact h.below.alloc h.below.size _
  have hk0 : KeepsWalks W W0 := by rw [hW0]; exact KeepsWalks.alloc _ _
  have hnl : nb ≠ l := by omega
  have hnB : nb ≠ Bs := by omega
  have hnD : nb ≠ D := by omega
  have hn0 : w0.heap.size ≤ nb := by have := h.below.size; omega
  have hno : some nb ≠ v.ownBlock := fun e => by
    have := (World.ownsRow.lt hrow nb e.symm).2
    omega
  have hl0 : l < W0.heap.size := (Array.getElem?_eq_some_iff.1 hL0).1
  have hbr := run_beginRound (P := Tryz.prog) hL0 rfl
  obtain ⟨W2, hW2⟩ : ∃ W2, W0.putObj l (.loop { apRec fn sv Bs D .ready none with state := .busy }) = W2 := ⟨_, rfl⟩
  rw [hW2] at hbr
  have hg2 : W0.grownBy W2 (some l) := by rw [← hW2]; exact grownBy_putObj_a _ _ _
  have hk2 : KeepsWalks W W2 := hk0.trans (by rw [← hW2]; exact KeepsWalks.putObj _ hL0 rfl)
  have hv2 : W2.heap[Bs]? = some (.cells #[v] 150 (0, 0)) := by rw [← hW2]; exact (World.putObj_heap_other hBl).trans hv0
  have hK2 : W2.heap[D]? = some (.deferred (some [])) := by rw [← hW2]; exact (World.putObj_heap_other hDl).trans hK0
  have hL2 : W2.heap[l]? = some (.loop { apRec fn sv Bs D .ready none with state := .busy }) := by rw [← hW2]; exact World.putObj_heap_same hl0
  have hrow2 : OwnN W2 w0.heap.size v ss := World.ownsRow.kept hrow0 hg2 (ownsRow_ne_a hrow0 hL0 (fun cur e => by first | cases e | exact hne (Obj.cells.inj e).2.1))
  have hb2 : Below w0.heap.size w0 W2 := hb0.grown hg2 hb0.size (fun k e => by cases e; exact h0l)
  have hN2 : Row W2 nb 148 (cN x) := hN0.grown hg2 (fun e => hnl (by cases e; rfl))
  obtain ⟨hc2, hf2⟩ := cell_of_box_a hv2
  have hBlt : Bs < W2.heap.size := (Array.getElem?_eq_some_iff.1 hv2).1
  have hl2 : l < W2.heap.size := (Array.getElem?_eq_some_iff.1 hL2).1
  have hDlt : D < W2.heap.size := (Array.getElem?_eq_some_iff.1 hK2).1
  have cn0 : W2.cell? ⟨nb, 0, none⟩ = some (I64 x.1) := by rw [hN2.cell]; rfl
  have cn1 : W2.cell? ⟨nb, 1, none⟩ = some (I64 x.2) := by rw [hN2.cell]; rfl
  have ne_of : ∀ {j : Nat} {o : Obj}, W2.heap[j]? = some o → (∀ cur, o ≠ .cells cur 148 (0, 0)) → some j ≠ v.ownBlock := fun hj hno => by
    rcases ownsRow_ne_a hrow2 hj hno with e | e
    · rw [e]; simp
    · exact fun e' => e e'.symm
  clear hW2 hg2 hrow hrow0 hv hv0 hK0 hL0 hN0 hk0 hb0
  simp only [eN]
  unfold apAssign
  gi_wp2_with gi_round_op_a
  rw [← hnb]
  refine ⟨W2, by rw [← hW0]; exact hbr, ?_⟩
  clear hbr hW0 hnb
  unfold apBody
  gi_wp2_with (first
    | (gi_at_builtin; refine wpListIn_append_own_at _ rfl _ _ 150 rfl w0.heap.size 148 i0 (.agg #[.int .i64 0, .int .i64 0]) 2 16 Tryz.underlying150 hi hz0 hz1 hz2 rfl (by decide) _ ss.length _ rfl (World.ownsRow.alloc hrow2 _) ⟨W2.heap.size, 0, none⟩ 1 1 (cN x) rfl rfl (fun j u hj => by rw [add_off, Nat.zero_add]; exact ((Row.new W2 148 (cN x)).cell j).trans hj) (by intro u hu; simp only [cN, List.mem_cons, List.not_mem_nil, or_false] at hu; rcases hu with rfl | rfl <;> rfl) (by simp only [maxLen]; omega) (by omega) (by have := hb2.size; simp; omega) ?_; intro v' w3 hown' hg3 hnil3 hat3
       have hv3 : w3.heap[Bs]? = some (.cells #[v] 150 (0, 0)) := (hg3.block Bs (by simp; omega) (ne_of hv2 (fun cur e => by first | cases e | exact hne (Obj.cells.inj e).2.1))).trans ((Below.heap_alloc _ _ Bs hBlt).trans hv2)
       obtain ⟨hc3, hf3⟩ := cell_of_box_a hv3
       obtain ⟨g', cap', cur', rfl, hbase', hgb', hr1, hr2, hr3, hr4⟩ : ∃ g' cap' cur', v' = .slice (some ⟨g', 0, none⟩) (ss.length + 1) cap' ∧ w0.heap.size ≤ g' ∧ w3.heap[g']? = some (.cells cur' 148 (0, 0)) ∧ ss.length + 1 ≤ cap' ∧ cap' ≤ maxLen ∧ cur'.size = cap' * 2 ∧ cur'.toList.take ((ss.length + 1) * 2) = ss.flatMap cN ++ cN x := by
         rcases hown'.2 with ⟨_, h0⟩ | h'
         · exact absurd h0 (by omega)
         · exact h'
       go_frame)
    | gi_round_op_a)
  have hg3' : (W2.alloc (.cells #[I64 x.1, I64 x.2] 148)).grownBy w3 v.ownBlock := hg3
  have hL3 : w3.heap[l]? = some (.loop { apRec fn sv Bs D .ready none with state := .busy }) := (hg3'.block l (by simp; omega) (ne_of hL2 (fun cur e => by first | cases e | exact hne (Obj.cells.inj e).2.1))).trans ((Below.heap_alloc _ _ l hl2).trans hL2)
  have hK3 : w3.heap[D]? = some (.deferred (some [])) := (hg3'.block D (by simp; omega) (ne_of hK2 (fun cur e => by first | cases e | exact hne (Obj.cells.inj e).2.1))).trans ((Below.heap_alloc _ _ D hDlt).trans hK2)
  obtain ⟨w4, hw4⟩ : ∃ w4, w3.setCell ⟨Bs, 0, none⟩ (.slice (some ⟨g', 0, none⟩) (ss.length + 1) cap') = w4 := ⟨_, rfl⟩
  rw [hw4]
  have hg4 : w3.grownBy w4 (some Bs) := by rw [← hw4]; exact grownBy_setCell0_a _ _ _
  have hv4 : w4.heap[Bs]? = some (.cells #[.slice (some ⟨g', 0, none⟩) (ss.length + 1) cap'] 150 (0, 0)) := by rw [← hw4]; exact heap_setCell_box_a _ hv3
  have hL4 : w4.heap[l]? = some (.loop { apRec fn sv Bs D .ready none with state := .busy }) := (hg4.block l (Array.getElem?_eq_some_iff.1 hL3).1 (fun e => hBl (by cases e; rfl))).trans hL3
  have hK4 : w4.heap[D]? = some (.deferred (some [])) := (hg4.block D (Array.getElem?_eq_some_iff.1 hK3).1 (fun e => hDB (by cases e; rfl))).trans hK3
  have hrow4 := World.ownsRow.kept hown' hg4 (ownsRow_ne_a hown' hv3 (fun cur e => by first | cases e | exact hne (Obj.cells.inj e).2.1))
  have hl4 : l < w4.heap.size := (Array.getElem?_eq_some_iff.1 hL4).1
  have hb3 : Below w0.heap.size w0 w3 := (hb2.alloc hb2.size _).grown hg3' (by have := hb2.size; simp; omega) (fun k e => (World.ownsRow.lt hrow2 k e).1)
  have hb4 : Below w0.heap.size w0 w4 := hb3.grown hg4 hb3.size (fun k e => by cases e; exact h0B)
  have hk4 : KeepsWalks W w4 := ((hk2.trans (KeepsWalks.alloc _ _)).trans (KeepsWalks.of_grownBy hg3' (ownsRow_not_walk_a (World.ownsRow.alloc hrow2 _)))).trans (by rw [← hw4]; exact KeepsWalks.setCell _ _ _)
  clear hw4
  refine ⟨_, _, run_endRound none hL4, rfl, ⟨⟨_, (World.putObj_heap_other hBl).trans hv4, ?_, by simp⟩, World.putObj_heap_same hl4, (World.putObj_heap_other hDl).trans hK4, hb4.grown (grownBy_putObj_a _ _ _) hb4.size (fun k e => by cases e; exact h0l)⟩, hk4.trans (KeepsWalks.putObj _ hL4 rfl)⟩
  have := World.ownsRow.kept hrow4 (grownBy_putObj_a w4 l (.loop { { apRec fn sv Bs D .ready none with state := .busy } with state := if (none : Option Code).isNone then .ready else .done, pending := none })) (ownsRow_ne_a hrow4 hL4 (fun cur e => by first | cases e | exact hne (Obj.cells.inj e).2.1))
  unfold OwnN
  rw [List.flatMap_append, List.length_append, List.length_singleton, List.flatMap_singleton]
  exact this
end Go.Proofs.YthbmknpbcgnabaaGreatDoor.Mr
namespace Go.Proofs.YthbmknpbcgnabaaGreatDoor.Mr
open Go.RowKit Go.Shelf Go.Maps
attribute [local go_sem] Oper.semAt_some
set_option maxRecDepth 100000 in
set_option maxHeartbeats 2000000 in
theorem appendSeq_in (F : Fence) (n : Nat) (hO : Open F Tryz.prog) (hro : F.round = none) (hn : 2 ≤ n) (g : Nat) (lb : Array Value) (eg : ∀ args w, (callFunc g args).run Tryz.prog w = .ok (.enter g args) w)
    (S : List Nd → Prop) (N : Nat) (hN : N ≤ 100000) (w : World) (hseq : SeqGives F (n - 1) Tryz.prog g lb eN S N w) :
    CallsIn F n Tryz.prog 129 #[.slice none 0 0, .func (.func g) #[] lb] w fun e w' => ∃ (v : Value) (ss : List Nd), e = .returned v ∧ S ss ∧ OwnN w' w.heap.size v ss ∧ (v = .slice none 0 0 ↔ ss = []) ∧ Below w.heap.size w w' := by
  have h1 : 1 ≤ n := by omega
  have hne : (150 : TypeId) ≠ 148 := by decide
  refine callsIn_of_wp_marks Tryz.func129 rfl (hO.fn _) ?_ hro
  simp only [Tryz.ntmps129, List.size_toArray, List.length_cons, List.length_nil, Nat.reduceAdd, Nat.reduceSub, Array.replicate_succ, Array.replicate_zero, List.push_toArray, List.append_toArray, List.nil_append, List.cons_append]
  gi_wp2
  refine wpIn_rangeFunc ?_
  intro fn hfn
  rw [hro]
  obtain ⟨W0, hW0⟩ : ∃ W0, w.alloc (.cells #[.slice none 0 0] 150) = W0 := ⟨_, rfl⟩
  have hs0 : W0.heap.size = w.heap.size + 1 := by rw [← hW0]; simp
  have hv0 : W0.heap[w.heap.size]? = some (.cells #[.slice none 0 0] 150 (0, 0)) := by rw [← hW0]; exact World.alloc_heap_new w _
  have hb0 : Below w.heap.size w W0 := by rw [← hW0]; exact (Below.refl _ w).alloc (Nat.le_refl _) _
  rw [hW0]
  obtain ⟨W1, hW1⟩ : ∃ W1, (W0.alloc (.deferred (some []))).alloc (.loop (apRec fn (.func (.func g) #[] lb) w.heap.size W0.heap.size .ready none)) = W1 := ⟨_, rfl⟩
  have hold : ∀ k, k < W0.heap.size → W1.heap[k]? = W0.heap[k]? := fun k hk => by
    rw [← hW1]; exact (Below.heap_alloc _ _ k (by simp; omega)).trans (Below.heap_alloc _ _ k hk)
  have hb1 : Below w.heap.size w W1 := by rw [← hW1]; exact (hb0.alloc hb0.size _).alloc (by have := hb0.size; simp; omega) _
  have hs1 : W1.heap.size = W0.heap.size + 2 := by rw [← hW1]; simp
  have hM : ApAt w fn (.func (.func g) #[] lb) w.heap.size (W0.heap.size + 1) W0.heap.size [] W1 :=
    ⟨⟨_, (hold w.heap.size (by omega)).trans hv0, ⟨rfl, .inl ⟨rfl, rfl⟩⟩, by simp⟩,
     by rw [← hW1]; have := World.alloc_heap_new (W0.alloc (.deferred (some []))) (.loop (apRec fn (.func (.func g) #[] lb) w.heap.size W0.heap.size .ready none)); rwa [World.size_alloc] at this,
     by rw [← hW1]; exact (Below.heap_alloc _ _ _ (by simp)).trans (World.alloc_heap_new W0 _), hb1⟩
  refine ⟨W0.heap.size + 1, [{ target := .collected W0.heap.size, args := #[] }], W1, { target := .fn (.func g) lb, args := #[.func (.yield (W0.heap.size + 1)) #[] #[]] }, W1, g,
    #[.func (.yield (W0.heap.size + 1)) #[] #[]] ++ lb, W1, ?_, ?_, ?_, ?_, fun _ => h1, ?_⟩
  · rw [← hW1]; exact run_enterLoop_outer _ _ _ _ _
  · simp [resolve, go_sem]
  · intro f' hf'; exact hO.fn _
  · simp [invoke, go_sem, eg]
  · refine (hseq (W0.heap.size + 1) (ApAt w fn (.func (.func g) #[] lb) w.heap.size (W0.heap.size + 1) W0.heap.size) W1 hb1 (ap_abides _ _ _ _ _ _ _ hb1.size)
      (fun pre x W hJ hl => apYield F hO (n - 1 - 1) w fn _ w.heap.size (W0.heap.size + 1) W0.heap.size (by omega) (by omega) (by omega) (Nat.le_refl _) (by omega) N hN pre x W hJ hl) hM).mono ?_
    rintro e W2 ⟨⟨v0, rfl⟩, ss, hS, h2⟩
    obtain ⟨v, hv, hrow, hnil⟩ := h2.box
    have hend := run_endLoop (P := Tryz.prog) h2.L (by simp [apRec])
    obtain ⟨W3, hW3⟩ : ∃ W3, W2.putObj (W0.heap.size + 1) (.loop { apRec fn (.func (.func g) #[] lb) w.heap.size W0.heap.size .ready none with state := .exhausted }) = W3 := ⟨_, rfl⟩
    rw [hW3] at hend
    have hg3 : W2.grownBy W3 (some (W0.heap.size + 1)) := by rw [← hW3]; exact grownBy_putObj_a _ _ _
    have hv3 : W3.heap[w.heap.size]? = some (.cells #[v] 150 (0, 0)) := by rw [← hW3]; exact (World.putObj_heap_other (by omega)).trans hv
    have hK3 : W3.heap[W0.heap.size]? = some (.deferred (some [])) := by rw [← hW3]; exact (World.putObj_heap_other (by omega)).trans h2.K
    have hrow3 := World.ownsRow.kept hrow hg3 (ownsRow_ne_a hrow h2.L (fun cur e => by first | cases e | exact hne (Obj.cells.inj e).2.1))
    have hb3 : Below w.heap.size w W3 := h2.below.grown hg3 h2.below.size (fun k e => by cases e; omega)
    obtain ⟨hc3, hf3⟩ := cell_of_box_a hv3
    clear hW3
    refine ⟨none, W3, hend, ?_⟩
    gi_wp2
    rw [← hs0]
    refine ⟨by simp, .inl ⟨_, _, rfl, run_takeDeferred hK3, ?_⟩⟩
    exact ⟨_, results_tmp rfl _ _ _, v, ss, rfl, hS, World.ownsRow.kept hrow3 (grownBy_putObj_a _ _ _) (ownsRow_ne_a hrow3 hK3 (fun cur e => by first | cases e | exact hne (Obj.cells.inj e).2.1)), hnil, hb3.grown (grownBy_putObj_a _ _ _) hb3.size (fun k e => by cases e; omega)⟩
set_option maxHeartbeats 1000000 in
theorem collect_in (F : Fence) (n : Nat) (hO : Open F Tryz.prog) (hro : F.round = none) (hn : 3 ≤ n) (g : Nat) (lb : Array Value) (eg : ∀ args w, (callFunc g args).run Tryz.prog w = .ok (.enter g args) w)
    (S : List Nd → Prop) (N : Nat) (hN : N ≤ 100000) (w : World) (hseq : SeqGives F (n - 1 - 1) Tryz.prog g lb eN S N w) :
    CallsIn F n Tryz.prog 106 #[.func (.func g) #[] lb] w fun e w' => ∃ (v : Value) (ss : List Nd), e = .returned v ∧ S ss ∧ OwnN w' w.heap.size v ss ∧ (v = .slice none 0 0 ↔ ss = []) ∧ Below w.heap.size w w' := by
  have h1 : 1 ≤ n := by omega
  refine callsIn_of_wp Tryz.func106 rfl (hO.fn _) ?_ hro
  simp only [Tryz.ntmps106, List.size_toArray, List.length_cons, List.length_nil, Nat.reduceAdd, Nat.reduceSub, Array.replicate_succ, Array.replicate_zero, List.push_toArray, List.append_toArray, List.nil_append, List.cons_append]
  have hf1 := hO.fn 129
  gi_wp2_with (gi_at_call 129; refine (appendSeq_in F (n - 1) hO hro (by omega) g lb eg S N hN _ hseq).mono ?_; rintro e w' ⟨v, ss, rfl, hS, hrow, hnil, hb⟩)
  go_ret
  exact ⟨v, ss, rfl, hS, hrow, hnil, hb⟩
end Go.Proofs.YthbmknpbcgnabaaGreatDoor.Mr
namespace Go.Proofs.YthbmknpbcgnabaaGreatDoor.Mr
open Go.RowKit Go.Shelf Go.Lib Go.Sort
def cI (x y : Int) : Int := if x < y then -1 else if y < x then 1 else 0
theorem nan_any (x : Int) (w : World) : Calls Tryz.prog 160 #[.int .i64 x] w fun e w' => e = .returned (.bool false) ∧ w' = w := by
  go_enter Tryz.func160, Tryz.ntmps160
  go_wp2
  go_ret
  exact ⟨by simp, rfl⟩
theorem cmp_any (x y : Int) (w : World) : Calls Tryz.prog 132 #[.int .i64 x, .int .i64 y] w fun e w' => e = .returned (.int .i64 (cI x y)) ∧ w' = w := by
  have h1 := nan_any x w
  have h2 := nan_any y w
  have hc : (x < y ∧ cI x y = -1) ∨ (¬ x < y ∧ y < x ∧ cI x y = 1) ∨ (¬ x < y ∧ ¬ y < x ∧ cI x y = 0) := by
    unfold cI
    by_cases a : x < y
    · exact .inl ⟨a, by rw [if_pos a]⟩
    · by_cases b : y < x
      · exact .inr (.inl ⟨a, b, by rw [if_neg a, if_pos b]⟩)
      · exact .inr (.inr ⟨a, b, by rw [if_neg a, if_neg b]⟩)
  generalize cI x y = r at hc ⊢
  rcases hc with ⟨a, rfl⟩ | ⟨a, b, rfl⟩ | ⟨a, b, rfl⟩
  all_goals
    go_enter Tryz.func132, Tryz.ntmps132
    go_wp2_with (first
      | (go_at_call 160; refine h1.mono ?_; rintro e w' ⟨rfl, rfl⟩; clear h1)
      | (go_at_call 160; refine h2.mono ?_; rintro e w' ⟨rfl, rfl⟩))
    go_ret
    exact ⟨rfl, rfl⟩
def cf (x y : Nd) : Int := if cI x.1 y.1 ≠ 0 then cI x.1 y.1 else cI x.2 y.2
theorem lt_cf (x y : Nd) : ltOf cf x y = decide (x.1 < y.1 ∨ (x.1 = y.1 ∧ x.2 < y.2)) := by
  unfold ltOf cf cI
  rw [decide_eq_decide]
  split <;> split <;> (try split) <;> (try split) <;> omega
theorem swo_cf : SWO (ltOf cf) where
  irrefl x := by rw [lt_cf]; simp
  trans x y z h1 h2 := by rw [lt_cf, decide_eq_true_eq] at *; omega
  ntrans x y z h1 h2 := by rw [lt_cf, decide_eq_false_iff_not] at *; omega
end Go.Proofs.YthbmknpbcgnabaaGreatDoor.Mr
namespace Go.Proofs.YthbmknpbcgnabaaGreatDoor.Mr
open Go.RowKit Go.Shelf Go.Lib Go.Sort
theorem cf_cases (x y : Nd) : ((x.1 : Int) < y.1 ∧ cI x.1 y.1 = -1 ∧ cf x y = -1) ∨ ((y.1 : Int) < x.1 ∧ cI x.1 y.1 = 1 ∧ cf x y = 1) ∨
    (cI x.1 y.1 = 0 ∧ ((cI x.2 y.2 = 0 ∧ cf x y = 0) ∨ (cI x.2 y.2 = -1 ∧ cf x y = -1) ∨ (cI x.2 y.2 = 1 ∧ cf x y = 1))) := by
  unfold cf cI
  split <;> split <;> (try split) <;> (try split) <;> omega
theorem compare_any (x y : Nd) (gx gy : Nat) (w : World) (hx : Row w gx 148 (cN x)) (hy : Row w gy 148 (cN y)) :
    Calls Tryz.prog 109 #[.slice (some ⟨gx, 0, none⟩) 2 2, .slice (some ⟨gy, 0, none⟩) 2 2] w fun e w' => e = .returned (.int .i64 (cf x y)) ∧ w' = w := by
  have x0 : w.cell? ⟨gx, 0, none⟩ = some (.int .i64 (x.1 : Int)) := by rw [hx.cell]; rfl
  have x1 : w.cell? ⟨gx, 1, none⟩ = some (.int .i64 (x.2 : Int)) := by rw [hx.cell]; rfl
  have y0 : w.cell? ⟨gy, 0, none⟩ = some (.int .i64 (y.1 : Int)) := by rw [hy.cell]; rfl
  have y1 : w.cell? ⟨gy, 1, none⟩ = some (.int .i64 (y.2 : Int)) := by rw [hy.cell]; rfl
  have h1 := cmp_any x.1 y.1 w
  have h2 := cmp_any x.2 y.2 w
  have hc := cf_cases x y
  clear hx hy
  generalize cf x y = r at hc ⊢
  generalize cI x.1 y.1 = r1 at hc h1
  generalize cI x.2 y.2 = r2 at hc h2
  rcases hc with ⟨_, rfl, rfl⟩ | ⟨_, rfl, rfl⟩ | ⟨rfl, ⟨rfl, rfl⟩ | ⟨rfl, rfl⟩ | ⟨rfl, rfl⟩⟩
  · go_enter Tryz.func109, Tryz.ntmps109
    go_wp2
    refine wp_loop_rounds 3 ?_
    rw [rounds_succ]
    go_wp2_with (first | (go_at_call 132; refine h1.mono ?_; rintro e w' ⟨rfl, rfl⟩; clear h1) | (go_at_call 132; refine h2.mono ?_; rintro e w' ⟨rfl, rfl⟩; clear h2))
    refine bodyPost_ret (results_tmp rfl _ _ _) rfl ?_
    exact ⟨rfl, rfl⟩
  · go_enter Tryz.func109, Tryz.ntmps109
    go_wp2
    refine wp_loop_rounds 3 ?_
    rw [rounds_succ]
    go_wp2_with (first | (go_at_call 132; refine h1.mono ?_; rintro e w' ⟨rfl, rfl⟩; clear h1) | (go_at_call 132; refine h2.mono ?_; rintro e w' ⟨rfl, rfl⟩; clear h2))
    refine bodyPost_ret (results_tmp rfl _ _ _) rfl ?_
    exact ⟨rfl, rfl⟩
  · go_enter Tryz.func109, Tryz.ntmps109
    go_wp2
    refine wp_loop_rounds 3 ?_
    rw [rounds_succ]
    go_wp2_with (first | (go_at_call 132; refine h1.mono ?_; rintro e w' ⟨rfl, rfl⟩; clear h1) | (go_at_call 132; refine h2.mono ?_; rintro e w' ⟨rfl, rfl⟩; clear h2))
    rw [rounds_succ]
    go_wp2_with (first | (go_at_call 132; refine h1.mono ?_; rintro e w' ⟨rfl, rfl⟩; clear h1) | (go_at_call 132; refine h2.mono ?_; rintro e w' ⟨rfl, rfl⟩; clear h2))
    rw [rounds_succ]
    go_wp2
    refine bodyPost_ret (results_tmp rfl _ _ _) rfl ?_
    exact ⟨rfl, rfl⟩
  · go_enter Tryz.func109, Tryz.ntmps109
    go_wp2
    refine wp_loop_rounds 3 ?_
    rw [rounds_succ]
    go_wp2_with (first | (go_at_call 132; refine h1.mono ?_; rintro e w' ⟨rfl, rfl⟩; clear h1) | (go_at_call 132; refine h2.mono ?_; rintro e w' ⟨rfl, rfl⟩; clear h2))
    rw [rounds_succ]
    go_wp2_with (first | (go_at_call 132; refine h1.mono ?_; rintro e w' ⟨rfl, rfl⟩; clear h1) | (go_at_call 132; refine h2.mono ?_; rintro e w' ⟨rfl, rfl⟩; clear h2))
    refine bodyPost_ret (results_tmp rfl _ _ _) rfl ?_
    exact ⟨rfl, rfl⟩
  · go_enter Tryz.func109, Tryz.ntmps109
    go_wp2
    refine wp_loop_rounds 3 ?_
    rw [rounds_succ]
    go_wp2_with (first | (go_at_call 132; refine h1.mono ?_; rintro e w' ⟨rfl, rfl⟩; clear h1) | (go_at_call 132; refine h2.mono ?_; rintro e w' ⟨rfl, rfl⟩; clear h2))
    rw [rounds_succ]
    go_wp2_with (first | (go_at_call 132; refine h1.mono ?_; rintro e w' ⟨rfl, rfl⟩; clear h1) | (go_at_call 132; refine h2.mono ?_; rintro e w' ⟨rfl, rfl⟩; clear h2))
    refine bodyPost_ret (results_tmp rfl _ _ _) rfl ?_
    exact ⟨rfl, rfl⟩
theorem byLevel_any (x y : Nd) (w : World) : Calls Tryz.prog 77 #[.agg #[I64 x.1, I64 x.2], .agg #[I64 y.1, I64 y.2]] w fun e w' => e = .returned (.int .i64 (cf x y)) ∧ ∃ q os, w' = grow (w.drewN q) os := by
  obtain ⟨w0, hw0⟩ : ∃ w0, w0 = (w.alloc (.cells #[I64 x.1, I64 x.2] 148)).alloc (.cells #[I64 y.1, I64 y.2] 148) := ⟨_, rfl⟩
  have HX : Hid (Row w0 w.heap.size 148 (cN x)) := by rw [hw0]; exact (Row.new w 148 (cN x)).alloc _
  have HY : Hid (Row w0 (w.heap.size + 1) 148 (cN y)) := by rw [hw0]; exact Row.newAt 148 (cN y) (by simp)
  have HE : Hid (∃ os, w0 = grow w os) := by
    exact ⟨_, by rw [hw0, alloc_eq_grow, alloc_eq_grow, grow_grow]⟩
  go_enter Tryz.func77, Tryz.ntmps77
  go_wp2
  rw [← hw0]
  clear hw0
  go_quiet ((refine (compare_any x y _ _ _ (HX.out.drewN _) (HY.out.drewN _)).mono ?_; rintro e w' ⟨rfl, rfl⟩; exact ⟨rfl, _, rfl⟩))
  obtain ⟨os, rfl⟩ := HE.out
  go_wp2
  go_ret
  exact ⟨rfl, nq, os, rfl⟩
theorem lays_byLevel (blk off size : Nat) (w : World) : CmpLays Tryz.prog 77 #[] cN 2 cf blk off size w := fun _ _ _ _ x y => byLevel_any x y _
end Go.Proofs.YthbmknpbcgnabaaGreatDoor.Mr
