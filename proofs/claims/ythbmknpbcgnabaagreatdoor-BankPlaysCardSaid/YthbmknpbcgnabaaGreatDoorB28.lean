/- Of the walk. -/
import Derived.Maps.OwnIn
import Derived.Shelf.Bits.Mul64
import Derived.Shelf.SlSortCmp.WholeK
import Derived.Test.YthbmknpbcgnabaaGreatDoorB27
import Derived.Test.YthbmknpbcgnabaaGreatDoorProg
set_option maxHeartbeats 40000000
namespace Go.Proofs.YthbmknpbcgnabaaGreatDoor.Mr
open Go.RowKit Go.Shelf Go.Maps
attribute [local go_sem] Oper.semAt_some
abbrev I64 (x:Nat):Value:=.int .i64 (x:Int)
theorem keys_gives (F:Fence) (n:Nat) (hO:Open F Tryz.prog) (hro:F.round=none) (hn:1≤n) (Bm b:Nat) (ks:List Nd) (w:World) (hBm:Bm<w.heap.size) (hm:w.cell? ⟨Bm,0,none⟩=some (.map (some b))) (hown:bO w b ks) :
  SeqGives F n Tryz.prog 108 #[.pointer (some ⟨Bm,0,none⟩)] eN (fun ss=>ss.Perm ks) ks.length w:=fun l J W hW hJ hY h0 =>
 keys1_in F n hO hro hn l Bm b ks J hY W hJ ((hW.cell (p:=⟨Bm,0,none⟩) hBm).trans hm) (hown.same (hW.block b hown.lt)) h0
theorem BH:(Tryz.prog.info? 148).map (fun i=>(i.zero,i.size,i.bytes))=some (some (.agg #[.int .i64 0,.int .i64 0]),2,16):=by kernel_rfl
def apAssign : Code := (Code.region 2 #[{ dst := some 5, op := Op.alloc 148, type := 0, pos := "iter.go:51", after := #[], guard := none },
 { dst := none, op := Op.store 148 (Operand.tmp 5) (Operand.tmp 7), type := 0, pos := "iter.go:51", after := #[{ on := 0, ground := Ground.data }, { on := 0, ground := Ground.phase }], guard := none }] false)
def apBody : Code := (Code.block 1 (Code.region 3 #[{ dst := some 8, op := Op.load 150 (Operand.tmp 2), type := 150, pos := "iter.go:52", after := #[], guard := none },
 { dst := some 9, op := Op.load 148 (Operand.tmp 5), type := 148, pos := "iter.go:52", after := #[], guard := none },
 { dst := some 10, op := Op.buildSlice 150 1 #[(0, Operand.tmp 9)], type := 150, pos := "iter.go:52", after := #[{ on := 1, ground := Ground.data }], guard := none },
 { dst := some 11, op := Op.call { callee := Callee.builtin Builtin.append, args := #[Operand.tmp 8, Operand.tmp 10], argTypes := #[150, 150] }, type := 150, pos := "iter.go:52", after := #[{ on := 0, ground := Ground.data }, { on := 2, ground := Ground.data }], guard := none },
 { dst := none, op := Op.store 150 (Operand.tmp 2) (Operand.tmp 11), type := 0, pos := "iter.go:52", after := #[{ on := 3, ground := Ground.data }, { on := 3, ground := Ground.chain }, { on := 0, ground := Ground.phase }, { on := 1, ground := Ground.phase }, { on := 2, ground := Ground.phase }, { on := 3, ground := Ground.phase }], guard := none }] false))
def apRec (fn:FuncId) (sv:Value) (Bs D:Nat) (st:LoopState) (pend:Option Code):Loop :=
 { state:=st,pending:=pend,fn,tmps:=#[.slice none 0 0,sv,.pointer (some ⟨Bs,0,none⟩),undef,.slice none 0 0,undef,sv,undef,undef,undef,undef,undef,undef],params:=#[7],assign:=apAssign,body:=apBody,defers:=D }
abbrev y8 (w:World) (B:Nat) (v:Value) (ss:List Nd):Prop:=w.ownsRow B 148 2 v ss.length (ss.flatMap cN)
structure ApAt (w0:World) (fn:FuncId) (sv:Value) (Bs l D:Nat) (ss:List Nd) (W:World):Prop where
 box:∃ v,W.heap[Bs]? = some (.cells #[v] 150 (0,0))∧y8 W w0.heap.size v ss∧(v=.slice none 0 0 ↔ ss=[])
 L:W.heap[l]? = some (.loop (apRec fn sv Bs D .ready none))
 K:W.heap[D]? = some (.deferred (some []))
 below:Below w0.heap.size w0 W
theorem ap_abides (w0:World) (fn:FuncId) (sv:Value) (Bs l D B:Nat) (hB:w0.heap.size≤B):AbidesFrom B (ApAt w0 fn sv Bs l D):=fun s W W' row h hg hrow=>by
 have hrow':∀ r,row=some r→∃ o:Obj,W.heap[r]? = some o∧o.isWalk=true:=fun r e=>(hrow r e).2
 obtain ⟨v,hv,hr,hn⟩:=h.box
 exact⟨⟨v,(grownBy_keeps hg hrow' hv rfl).trans hv,ownsRow_abides_a hr hg hrow',hn⟩,(grownBy_keeps hg hrow' h.L rfl).trans h.L,(grownBy_keeps hg hrow' h.K rfl).trans h.K,
  h.below.grown hg h.below.size (fun k e=>Nat.le_trans hB (hrow k e).1)⟩
set_option maxRecDepth 100000
theorem apYield (F:Fence) (hO:Open F Tryz.prog) (m:Nat) (w0:World) (fn:FuncId) (sv:Value) (Bs l D:Nat) (hBl:Bs≠l) (hDl:D≠l) (hDB:D≠Bs) (h0B:w0.heap.size≤Bs) (h0l:w0.heap.size≤l)
  (N:Nat) (hN:N≤100000) (ss:List Nd) (x:Nd) (W:World) (h:ApAt w0 fn sv Bs l D ss W) (hlen:ss.length<N) :
  YieldAt F m Tryz.prog l #[eN x] W fun e W'=>e=.returned (.bool true)∧ApAt w0 fn sv Bs l D (ss++[x]) W'∧KeepsWalks W W':=by
 have hne:(150:TypeId)≠148:=by decide
 have hnz:=sg
 obtain ⟨i0,hi,hz0,hz1,hz2⟩:=info_parts BH
 obtain ⟨v,hv,hrow,_⟩:=h.box
 refine⟨fn,#[.slice none 0 0,sv,.pointer (some ⟨Bs,0,none⟩),undef,.slice none 0 0,undef,sv,eN x,undef,undef,undef,undef,undef],apAssign,apBody,by simpa [apRec] using run_yield (P:=Tryz.prog) (args:=#[eN x]) h.L rfl,roundIn_of_wpIn (hO.fn _) ?_⟩
 have hl:l<W.heap.size:=(Array.getElem?_eq_some_iff.1 h.L).1
 obtain ⟨nb,hnb⟩:∃ nb,nb=W.heap.size:=⟨_,rfl⟩
 obtain ⟨W0,hW0⟩:∃ W0,W0=W.alloc (.cells #[I64 x.1,I64 x.2] 148):=⟨_,rfl⟩
 have N9:Bs<W.heap.size:=(Array.getElem?_eq_some_iff.1 hv).1
 have N8:D<W.heap.size:=(Array.getElem?_eq_some_iff.1 h.K).1
 have hv0:W0.heap[Bs]? = some (.cells #[v] 150 (0,0)):=by rw[hW0];exact(Below.heap_alloc _ _ _ N9).trans hv
 have hK0:W0.heap[D]? = some (.deferred (some [])):=by rw[hW0];exact(Below.heap_alloc _ _ _ N8).trans h.K
 have hL0:W0.heap[l]? = some (.loop (apRec fn sv Bs D .ready none)):=by rw[hW0];exact(Below.heap_alloc _ _ _ hl).trans h.L
 have hN0:Row W0 nb 148 (cN x):=by rw[hW0,hnb];exact Row.new W 148 (cN x)
 have mG:y8 W0 w0.heap.size v ss:=by rw[hW0];exact World.ownsRow.alloc hrow _
 have hb0:Below w0.heap.size w0 W0:=by rw[hW0];exact h.below.alloc h.below.size _
 have hk0:KeepsWalks W W0:=by rw[hW0];exact KeepsWalks.alloc _ _
 have hnl:nb≠l:=by omega
 have hnB:nb≠Bs:=by omega
 have hnD:nb≠D:=by omega
 have hn0:w0.heap.size≤nb:=by have:=h.below.size;omega
 have hno:some nb≠v.ownBlock:=fun e=>by
  have:=(World.ownsRow.lt hrow nb e.symm).2
  omega
 have hl0:l<W0.heap.size:=(Array.getElem?_eq_some_iff.1 hL0).1
 have hbr:=run_beginRound (P:=Tryz.prog) hL0 rfl
 obtain ⟨W2,hW2⟩:∃ W2,W0.putObj l (.loop { apRec fn sv Bs D .ready none with state:=.busy })=W2:=⟨_,rfl⟩
 rw[hW2] at hbr
 have hg2:W0.grownBy W2 (some l):=by rw[← hW2];exact grownBy_putObj_a _ _ _
 have hk2:KeepsWalks W W2:=hk0.trans (by rw[← hW2];exact KeepsWalks.putObj _ hL0 rfl)
 have hv2:W2.heap[Bs]? = some (.cells #[v] 150 (0,0)):=by rw[← hW2];exact(World.putObj_heap_other hBl).trans hv0
 have hK2:W2.heap[D]? = some (.deferred (some [])):=by rw[← hW2];exact(World.putObj_heap_other hDl).trans hK0
 have hL2:W2.heap[l]? = some (.loop { apRec fn sv Bs D .ready none with state:=.busy }):=by rw[← hW2];exact World.putObj_heap_same hl0
 have hrow2:y8 W2 w0.heap.size v ss:=World.ownsRow.kept mG hg2 (ownsRow_ne_a mG hL0 (fun cur e=>by first | cases e | exact hne (Obj.cells.inj e).2.1))
 have hb2:Below w0.heap.size w0 W2:=hb0.grown hg2 hb0.size (fun k e=>by cases e;exact h0l)
 have hN2:Row W2 nb 148 (cN x):=hN0.grown hg2 (fun e=>hnl (by cases e;rfl))
 obtain ⟨hc2,hf2⟩:=cell_of_box_a hv2
 have hBlt:Bs<W2.heap.size:=(Array.getElem?_eq_some_iff.1 hv2).1
 have hl2:l<W2.heap.size:=(Array.getElem?_eq_some_iff.1 hL2).1
 have hDlt:D<W2.heap.size:=(Array.getElem?_eq_some_iff.1 hK2).1
 have cn0:W2.cell? ⟨nb,0,none⟩=some (I64 x.1):=by rw[hN2.cell];rfl
 have cn1:W2.cell? ⟨nb,1,none⟩=some (I64 x.2):=by rw[hN2.cell];rfl
 have ne_of:∀ {j:Nat} {o:Obj},W2.heap[j]? = some o→(∀ cur,o≠.cells cur 148 (0,0))→some j≠v.ownBlock:=fun hj hno=>by
  rcases ownsRow_ne_a hrow2 hj hno with e | e
  ·rw[e];simp
  ·exact fun e'=>e e'.symm
 clear hW2 hg2 hrow mG hv hv0 hK0 hL0 hN0 hk0 hb0
 simp only [eN]
 unfold apAssign
 gi_wp2_with gi_round_op_a
 rw[← hnb]
 refine⟨W2,by rw[← hW0];exact hbr,?_⟩
 clear hbr hW0 hnb
 unfold apBody
 gi_wp2_with (first
  | (
    gi_at_builtin;refine wpListIn_append_own_at _ rfl _ _ 150 rfl w0.heap.size 148 i0 (.agg #[.int .i64 0,.int .i64 0]) 2 16 Tryz.underlying150 hi hz0 hz1 hz2 rfl (by decide) _ ss.length _ rfl (World.ownsRow.alloc hrow2 _) ⟨W2.heap.size,0,none⟩ 1 1 (cN x) rfl rfl (fun j u hj=>by rw[bD,Nat.zero_add];exact((Row.new W2 148 (cN x)).cell j).trans hj) (by intro u hu;simp only [cN,List.mem_cons,List.not_mem_nil,or_false] at hu;rcases hu with rfl | rfl <;> rfl) (by simp only [maxLen];omega) (by omega) (by have:=hb2.size;simp;omega) ?_;intro v' w3 hown' hg3 hnil3 RK
    have hv3:w3.heap[Bs]? = some (.cells #[v] 150 (0,0)):=(hg3.block Bs (by simp;omega) (ne_of hv2 (fun cur e=>by first | cases e | exact hne (Obj.cells.inj e).2.1))).trans ((Below.heap_alloc _ _ Bs hBlt).trans hv2)
    obtain ⟨hc3,hf3⟩:=cell_of_box_a hv3
    obtain ⟨g',cap',cur',rfl,hbase',hgb',hr1,hr2,hr3,hr4⟩:∃ g' cap' cur',v'=.slice (some ⟨g',0,none⟩) (ss.length+1) cap'∧w0.heap.size≤g'∧w3.heap[g']? = some (.cells cur' 148 (0,0))∧ss.length+1≤cap'∧cap'≤maxLen∧cur'.size=cap'*2∧cur'.toList.take ((ss.length+1)*2)=ss.flatMap cN++cN x:=by
     rcases hown'.2 with ⟨_,h0⟩ | h'
     ·exact absurd h0 (by omega)
     ·exact h'
    go_frame)
  | gi_round_op_a)
 have hg3':(W2.alloc (.cells #[I64 x.1,I64 x.2] 148)).grownBy w3 v.ownBlock:=hg3
 have hL3:w3.heap[l]? = some (.loop { apRec fn sv Bs D .ready none with state:=.busy }):=(hg3'.block l (by simp;omega) (ne_of hL2 (fun cur e=>by first | cases e | exact hne (Obj.cells.inj e).2.1))).trans ((Below.heap_alloc _ _ l hl2).trans hL2)
 have hK3:w3.heap[D]? = some (.deferred (some [])):=(hg3'.block D (by simp;omega) (ne_of hK2 (fun cur e=>by first | cases e | exact hne (Obj.cells.inj e).2.1))).trans ((Below.heap_alloc _ _ D hDlt).trans hK2)
 obtain ⟨w4,hw4⟩:∃ w4,w3.setCell ⟨Bs,0,none⟩ (.slice (some ⟨g',0,none⟩) (ss.length+1) cap')=w4:=⟨_,rfl⟩
 rw[hw4]
 have hg4:w3.grownBy w4 (some Bs):=by rw[← hw4];exact grownBy_setCell0_a _ _ _
 have hv4:w4.heap[Bs]? = some (.cells #[.slice (some ⟨g',0,none⟩) (ss.length+1) cap'] 150 (0,0)):=by rw[← hw4];exact heap_setCell_box_a _ hv3
 have hL4:w4.heap[l]? = some (.loop { apRec fn sv Bs D .ready none with state:=.busy }):=(hg4.block l (Array.getElem?_eq_some_iff.1 hL3).1 (fun e=>hBl (by cases e;rfl))).trans hL3
 have hK4:w4.heap[D]? = some (.deferred (some [])):=(hg4.block D (Array.getElem?_eq_some_iff.1 hK3).1 (fun e=>hDB (by cases e;rfl))).trans hK3
 have hrow4:=World.ownsRow.kept hown' hg4 (ownsRow_ne_a hown' hv3 (fun cur e=>by first | cases e | exact hne (Obj.cells.inj e).2.1))
 have hl4:l<w4.heap.size:=(Array.getElem?_eq_some_iff.1 hL4).1
 have hb3:Below w0.heap.size w0 w3:=(hb2.alloc hb2.size _).grown hg3' (by have:=hb2.size;simp;omega) (fun k e=>(World.ownsRow.lt hrow2 k e).1)
 have hb4:Below w0.heap.size w0 w4:=hb3.grown hg4 hb3.size (fun k e=>by cases e;exact h0B)
 have hk4:KeepsWalks W w4:=((hk2.trans (KeepsWalks.alloc _ _)).trans (KeepsWalks.of_grownBy hg3' (ownsRow_not_walk_a (World.ownsRow.alloc hrow2 _)))).trans (by rw[← hw4];exact KeepsWalks.setCell _ _ _)
 clear hw4
 refine⟨_,_,run_endRound none hL4,rfl,⟨⟨_,(World.putObj_heap_other hBl).trans hv4,?_,by simp⟩,World.putObj_heap_same hl4,(World.putObj_heap_other hDl).trans hK4,hb4.grown (grownBy_putObj_a _ _ _) hb4.size (fun k e=>by cases e;exact h0l)⟩,hk4.trans (KeepsWalks.putObj _ hL4 rfl)⟩
 have:=World.ownsRow.kept hrow4 (grownBy_putObj_a w4 l (.loop { { apRec fn sv Bs D .ready none with state:=.busy } with state:=if (none:Option Code).isNone then .ready else .done,pending:=none })) (ownsRow_ne_a hrow4 hL4 (fun cur e=>by first | cases e | exact hne (Obj.cells.inj e).2.1))
 unfold y8
 rw[List.flatMap_append,List.length_append,List.length_singleton,List.flatMap_singleton]
 exact this
attribute [local go_sem] Oper.semAt_some
theorem appendSeq_in (F:Fence) (n:Nat) (hO:Open F Tryz.prog) (hro:F.round=none) (hn:2≤n) (g:Nat) (lb:Array Value) (eg:∀ args w,(callFunc g args).run Tryz.prog w=.ok (.enter g args) w)
  (S:List Nd→Prop) (N:Nat) (hN:N≤100000) (w:World) (hseq:SeqGives F (n - 1) Tryz.prog g lb eN S N w) :
  CallsIn F n Tryz.prog 129 #[.slice none 0 0,.func (.func g) #[] lb] w fun e w'=>∃ (v:Value) (ss:List Nd),e=.returned v∧S ss∧y8 w' w.heap.size v ss∧(v=.slice none 0 0 ↔ ss=[])∧Below w.heap.size w w':=by
 have h1:1≤n:=by omega
 have hne:(150:TypeId)≠148:=by decide
 refine callsIn_of_wp_marks Tryz.func129 rfl (hO.fn _) ?_ hro
 simp only [Tryz.ntmps129,List.size_toArray,List.length_cons,List.length_nil,Nat.reduceAdd,Nat.reduceSub,Array.replicate_succ,Array.replicate_zero,List.push_toArray,List.append_toArray,List.nil_append,List.cons_append]
 gi_wp2
 refine wpIn_rangeFunc ?_
 intro fn hfn
 rw[hro]
 obtain ⟨W0,hW0⟩:∃ W0,w.alloc (.cells #[.slice none 0 0] 150)=W0:=⟨_,rfl⟩
 have hs0:W0.heap.size=w.heap.size+1:=by rw[← hW0];simp
 have hv0:W0.heap[w.heap.size]? = some (.cells #[.slice none 0 0] 150 (0,0)):=by rw[← hW0];exact World.alloc_heap_new w _
 have hb0:Below w.heap.size w W0:=by rw[← hW0];exact(Below.refl _ w).alloc (Nat.le_refl _) _
 rw[hW0]
 obtain ⟨W1,hW1⟩:∃ W1,(W0.alloc (.deferred (some []))).alloc (.loop (apRec fn (.func (.func g) #[] lb) w.heap.size W0.heap.size .ready none))=W1:=⟨_,rfl⟩
 have hold:∀ k,k<W0.heap.size→W1.heap[k]? = W0.heap[k]?:=fun k hk=>by
  rw[← hW1];exact(Below.heap_alloc _ _ k (by simp;omega)).trans (Below.heap_alloc _ _ k hk)
 have hb1:Below w.heap.size w W1:=by rw[← hW1];exact(hb0.alloc hb0.size _).alloc (by have:=hb0.size;simp;omega) _
 have hs1:W1.heap.size=W0.heap.size+2:=by rw[← hW1];simp
 have hM:ApAt w fn (.func (.func g) #[] lb) w.heap.size (W0.heap.size+1) W0.heap.size [] W1 :=
  ⟨⟨_,(hold w.heap.size (by omega)).trans hv0,⟨rfl,.inl ⟨rfl,rfl⟩⟩,by simp⟩,
   by rw[← hW1];have:=World.alloc_heap_new (W0.alloc (.deferred (some []))) (.loop (apRec fn (.func (.func g) #[] lb) w.heap.size W0.heap.size .ready none));rwa [World.size_alloc] at this,
   by rw[← hW1];exact(Below.heap_alloc _ _ _ (by simp)).trans (World.alloc_heap_new W0 _),hb1⟩
 refine⟨W0.heap.size+1,[{ target:=.collected W0.heap.size,args:=#[] }],W1,{ target:=.fn (.func g) lb,args:=#[.func (.yield (W0.heap.size+1)) #[] #[]] },W1,g,
  #[.func (.yield (W0.heap.size+1)) #[] #[]]++lb,W1,?_,?_,?_,?_,fun _=>h1,?_⟩
 ·rw[← hW1];exact run_enterLoop_outer _ _ _ _ _
 ·simp [resolve,go_sem]
 ·intro f' hf';exact hO.fn _
 ·simp [invoke,go_sem,eg]
 ·refine(hseq (W0.heap.size+1) (ApAt w fn (.func (.func g) #[] lb) w.heap.size (W0.heap.size+1) W0.heap.size) W1 hb1 (ap_abides _ _ _ _ _ _ _ hb1.size)
   (fun pre x W hJ hl=>apYield F hO (n - 1 - 1) w fn _ w.heap.size (W0.heap.size+1) W0.heap.size (by omega) (by omega) (by omega) (Nat.le_refl _) (by omega) N hN pre x W hJ hl) hM).mono ?_
  rintro e W2 ⟨⟨v0,rfl⟩,ss,hS,h2⟩
  obtain ⟨v,hv,hrow,hnil⟩:=h2.box
  have hend:=run_endLoop (P:=Tryz.prog) h2.L (by simp [apRec])
  obtain ⟨W3,hW3⟩:∃ W3,W2.putObj (W0.heap.size+1) (.loop { apRec fn (.func (.func g) #[] lb) w.heap.size W0.heap.size .ready none with state:=.exhausted })=W3:=⟨_,rfl⟩
  rw[hW3] at hend
  have hg3:W2.grownBy W3 (some (W0.heap.size+1)):=by rw[← hW3];exact grownBy_putObj_a _ _ _
  have hv3:W3.heap[w.heap.size]? = some (.cells #[v] 150 (0,0)):=by rw[← hW3];exact(World.putObj_heap_other (by omega)).trans hv
  have hK3:W3.heap[W0.heap.size]? = some (.deferred (some [])):=by rw[← hW3];exact(World.putObj_heap_other (by omega)).trans h2.K
  have hrow3:=World.ownsRow.kept hrow hg3 (ownsRow_ne_a hrow h2.L (fun cur e=>by first | cases e | exact hne (Obj.cells.inj e).2.1))
  have hb3:Below w.heap.size w W3:=h2.below.grown hg3 h2.below.size (fun k e=>by cases e;omega)
  obtain ⟨hc3,hf3⟩:=cell_of_box_a hv3
  clear hW3
  refine⟨none,W3,hend,?_⟩
  gi_wp2
  rw[← hs0]
  refine⟨by simp,.inl ⟨_,_,rfl,run_takeDeferred hK3,?_⟩⟩
  exact⟨_,results_tmp rfl _ _ _,v,ss,rfl,hS,World.ownsRow.kept hrow3 (grownBy_putObj_a _ _ _) (ownsRow_ne_a hrow3 hK3 (fun cur e=>by first | cases e | exact hne (Obj.cells.inj e).2.1)),hnil,hb3.grown (grownBy_putObj_a _ _ _) hb3.size (fun k e=>by cases e;omega)⟩
set_option maxRecDepth 512
theorem collect_in (F:Fence) (n:Nat) (hO:Open F Tryz.prog) (hro:F.round=none) (hn:3≤n) (g:Nat) (lb:Array Value) (eg:∀ args w,(callFunc g args).run Tryz.prog w=.ok (.enter g args) w)
  (S:List Nd→Prop) (N:Nat) (hN:N≤100000) (w:World) (hseq:SeqGives F (n - 1 - 1) Tryz.prog g lb eN S N w) :
  CallsIn F n Tryz.prog 106 #[.func (.func g) #[] lb] w fun e w'=>∃ (v:Value) (ss:List Nd),e=.returned v∧S ss∧y8 w' w.heap.size v ss∧(v=.slice none 0 0 ↔ ss=[])∧Below w.heap.size w w':=by
 have h1:1≤n:=by omega
 refine callsIn_of_wp Tryz.func106 rfl (hO.fn _) ?_ hro
 simp only [Tryz.ntmps106,List.size_toArray,List.length_cons,List.length_nil,Nat.reduceAdd,Nat.reduceSub,Array.replicate_succ,Array.replicate_zero,List.push_toArray,List.append_toArray,List.nil_append,List.cons_append]
 have hf1:=hO.fn 129
 gi_wp2_with (gi_at_call 129;refine(appendSeq_in F (n - 1) hO hro (by omega) g lb eg S N hN _ hseq).mono ?_;rintro e w' ⟨v,ss,rfl,hS,hrow,hnil,hb⟩)
 go_ret
 exact⟨v,ss,rfl,hS,hrow,hnil,hb⟩
end Go.Proofs.YthbmknpbcgnabaaGreatDoor.Mr
namespace Go.Proofs.YthbmknpbcgnabaaGreatDoor.Mr
open Go.RowKit Go.Shelf Go.Lib Go.Sort
def cI (x y:Int):Int:=if x<y then -1 else if y<x then 1 else 0
theorem zY (x:Int) (w:World):Calls Tryz.prog 160 #[.int .i64 x] w fun e w'=>e=.returned (.bool false)∧w'=w:=by
 go_enter Tryz.func160,Tryz.ntmps160
 go_wp2
 go_ret
 exact⟨by simp,rfl⟩
theorem Az (x y:Int) (w:World):Calls Tryz.prog 132 #[.int .i64 x,.int .i64 y] w fun e w'=>e=.returned (.int .i64 (cI x y))∧w'=w:=by
 have h1:=zY x w
 have h2:=zY y w
 have hc:(x<y∧cI x y=-1)∨(¬ x<y∧y<x∧cI x y=1)∨(¬ x<y∧¬ y<x∧cI x y=0):=by
  unfold cI
  by_cases a:x<y
  ·exact .inl ⟨a,by rw[if_pos a]⟩
  ·by_cases b:y<x
   ·exact .inr (.inl ⟨a,b,by rw[if_neg a,if_pos b]⟩)
   ·exact .inr (.inr ⟨a,b,by rw[if_neg a,if_neg b]⟩)
 generalize cI x y=r at hc ⊢
 rcases hc with ⟨a,rfl⟩ | ⟨a,b,rfl⟩ | ⟨a,b,rfl⟩
 all_goals
  go_enter Tryz.func132,Tryz.ntmps132
  go_wp2_with (first
   | (go_at_call 160;refine h1.mono ?_;rintro e w' ⟨rfl,rfl⟩;clear h1)
   | (go_at_call 160;refine h2.mono ?_;rintro e w' ⟨rfl,rfl⟩))
  go_ret
  exact⟨rfl,rfl⟩
def cf (x y:Nd):Int:=if cI x.1 y.1≠0 then cI x.1 y.1 else cI x.2 y.2
theorem Aa (x y:Nd):ltOf cf x y=decide (x.1<y.1∨(x.1=y.1∧x.2<y.2)):=by
 unfold ltOf cf cI
 rw[decide_eq_decide]
 split <;> split <;> (try split) <;> (try split) <;> omega
theorem JV:SWO (ltOf cf) where
 irrefl x:=by rw[Aa];simp
 trans x y z h1 h2:=by rw[Aa,decide_eq_true_eq] at *;omega
 ntrans x y z h1 h2:=by rw[Aa,decide_eq_false_iff_not] at *;omega
theorem Fi (x y:Nd):((x.1:Int)<y.1∧cI x.1 y.1=-1∧cf x y=-1)∨((y.1:Int)<x.1∧cI x.1 y.1=1∧cf x y=1) ∨
  (cI x.1 y.1=0∧((cI x.2 y.2=0∧cf x y=0)∨(cI x.2 y.2=-1∧cf x y=-1)∨(cI x.2 y.2=1∧cf x y=1))):=by
 unfold cf cI
 split <;> split <;> (try split) <;> (try split) <;> omega
theorem wu (x y:Nd) (gx gy:Nat) (w:World) (hx:Row w gx 148 (cN x)) (hy:Row w gy 148 (cN y)) :
  Calls Tryz.prog 109 #[.slice (some ⟨gx,0,none⟩) 2 2,.slice (some ⟨gy,0,none⟩) 2 2] w fun e w'=>e=.returned (.int .i64 (cf x y))∧w'=w:=by
 have x0:w.cell? ⟨gx,0,none⟩=some (.int .i64 (x.1:Int)):=by rw[hx.cell];rfl
 have x1:w.cell? ⟨gx,1,none⟩=some (.int .i64 (x.2:Int)):=by rw[hx.cell];rfl
 have y0:w.cell? ⟨gy,0,none⟩=some (.int .i64 (y.1:Int)):=by rw[hy.cell];rfl
 have y1:w.cell? ⟨gy,1,none⟩=some (.int .i64 (y.2:Int)):=by rw[hy.cell];rfl
 have h1:=Az x.1 y.1 w
 have h2:=Az x.2 y.2 w
 have hc:=Fi x y
 clear hx hy
 generalize cf x y=r at hc ⊢
 generalize cI x.1 y.1=r1 at hc h1
 generalize cI x.2 y.2=r2 at hc h2
 rcases hc with ⟨_,rfl,rfl⟩ | ⟨_,rfl,rfl⟩ | ⟨rfl,⟨rfl,rfl⟩ | ⟨rfl,rfl⟩ | ⟨rfl,rfl⟩⟩
 ·go_enter Tryz.func109,Tryz.ntmps109
  go_wp2
  refine wp_loop_rounds 3 ?_
  rw[rounds_succ]
  go_wp2_with (first | (go_at_call 132;refine h1.mono ?_;rintro e w' ⟨rfl,rfl⟩;clear h1) | (go_at_call 132;refine h2.mono ?_;rintro e w' ⟨rfl,rfl⟩;clear h2))
  refine bodyPost_ret (results_tmp rfl _ _ _) rfl ?_
  exact⟨rfl,rfl⟩
 ·go_enter Tryz.func109,Tryz.ntmps109
  go_wp2
  refine wp_loop_rounds 3 ?_
  rw[rounds_succ]
  go_wp2_with (first | (go_at_call 132;refine h1.mono ?_;rintro e w' ⟨rfl,rfl⟩;clear h1) | (go_at_call 132;refine h2.mono ?_;rintro e w' ⟨rfl,rfl⟩;clear h2))
  refine bodyPost_ret (results_tmp rfl _ _ _) rfl ?_
  exact⟨rfl,rfl⟩
 ·go_enter Tryz.func109,Tryz.ntmps109
  go_wp2
  refine wp_loop_rounds 3 ?_
  rw[rounds_succ]
  go_wp2_with (first | (go_at_call 132;refine h1.mono ?_;rintro e w' ⟨rfl,rfl⟩;clear h1) | (go_at_call 132;refine h2.mono ?_;rintro e w' ⟨rfl,rfl⟩;clear h2))
  rw[rounds_succ]
  go_wp2_with (first | (go_at_call 132;refine h1.mono ?_;rintro e w' ⟨rfl,rfl⟩;clear h1) | (go_at_call 132;refine h2.mono ?_;rintro e w' ⟨rfl,rfl⟩;clear h2))
  rw[rounds_succ]
  go_wp2
  refine bodyPost_ret (results_tmp rfl _ _ _) rfl ?_
  exact⟨rfl,rfl⟩
 ·go_enter Tryz.func109,Tryz.ntmps109
  go_wp2
  refine wp_loop_rounds 3 ?_
  rw[rounds_succ]
  go_wp2_with (first | (go_at_call 132;refine h1.mono ?_;rintro e w' ⟨rfl,rfl⟩;clear h1) | (go_at_call 132;refine h2.mono ?_;rintro e w' ⟨rfl,rfl⟩;clear h2))
  rw[rounds_succ]
  go_wp2_with (first | (go_at_call 132;refine h1.mono ?_;rintro e w' ⟨rfl,rfl⟩;clear h1) | (go_at_call 132;refine h2.mono ?_;rintro e w' ⟨rfl,rfl⟩;clear h2))
  refine bodyPost_ret (results_tmp rfl _ _ _) rfl ?_
  exact⟨rfl,rfl⟩
 ·go_enter Tryz.func109,Tryz.ntmps109
  go_wp2
  refine wp_loop_rounds 3 ?_
  rw[rounds_succ]
  go_wp2_with (first | (go_at_call 132;refine h1.mono ?_;rintro e w' ⟨rfl,rfl⟩;clear h1) | (go_at_call 132;refine h2.mono ?_;rintro e w' ⟨rfl,rfl⟩;clear h2))
  rw[rounds_succ]
  go_wp2_with (first | (go_at_call 132;refine h1.mono ?_;rintro e w' ⟨rfl,rfl⟩;clear h1) | (go_at_call 132;refine h2.mono ?_;rintro e w' ⟨rfl,rfl⟩;clear h2))
  refine bodyPost_ret (results_tmp rfl _ _ _) rfl ?_
  exact⟨rfl,rfl⟩
theorem wB (x y:Nd) (w:World):Calls Tryz.prog 77 #[.agg #[I64 x.1,I64 x.2],.agg #[I64 y.1,I64 y.2]] w fun e w'=>e=.returned (.int .i64 (cf x y))∧∃ q os,w'=grow (w.drewN q) os:=by
 obtain ⟨w0,hw0⟩:∃ w0,w0=(w.alloc (.cells #[I64 x.1,I64 x.2] 148)).alloc (.cells #[I64 y.1,I64 y.2] 148):=⟨_,rfl⟩
 have HX:Hid (Row w0 w.heap.size 148 (cN x)):=by rw[hw0];exact(Row.new w 148 (cN x)).alloc _
 have HY:Hid (Row w0 (w.heap.size+1) 148 (cN y)):=by rw[hw0];exact Row.newAt 148 (cN y) (by simp)
 have HE:Hid (∃ os,w0=grow w os):=by
  exact⟨_,by rw[hw0,alloc_eq_grow,alloc_eq_grow,grow_grow]⟩
 go_enter Tryz.func77,Tryz.ntmps77
 go_wp2
 rw[← hw0]
 clear hw0
 go_quiet ((refine(wu x y _ _ _ (HX.out.drewN _) (HY.out.drewN _)).mono ?_;rintro e w' ⟨rfl,rfl⟩;exact⟨rfl,_,rfl⟩))
 obtain ⟨os,rfl⟩:=HE.out
 go_wp2
 go_ret
 exact⟨rfl,nq,os,rfl⟩
theorem tV (blk off size:Nat) (w:World):CmpLays Tryz.prog 77 #[] cN 2 cf blk off size w:=fun _ _ _ _ x y=>wB x y _
end Go.Proofs.YthbmknpbcgnabaaGreatDoor.Mr
namespace Go.Proofs
open Go.Shelf
def Tryz.nX:Go.Shelf.Ren:=⟨fun | 6=>107 | 15=>131 | 14=>130 | 28=>158 | 29=>159 | 20=>150 | 21=>151 | 22=>152 | 23=>153 | 24=>154 | 25=>155 | 26=>156 | 27=>157 | 46=>168 | 47=>169 | 48=>170 | 49=>171 | 50=>172 | 57=>181 | n=>n,fun | 22=>150 | 24=>148 | 25=>155 | 3=>3 | 39=>138 | 0=>0 | 53=>187 | 55=>39 | 4=>4 | 46=>240 | 45=>239 | 50=>244 | 5=>5 | 9=>9 | 66=>259 | 70=>263 | 76=>277 | 77=>206 | n=>n,fun  | n=>n⟩
theorem Tryz.zK:SlLaysF0.n6 Tryz.prog Tryz.nX:={
 mixed:=by kernel_rfl
 f6:=⟨Tryz.f107.name,by decide,Tryz.func107.trans (congrArg some (by kernel_rfl))⟩
 f14:=⟨Tryz.f130.name,by decide,Tryz.func130.trans (congrArg some (by kernel_rfl))⟩
 f15:=Tryz.func131.trans (congrArg some (by kernel_rfl))
 f20:=⟨Tryz.f150.name,by decide,Tryz.func150.trans (congrArg some (by kernel_rfl))⟩
 f21:=⟨Tryz.f151.name,by decide,Tryz.func151.trans (congrArg some (by kernel_rfl))⟩
 f22:=⟨Tryz.f152.name,by decide,Tryz.func152.trans (congrArg some (by kernel_rfl))⟩
 f23:=⟨Tryz.f153.name,by decide,Tryz.func153.trans (congrArg some (by kernel_rfl))⟩
 f24:=⟨Tryz.f154.name,by decide,Tryz.func154.trans (congrArg some (by kernel_rfl))⟩
 f25:=⟨Tryz.f155.name,by decide,Tryz.func155.trans (congrArg some (by kernel_rfl))⟩
 f26:=⟨Tryz.f156.name,by decide,Tryz.func156.trans (congrArg some (by kernel_rfl))⟩
 f27:=⟨Tryz.f157.name,by decide,Tryz.func157.trans (congrArg some (by kernel_rfl))⟩
 f28:=Tryz.func158.trans (congrArg some (by kernel_rfl))
 f29:=Tryz.func159.trans (congrArg some (by kernel_rfl))
 f46:=⟨Tryz.f168.name,by decide,Tryz.func168.trans (congrArg some (by kernel_rfl))⟩
 f47:=Tryz.func169.trans (congrArg some (by kernel_rfl))
 f48:=Tryz.func170.trans (congrArg some (by kernel_rfl))
 f49:=⟨Tryz.f171.name,by decide,Tryz.func171.trans (congrArg some (by kernel_rfl))⟩
 f50:=⟨Tryz.f172.name,by decide,Tryz.func172.trans (congrArg some (by kernel_rfl))⟩
 f57:=⟨Tryz.f181.name,by decide,Tryz.func181.trans (congrArg some (by kernel_rfl))⟩
 t0:=Tryz.underlying0
 a0:=Tryz.isAgg0
 z0:=Tryz.sizeOf0
 v0:=Tryz.zeroValue0
 t3:=Tryz.underlying3
 a3:=Tryz.isAgg3
 z3:=Tryz.sizeOf3
 v3:=Tryz.zeroValue3
 t4:=Tryz.underlying4
 a4:=Tryz.isAgg4
 z4:=Tryz.sizeOf4
 v4:=Tryz.zeroValue4
 t5:=Tryz.underlying5
 a5:=Tryz.isAgg5
 z5:=Tryz.sizeOf5
 v5:=Tryz.zeroValue5
 t9:=Tryz.underlying9
 a9:=Tryz.isAgg9
 z9:=Tryz.sizeOf9
 v9:=Tryz.zeroValue9
 t22:=Tryz.underlying150
 a22:=Tryz.isAgg150
 z22:=Tryz.sizeOf150
 v22:=Tryz.zeroValue150
 t25:=Tryz.underlying155
 a25:=Tryz.isAgg155
 z25:=Tryz.sizeOf155
 v25:=Tryz.zeroValue155
 t39:=Tryz.underlying138
 a39:=Tryz.isAgg138
 z39:=Tryz.sizeOf138
 v39:=Tryz.zeroValue138
 t45:=Tryz.underlying239
 a45:=Tryz.isAgg239
 z45:=Tryz.sizeOf239
 v45:=Tryz.zeroValue239
 t46:=Tryz.underlying240
 a46:=Tryz.isAgg240
 z46:=Tryz.sizeOf240
 v46:=Tryz.zeroValue240
 t50:=Tryz.underlying244
 a50:=Tryz.isAgg244
 z50:=Tryz.sizeOf244
 v50:=Tryz.zeroValue244
 t53:=Tryz.underlying187
 a53:=Tryz.isAgg187
 z53:=Tryz.sizeOf187
 v53:=Tryz.zeroValue187
 t55:=Tryz.underlying39
 a55:=Tryz.isAgg39
 z55:=Tryz.sizeOf39
 v55:=Tryz.zeroValue39
 t66:=Tryz.underlying259
 a66:=Tryz.isAgg259
 z66:=Tryz.sizeOf259
 v66:=Tryz.zeroValue259
 t70:=Tryz.underlying263
 a70:=Tryz.isAgg263
 z70:=Tryz.sizeOf263
 v70:=Tryz.zeroValue263
 t76:=Tryz.underlying277
 a76:=Tryz.isAgg277
 z76:=Tryz.sizeOf277
 v76:=Tryz.zeroValue277
 t77:=Tryz.underlying206
 a77:=Tryz.isAgg206
 z77:=Tryz.sizeOf206
 v77:=Tryz.zeroValue206
}
def Tryz.yh:Go.Shelf.Ren:=⟨fun | 212=>71 | 263=>104 | 264=>105 | n=>n,fun | 46=>138 | 51=>187 | 146=>188 | 53=>39 | 148=>190 | n=>n,fun  | n=>n⟩
theorem Tryz.El:Lays.n212 Tryz.prog Tryz.yh:={
 mixed:=by kernel_rfl
 f212:=Tryz.func71.trans (congrArg some (by kernel_rfl))
 f263:=Tryz.func104.trans (congrArg some (by kernel_rfl))
 f264:=Tryz.func105.trans (congrArg some (by kernel_rfl))
 t46:=Tryz.underlying138
 a46:=Tryz.isAgg138
 z46:=Tryz.sizeOf138
 v46:=Tryz.zeroValue138
 t51:=Tryz.underlying187
 a51:=Tryz.isAgg187
 z51:=Tryz.sizeOf187
 v51:=Tryz.zeroValue187
 t53:=Tryz.underlying39
 a53:=Tryz.isAgg39
 z53:=Tryz.sizeOf39
 v53:=Tryz.zeroValue39
 t146:=Tryz.underlying188
 a146:=Tryz.isAgg188
 z146:=Tryz.sizeOf188
 v146:=Tryz.zeroValue188
 t148:=Tryz.underlying190
 a148:=Tryz.isAgg190
 z148:=Tryz.sizeOf190
 v148:=Tryz.zeroValue190
}
end Go.Proofs
namespace Go.Proofs.YthbmknpbcgnabaaGreatDoor.Mr
open Go.RowKit Go.Shelf Go.Lib Go.Sort
attribute [local go_sem] Oper.semAt_some
theorem qi (args:Array Value) (w:World):(callFunc 77 args).run Tryz.prog w=.ok (.enter 77 args) w:=enters_of Tryz.func77 (by kernel_rfl) rfl args w
theorem um (args:Array Value) (w:World):(callFunc 108 args).run Tryz.prog w=.ok (.enter 108 args) w:=enters_of Tryz.func108 (by kernel_rfl) rfl args w
theorem qa (p:Option Addr) (cap:Nat) (fv:Value) (w:World):Calls Tryz.prog 150 #[.slice p 0 cap,.int .i64 0,.int .i64 0,fv] w fun e w'=>e=.returned (.tuple #[])∧w'=w:=by
 go_enter Tryz.func150,Tryz.ntmps150
 go_wp2
 refine wp_loop_rounds 1 ?_
 rw[rounds_succ]
 go_wp2
 go_end0
 exact⟨rfl,rfl⟩
theorem D6 (p:Option Addr) (cap:Nat) (lim:Int) (fv:Value) (w:World):Calls Tryz.prog 130 #[.slice p 0 cap,.int .i64 0,.int .i64 0,.int .i64 lim,fv] w fun e w'=>e=.returned (.tuple #[])∧w'=w:=by
 have hi:=fun W=>qa p cap fv W
 go_enter Tryz.func130,Tryz.ntmps130
 go_wp2
 refine wp_loop_rounds 1 ?_
 rw[rounds_succ]
 go_wp2_with (go_at_call 150;refine(hi _).mono ?_;rintro e w' ⟨rfl,rfl⟩)
 (try simp only [Exit.inBlock,Exit.then]);refine bodyPost_ret (results_none rfl _ _ _) rfl ?_
 exact⟨rfl,rfl⟩
theorem Be (p:Option Addr) (cap:Nat) (fv:Value) (w:World):Calls Tryz.prog 107 #[.slice p 0 cap,fv] w fun e w'=>e=.returned (.tuple #[])∧w'=w:=by
 have hp:=fun lim W=>D6 p cap lim fv W
 have hl:∀ W,Calls Tryz.prog 131 #[.int .u64 0] W fun e w'=>e=.returned (.int .i64 (Lib.bitLen 0:Nat))∧w'=W:=fun W=>by
  have h:=Any.bits_Len (SlLaysF0.n15.bits (P:=Tryz.prog) (ρ:=Tryz.nX) { Tryz.zK with }) 0 W (by omega) (by omega)
  exact h
 go_enter Tryz.func107,Tryz.ntmps107
 go_wp2_with (first | (go_at_call 131;refine(hl _).mono ?_;rintro e w' ⟨rfl,rfl⟩) | (go_at_call 130;refine(hp _ _).mono ?_;rintro e w' ⟨rfl,rfl⟩))
 go_end0
 exact⟨rfl,rfl⟩
def Asc (ss:List Nd):Prop:=∀ (i j:Nat) (x y:Nd),i<j→ss[i]? = some x→ss[j]? = some y→¬ (y.1<x.1∨(y.1=x.1∧y.2<x.2))
def Nds (w:World) (g:Nat) (ss:List Nd):Prop:=∀ (i:Nat) (x:Nd),ss[i]? = some x→w.cell? ⟨g,i*2,none⟩=some (I64 x.1)∧w.cell? ⟨g,i*2+1,none⟩=some (I64 x.2)
theorem flat_get (ss:List Nd):∀ t,t<ss.length*2→(ss.flatMap cN)[t]? = some ((cN (ss.toArray[t / 2]!))[t % 2]!):=by
 intro t ht
 induction ss generalizing t with
 | nil=>simp at ht
 | cons a r ih =>
  match t with
  | 0=>simp [cN]
  | 1=>simp [cN]
  | t+2 =>
   have h2:t<r.length*2:=by simp at ht;omega
   have:=ih t h2
   rw[List.flatMap_cons,show cN a=[I64 a.1,I64 a.2] from rfl]
   have e1:(t+2) / 2=t / 2+1:=by omega
   have e2:(t+2) % 2=t % 2:=by omega
   rw[e1,e2]
   simpa using this
theorem ud {w:World} {g:Nat} {cur:Array Value} {ss:List Nd} (hg:w.heap[g]? = some (.cells cur 148 (0,0))) (ht:cur.toList.take (ss.length*2)=ss.flatMap cN):HoldsK cN 2 w g 0 ss.toArray:=by
 intro j hj
 rw[size_flatK] at hj
 have hj':j<ss.length*2:=by simpa using hj
 rw[Nat.zero_add]
 refine⟨?_,by simp [World.frozen?,hg]⟩
 have h1:(cur.toList.take (ss.length*2))[j]? = (ss.flatMap cN)[j]?:=by rw[ht]
 rw[List.getElem?_take_of_lt hj',flat_get ss j hj'] at h1
 rw[get_flatK _ _ _ _ hj]
 simp only [World.cell?,hg]
 simp only [Option.isSome_none,Bool.false_eq_true,if_false]
 rw[← Array.getElem?_toList,h1]
 rfl
theorem tT {w:World} {g:Nat} {d:Array Nd} (h:HoldsK cN 2 w g 0 d):Nds w g d.toList:=by
 intro i x hx
 have hi:i<d.size:=by
  rw[Array.getElem?_toList] at hx
  exact(Array.getElem?_eq_some_iff.1 hx).1
 have hxe:d[i]! = x:=by
  rw[Array.getElem?_toList] at hx
  rw[getElem!_def,hx]
 have h0:=(HoldsK.cell h hi (c:=0) (by omega)).1
 have h1:=(HoldsK.cell h hi (c:=1) (by omega)).1
 rw[Nat.zero_add,hxe] at h0 h1
 exact⟨h0,h1⟩
theorem Ch (w:World) (g n:Nat) (d:Array Nd) (os:Array Obj):w.grownBy (sortWorldK cN 2 w g 0 n d os) (some g):=by
 unfold sortWorldK putRowK
 refine⟨rfl,rfl,rfl,by simp,fun k hk hne=>?_⟩
 rw[heap_grow_old _ _ (by simpa using hk)]
 have:g≠k:=fun e=>hne (by rw[e])
 simp [putRow,mapBlock,Sort.ahead,Array.getElem?_modify,this]
theorem Bd (g cap:Nat) (ss:List Nd) (w:World) (hH:HoldsK cN 2 w g 0 ss.toArray) (hg:g<w.heap.size) (hsz:ss.length≤100000) :
  Calls Tryz.prog 107 #[.slice (some ⟨g,0,none⟩) ss.length cap,.func (.func 77) #[] #[]] w fun e w'=>e=.returned (.tuple #[])∧∃ ts:List Nd,ts.Perm ss∧ts.length=ss.length∧Asc ts∧Nds w' g ts∧g<w'.heap.size∧w.grownBy w' (some g):=by
 have h:=AnyQ.slices_SortFunc Tryz.zK 2 Tryz.isAgg148 Tryz.sizeOf148 cN (fun _=>rfl) (fun x v hv=>by simp only [cN,List.mem_cons,List.not_mem_nil,or_false] at hv;rcases hv with rfl | rfl <;> rfl) cf JV 77 #[] g 0 cap ss.toArray w qi (tV _ _ _ _) hH hg (by simp;omega)
 rw[List.size_toArray] at h
 change Calls Tryz.prog 107 _ _ _ at h
 refine h.mono ?_
 rintro e w' ⟨rfl,d',n,os,hp,hs,rfl⟩
 obtain ⟨p1,_,p3⟩:=hp
 replace p1:d'.size=ss.length:=by simpa using p1
 have e1:(d'.extract 0 ss.length).toList=d'.toList:=by rw[← p1];simp
 have e2:(ss.toArray.extract 0 ss.length).toList=ss:=by simp
 rw[e1,e2] at p3
 refine⟨rfl,d'.toList,p3,by rw[Array.length_toList];exact p1,?_,tT (holdsK_sortWorldK cN 2 w g 0 n ss.toArray d' os hg hH (by rw[p1];simp)),lt_sortWorldK cN 2 w g 0 n d' os hg,Ch w g n d' os⟩
 intro i j x y hij hx hy
 rw[Array.getElem?_toList] at hx hy
 have hj:=(Array.getElem?_eq_some_iff.1 hy).1
 have hl:=hs i j (Nat.zero_le _) hij (by omega)
 rw[getElem!_def,hy,getElem!_def,hx,Aa,decide_eq_false_iff_not] at hl
 exact hl
def Read (w:World) (B:Nat) (v:Value) (ts:List Nd):Prop:=(ts=[]∧v=.slice none 0 0)∨∃ g cap,v=.slice (some ⟨g,0,none⟩) ts.length cap∧B≤g∧g<w.heap.size∧Nds w g ts
theorem xN (Bm b:Nat) (ks:List Nd) (w:World) (hBm:Bm<w.heap.size) (hm:w.cell? ⟨Bm,0,none⟩=some (.map (some b))) (hown:bO w b ks) (hk:ks.length≤100000) :
  Calls Tryz.prog 75 #[.func (.func 108) #[] #[.pointer (some ⟨Bm,0,none⟩)],.func (.func 77) #[] #[]] w fun e w' =>
   ∃ (v:Value) (ts:List Nd),e=.returned v∧ts.Perm ks∧Asc ts∧Read w' w.heap.size v ts∧Below w.heap.size w w':=by
 have hO:=r9 Tryz.prog
 have hc:∀ W,Below w.heap.size w W→w.heap.size≤W.heap.size→Calls Tryz.prog 106 #[.func (.func 108) #[] #[.pointer (some ⟨Bm,0,none⟩)]] W fun e w'=>∃ (v:Value) (ss:List Nd),e=.returned v∧ss.Perm ks∧y8 w' W.heap.size v ss∧(v=.slice none 0 0 ↔ ss=[])∧Below W.heap.size W w':=fun W hb hs =>
  callsIn_wide.1 (collect_in Fence.wide 3 hO rfl (by omega) 108 _ um (fun ss=>ss.Perm ks) ks.length hk W
   (keys_gives Fence.wide (3 - 1 - 1) hO rfl (by omega) Bm b ks W (by omega) ((hb.cell (p:=⟨Bm,0,none⟩) hBm).trans hm) (hown.same (hb.block b hown.lt))))
 have hc0:=hc w (Below.refl _ _) (Nat.le_refl _)
 clear hc hown hm
 go_enter Tryz.func75,Tryz.ntmps75
 go_wp2_with (go_at_call 106;refine hc0.mono ?_;rintro e w1 ⟨v,ss,rfl,hp,hrow,hnil,hb⟩)
 have HP:Hid (ss.Perm ks):=hp
 have HB:Hid (Below w.heap.size w w1):=hb
 have hlen:=hp.length_eq
 clear hp hb hc0
 rcases hrow.2 with ⟨rfl,hz⟩ | ⟨gb,cap,cur,rfl,hbase,hgb,r1,r2,r3,r4⟩
 ·have hss:ss=[]:=List.eq_nil_of_length_eq_zero hz
  subst hss
  clear hrow hnil
  go_wp2_with (go_at_call 107;refine(Be none 0 _ w1).mono ?_;rintro e w' ⟨rfl,rfl⟩)
  go_ret
  exact⟨_,[],rfl,HP.out,fun i j x y _ hx=>by simp at hx,.inl ⟨rfl,rfl⟩,HB.out⟩
 ·have hH:HoldsK cN 2 w1 gb 0 ss.toArray:=ud hgb r4
  have hgl:gb<w1.heap.size:=(Array.getElem?_eq_some_iff.1 hgb).1
  have cS:=Bd gb cap ss w1 hH hgl (by omega)
  clear hrow hnil hgb r2 r3 r4 hH
  go_wp2_with (go_at_call 107;refine cS.mono ?_;rintro e w' ⟨rfl,ts,hp2,hl2,ha,hn,hlt,hg⟩)
  go_ret
  refine⟨_,ts,rfl,hp2.trans HP.out,ha,.inr ⟨gb,cap,by rw[hl2,hlen];rfl,hbase,hlt,hn⟩,HB.out.grown hg HB.out.size (fun k e=>by cases e;exact hbase)⟩
end Go.Proofs.YthbmknpbcgnabaaGreatDoor.Mr
namespace Go.Proofs.YthbmknpbcgnabaaGreatDoor.Mr
namespace Mt
open Mk
def upB (s:List Bool):List Bool:=(List.range ((s.length+3) / 4)).map fun i=>((s.drop (4*i)).take 4).any id
def cnt (s:List Bool):Nat:=s.count true
def st:Nat→List Bool→Nat
 | 0,_=>0
 | h+1,s=>cnt (upB s)+st h (upB s)
theorem ez (s:List Bool):(upB s).length=(s.length+3) / 4:=by simp [upB]
theorem Lg (s:List Bool):cnt s≤s.length:=List.count_le_length
theorem Ja (h:Nat):∀ (s:List Bool) (n:Nat),s.length≤n→st h s≤h*(n+1):=by
 induction h with
 | zero=>intro s n _;simp [st]
 | succ h ih =>
  intro s n hs
  have h1:(upB s).length≤n:=by rw[ez];omega
  have h2:=Lg (upB s)
  have h3:=ih (upB s) n h1
  rw[st,Nat.succ_mul];omega
theorem QK (s:List Bool) (a:Nat):((s.drop a).take 4).any id=(s.getD a false || s.getD (a+1) false || s.getD (a+2) false || s.getD (a+3) false):=by
 have e:∀ j,s.getD (a+j) false=(s.drop a).getD j false:=fun j=>by rw[List.getD_eq_getElem?_getD,List.getD_eq_getElem?_getD,List.getElem?_drop]
 have e0:=e 0
 rw[Nat.add_zero] at e0
 rw[e0,e 1,e 2,e 3]
 generalize s.drop a=t
 match t with
 | []=>rfl
 | [x]=>simp
 | [x,y]=>simp
 | [x,y,z]=>simp [Bool.or_assoc]
 | x::y::z::u::r=>simp [Bool.or_assoc]
theorem s9 (s:List Bool) (k:Nat):(upB s).getD k false=(s.getD (4*k) false || s.getD (4*k+1) false || s.getD (4*k+2) false || s.getD (4*k+3) false):=by
 by_cases hk:k<(s.length+3) / 4
 ·rw[upB,List.getD_eq_getElem?_getD,List.getElem?_map,List.getElem?_range hk,Option.map_some,Option.getD_some,QK]
 ·have hz:∀ j,4*k≤j→s.getD j false=false:=fun j hj=>by rw[List.getD_eq_getElem?_getD,List.getElem?_eq_none (by omega)];rfl
  rw[hz _ (Nat.le_refl _),hz _ (by omega),hz _ (by omega),hz _ (by omega),List.getD_eq_getElem?_getD,List.getElem?_eq_none (by rw[ez];omega)]
  rfl
theorem wg {s t:List Bool} (hl:s.length=t.length) (h:∀ k,s.getD k false=t.getD k false):s=t:=by
 apply List.ext_getElem hl
 intro i h1 h2
 have:=h i
 rwa [List.getD_eq_getElem?_getD,List.getD_eq_getElem?_getD,List.getElem?_eq_getElem h1,List.getElem?_eq_getElem h2] at this
theorem jo (s:List Bool) (i k:Nat) (hi:i<s.length):(s.set i true).getD k false=(decide (k=i) || s.getD k false):=by
 rw[List.getD_eq_getElem?_getD,List.getD_eq_getElem?_getD,List.getElem?_set]
 by_cases h:i=k
 ·subst h;simp [hi]
 ·rw[if_neg h,decide_eq_false (fun e=>h e.symm),Bool.false_or]
theorem Gy (s:List Bool) (i:Nat) (hi:i<s.length):upB (s.set i true)=(upB s).set (i / 4) true:=by
 apply wg
 ·rw[ez,List.length_set,List.length_set,ez]
 ·intro k
  rw[s9,jo _ _ _ hi,jo _ _ _ hi,jo _ _ _ hi,jo _ _ _ hi,jo _ _ _ (by rw[ez];omega),s9]
  have hd:decide (k=i / 4)=(decide (4*k=i) || decide (4*k+1=i) || decide (4*k+2=i) || decide (4*k+3=i)):=by
   rw[Bool.eq_iff_iff];simp;omega
  rw[hd]
  cases decide (4*k=i) <;> cases decide (4*k+1=i) <;> cases decide (4*k+2=i) <;> cases decide (4*k+3=i) <;> cases s.getD (4*k) false <;> cases s.getD (4*k+1) false <;> cases s.getD (4*k+2) false <;> cases s.getD (4*k+3) false <;> rfl
theorem JR (n:Nat):upB (List.replicate n false)=List.replicate ((n+3) / 4) false:=by
 apply wg
 ·rw[ez,List.length_replicate,List.length_replicate]
 ·intro k
  have hz:∀ m j,(List.replicate m false).getD j false=false:=fun m j=>by
   rw[List.getD_eq_getElem?_getD,List.getElem?_replicate];split <;> rfl
  rw[s9,hz,hz,hz,hz,hz];rfl
end Mt
end Go.Proofs.YthbmknpbcgnabaaGreatDoor.Mr
