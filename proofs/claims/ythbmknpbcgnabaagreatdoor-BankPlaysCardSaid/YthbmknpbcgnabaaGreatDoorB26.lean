/- Of the walk. -/
import Derived.Test.YthbmknpbcgnabaaGreatDoorB25
set_option maxHeartbeats 40000000
namespace Go.Proofs.YthbmknpbcgnabaaGreatDoor.Mr
open Go.RowKit Go.ChangeShapes Go.WideShapes
open Go.Maps (Keyed)
theorem vL:(148:TypeId)<Tryz.prog.types.size:=of_decide_eq_true (by kernel_rfl)
theorem BG:(match Tryz.prog.underlying 148 with | some (.array _ _) | some (.struct _)=>true | _=>false)=true:=by rw[Tryz.underlying148]
set_option maxRecDepth 100000
theorem laidOut:laidOutB Tryz.prog=true:=by kernel_rfl
theorem ya:Keyed Tryz.prog 148:=Keyed.of_law (deep_law_laid laidOut (m:=2) (by omega) vL (by kernel_rfl) BG)
theorem Eg (a b:Int) (h1:-9223372036854775808≤a) (h2:a≤9223372036854775807) (h3:-9223372036854775808≤b) (h4:b≤9223372036854775807):∃ l,keyOf Tryz.prog 148 (.agg #[.int .i64 a,.int .i64 b])=some l:=by
 have hf:(Value.agg #[.int .i64 a,.int .i64 b]).formed Tryz.prog 148=true:=by
  have hc:Tryz.prog.cellsOf 148=2:=by kernel_rfl
  simp [Value.formed,Tryz.underlying148,hc]
 have hk:Tryz.prog.keyType 148=true:=by kernel_rfl
 have hc:Tryz.prog.cellsOf 148=2:=by kernel_rfl
 have hi:Tryz.prog.cellsOf 3=1:=by kernel_rfl
 have ha:(Lit.int .i64 a).wf=true:=by simp [Lit.wf,IntKind.min,IntKind.max,IntKind.signed,IntKind.bits];omega
 have hb:(Lit.int .i64 b).wf=true:=by simp [Lit.wf,IntKind.min,IntKind.max,IntKind.signed,IntKind.bits];omega
 obtain ⟨d,hd⟩:∃ d,Tryz.prog.types.size=d+1:=⟨_,(Nat.sub_add_cancel (show 1≤Tryz.prog.types.size from Nat.le_trans (Nat.succ_le_succ (Nat.zero_le _)) vL)).symm⟩
 unfold keyOf
 rw[Tryz.underlying148,hd]
 simp only [hf,hk,Bool.and_self,if_true]
 simp [Program.keyLits,Tryz.underlying148,Tryz.underlying3,hc,hi,Value.cells,List.range_succ,ha,hb]
end Go.Proofs.YthbmknpbcgnabaaGreatDoor.Mr
namespace Go.Proofs.YthbmknpbcgnabaaGreatDoor.Mr
open Go.RowKit
abbrev VS (bs:List UInt8):Value:=.string (aw bs)
theorem jd (l:List (List UInt8)):∀ y∈l.map VS,y.oneCell'=true:=fun y hy=>by obtain ⟨x,_,rfl⟩:=List.mem_map.1 hy;rfl
theorem aQ:(Tryz.prog.info? 9).map (fun i=>(i.zero,i.size,i.bytes))=some (some (.string ⟨#[]⟩),1,16):=by kernel_rfl
theorem Ad:(Tryz.prog.info? 22).map (fun i=>(i.zero,i.size,i.bytes))=some (some (.slice none 0 0),1,24):=by kernel_rfl
theorem Kn:(Tryz.prog.info? 58).map (fun i=>(i.zero,i.size,i.bytes))=some (some (.slice none 0 0),1,24):=by kernel_rfl
theorem mn {P:Program} {w:World} (t ty:TypeId) (B:Nat) (e:TypeId) {z:Value} {bytes:Nat} (ht:P.underlying t=some (.slice e)) (hi:(P.info? e).map (fun i=>(i.zero,i.size,i.bytes))=some (some z,1,bytes)) (hz:z.cells.size=1) (hby:bytes≤100)
  (v:Value) (ys:List Value) (hown:Own w B e v ys) (u:Value) (zs:List Value) (hu:bq w u zs) (h1:∀ y∈zs,y.oneCell'=true) (hl:ys.length+zs.length≤1000000) (hB:B≤w.heap.size) :
  ∃ v' w',(Builtin.append_ #[t,t] ty #[v,u]).run P w=.ok v' w'∧Own w' B e v' (ys++zs)∧w.grownBy w' v.ownBlock∧(v'.ownBlock=v.ownBlock∨v'.ownBlock=some w.heap.size):=by
 obtain ⟨i,hi,hz0,hz1,hz2⟩:=info_parts hi
 have k9:(ys.length+zs.length)*bytes≤140737488355328:=by
  have:(ys.length+zs.length)*bytes≤1000000*100:=Nat.mul_le_mul hl hby
  omega
 rcases hu with ⟨A,rfl,rfl⟩ | ⟨b,off,c,rfl,_,cd⟩
 ·cases A with
  | none=>exact⟨v,w,run_append_owned_none w B t ty e i 1 ht hi v ys.length ys hown,by rw[List.append_nil];exact hown,World.grownBy.refl w _,.inl rfl⟩
  | some ad =>
   obtain ⟨v',w',hr,h2,h3,_,h5⟩:=run_append_own_at w B t ty e i z 1 bytes ht hi hz0 hz1 hz2 hz (by omega) v ys.length ys hown ad 0 0 [] (by simp) (fun j u hu=>by simp at hu) (by simp) (by simp only [maxLen];simp at hl;omega) (by simpa using k9) hB
   exact⟨v',w',hr,by rw[Nat.add_zero] at h2;rw[List.append_nil] at h2 ⊢;exact h2,h3,h5⟩
 ·obtain ⟨v',w',hr,h2,h3,_,h5⟩:=run_append_own_at w B t ty e i z 1 bytes ht hi hz0 hz1 hz2 hz (by omega) v ys.length ys hown ⟨b,off,none⟩ zs.length c zs (by simp) (fun j u hu=>by rw[bD];exact cd j u hu) h1 (by simp only [maxLen];omega) k9 hB
  exact⟨v',w',hr,by rw[← List.length_append] at h2;exact h2,h3,h5⟩
theorem cE {P:Program} {w:World} {ops:Array Oper} {rest:List Oper} {o:Oper} {a:Act} {Q:Exit→Act→World→Prop} (hgd:o.guard=none) (s x:Operand) (t:TypeId)
  (ho:o.op=.call { callee:=.builtin .append,args:=#[s,x],argTypes:=#[t,t] })
  (B:Nat) (e:TypeId) {z:Value} {bytes:Nat} (ht:P.underlying t=some (.slice e)) (hi:(P.info? e).map (fun i=>(i.zero,i.size,i.bytes))=some (some z,1,bytes)) (hz:z.cells.size=1) (hby:bytes≤100)
  (v:Value) (ys:List Value) (hs:a.eval s=v) (hown:Own w B e v ys) (u:Value) (zs:List Value) (hx:a.eval x=u) (hu:bq w u zs) (h1:∀ y∈zs,y.oneCell'=true)
  (hl:ys.length+zs.length≤1000000) (hB:B≤w.heap.size)
  (h:∀ v' w',Own w' B e v' (ys++zs)→w.grownBy w' v.ownBlock→(v'.ownBlock=v.ownBlock∨v'.ownBlock=some w.heap.size)→wpList P ops Q rest (a.put o.dst v') w'):wpList P ops Q (o::rest) a w:=by
 refine wpList_plain hgd fun K hK=>?_
 obtain ⟨v',w',hr,h2,h3,h4⟩:=mn (P:=P) t o.type B e ht hi hz hby v ys hown u zs hu h1 hl hB
 unfold Oper.wp execOp
 simp only [ho,resolve,invoke,builtin,Sem.run_bind,Sem.run_pure,Result.andThen_ok,List.map_toArray,List.map_cons,List.map_nil,hs,hx,hr]
 exact hK _ _ (h v' w' h2 h3 h4)
def aR {α:Type} (f:α→Value) (e:TypeId) (B:Nat) (W:World) (v:Value) (ps:List (List α)):Prop :=
 ∃ vs,Own W B e v vs∧vs.length=ps.length∧∀ (j:Nat) u p,vs[j]? = some u→ps[j]? = some p→∃ b o c,u=.slice (some ⟨b,o,none⟩) p.length c∧p.length≤c∧b<W.heap.size∧v.ownBlock≠some b∧ah W b o (p.map f)
section
variable {α:Type} {f:α→Value} {e:TypeId} {B:Nat} {W W':World} {v v':Value} {ps:List (List α)} {p:List α} {b o c:Nat}
theorem aR.nil:aR f e B W (.slice none 0 0) []:=⟨[],Own.nil _ _ _,rfl,fun j u p hu=>by simp at hu⟩
theorem aR.below (h:aR f e B W v ps) (hb:Below W.heap.size W W'):aR f e B W' v ps:=by
 obtain ⟨vs,ho,hl,hw⟩:=h
 refine⟨vs,ho.below hb (Nat.le_refl _),hl,fun j u p hu hp=>?_⟩
 obtain ⟨b,o,c,e,hc,hlt,hne,hs⟩:=hw j u p hu hp
 exact⟨b,o,c,e,hc,Nat.lt_of_lt_of_le hlt hb.size,hne,hs.below hb hlt⟩
theorem aR.snoc (hv:∃ vs,Own W B e v vs∧vs.length=ps.length∧(∀ (j:Nat) u q,vs[j]? = some u→ps[j]? = some q→∃ b o c,u=.slice (some ⟨b,o,none⟩) q.length c∧q.length≤c∧b<W.heap.size∧v.ownBlock≠some b∧ah W b o (q.map f))∧Own W' B e v' (vs++[.slice (some ⟨b,o,none⟩) p.length c]))
  (hg:W.grownBy W' v.ownBlock) (hn:v'.ownBlock=v.ownBlock∨v'.ownBlock=some W.heap.size) (hb:b<W.heap.size) (hne:v.ownBlock≠some b) (hc:p.length≤c) (hs:ah W b o (p.map f)):aR f e B W' v' (ps++[p]):=by
 obtain ⟨vs,ho,hl,hw,ho'⟩:=hv
 have off:∀ b',b'<W.heap.size→v.ownBlock≠some b'→v'.ownBlock≠some b':=fun b' h1 h2=>by
  rcases hn with e | e <;> rw[e]
  ·exact h2
  ·intro h;injection h with h;omega
 refine⟨_,ho',by simp [hl],fun j u q hu hq=>?_⟩
 rcases Nat.lt_or_ge j vs.length with hj | hj
 ·rw[List.getElem?_append_left hj] at hu
  rw[List.getElem?_append_left (by omega)] at hq
  obtain ⟨b1,o1,c1,e1,hc1,ki,EM,hs1⟩:=hw j u q hu hq
  exact⟨b1,o1,c1,e1,hc1,Nat.lt_of_lt_of_le ki hg.size,off b1 ki EM,hs1.grown hg ki (fun h=>EM h.symm)⟩
 ·rw[List.getElem?_append_right hj] at hu
  rw[List.getElem?_append_right (by omega)] at hq
  have hj0:j - vs.length=0:=by have:=(List.getElem?_eq_some_iff.1 hu).1;simp at this;omega
  rw[hj0] at hu
  rw[show j - ps.length=0 by omega] at hq
  simp at hu hq
  subst hu hq
  exact⟨b,o,c,rfl,hc,Nat.lt_of_lt_of_le hb hg.size,off b hb hne,hs.grown hg hb (fun h=>hne h.symm)⟩
theorem aX {w:World} {ops:Array Oper} {rest:List Oper} {op:Oper} {a:Act} {Q:Exit→Act→World→Prop} (hgd:op.guard=none) (s x:Operand) (t:TypeId)
  (ho:op.op=.call { callee:=.builtin .append,args:=#[s,x],argTypes:=#[t,t] }) (ht:Tryz.prog.underlying t=some (.slice e)) (hi:(Tryz.prog.info? e).map (fun i=>(i.zero,i.size,i.bytes))=some (some (.slice none 0 0),1,24))
  (v:Value) (hs:a.eval s=v) (hR:aR f e B w v ps) (g c1:Nat) (hx:a.eval x=.slice (some ⟨g,0,none⟩) 1 c1) (hgl:g<w.heap.size) (cd:ah w g 0 [.slice (some ⟨b,o,none⟩) p.length c])
  (hb:b<w.heap.size) (hne:v.ownBlock≠some b) (hc:p.length≤c) (hp:ah w b o (p.map f)) (hl:ps.length≤1000) (hB:B≤w.heap.size)
  (h:∀ v' w',Hid (aR f e B w' v' (ps++[p]))→w.grownBy w' v.ownBlock→(v'.ownBlock=v.ownBlock∨v'.ownBlock=some w.heap.size)→wpList Tryz.prog ops Q rest (a.put op.dst v') w'):wpList Tryz.prog ops Q (op::rest) a w:=by
 obtain ⟨vs,hown,hvl,hw⟩:=hR
 refine cE hgd s x t ho B e ht hi rfl (by decide) v vs hs hown (.slice (some ⟨g,0,none⟩) 1 c1) [.slice (some ⟨b,o,none⟩) p.length c] hx (.inr ⟨g,0,c1,rfl,hgl,cd⟩) (by intro y hy;simp at hy;subst hy;rfl) (by simp;omega) hB ?_
 intro v' w' h2 h3 h5
 exact h v' w' (aR.snoc ⟨vs,hown,hvl,hw,h2⟩ h3 h5 hb hne hc hp) h3 h5
theorem aR.at_ (h:aR f e B W v ps) (hp:0<ps.length) :
  ∃ g cap,v=.slice (some ⟨g,0,none⟩) ps.length cap∧B≤g∧g<W.heap.size∧∀ j p,ps[j]? = some p→∃ b o c,W.cell? ⟨g,j,none⟩=some (.slice (some ⟨b,o,none⟩) p.length c)∧p.length≤c∧b<W.heap.size∧b≠g∧ah W b o (p.map f):=by
 obtain ⟨vs,ho,hl,hw⟩:=h
 obtain ⟨g,cap,e,hB,hg,hs⟩:=ho.form (by omega)
 have hob:v.ownBlock=some g:=by rw[e];rfl
 refine⟨g,cap,by rw[e,hl],hB,hg,fun j p hq=>?_⟩
 have hj:=(List.getElem?_eq_some_iff.1 hq).1
 have hv:=List.getElem?_eq_getElem (show j<vs.length by omega)
 obtain ⟨b,o,c,e1,hc,hlt,hne,hs1⟩:=hw j _ _ hv hq
 refine⟨b,o,c,?_,hc,hlt,fun h=>hne (by rw[hob,h]),hs1⟩
 have:=hs j _ hv
 rwa [Nat.zero_add,e1] at this
end
theorem ay {W:World} {B:Nat} {e:TypeId} {v:Value} {l:List Value} (h:Own W B e v l):∃ A c,v=.slice A l.length c:=by
 rcases h.2 with ⟨rfl,h0⟩ | ⟨g,cap,cur,rfl,_⟩
 ·exact⟨none,0,by rw[h0]⟩
 ·exact⟨_,cap,rfl⟩
theorem eV (l:List UInt8) (w:World):∃ cap W,(convert 9 22 (.string (aw l))).run Tryz.prog w=.ok (.slice (some ⟨w.heap.size,0,none⟩) l.length cap) W∧ah W w.heap.size 0 (l.map V8)∧w.heap.size<W.heap.size∧Below w.heap.size w W∧l.length≤cap:=by
 have h:=run_bytes_of_string (P:=Tryz.prog) w 9 22 5 (aw l) Tryz.underlying9 Tryz.underlying22 Tryz.underlying5
 have hs:(aw l).size=l.length:=by unfold aw;simp [ByteArray.size]
 rw[hs] at h
 refine⟨_,_,h,?_,by simp,(Below.refl _ _).drew.alloc (Nat.le_refl _) _,grownCap_ge w l.length 0 5⟩
 have hb:(w.drew.alloc (.cells (bytesRow (aw l) (grownCap w l.length 0 5)) 5 ((bytesRow (aw l) (grownCap w l.length 0 5)).size,(bytesRow (aw l) (grownCap w l.length 0 5)).size+1))).heap[w.heap.size]? = some (.cells (bytesRow (aw l) (grownCap w l.length 0 5)) 5 ((bytesRow (aw l) (grownCap w l.length 0 5)).size,(bytesRow (aw l) (grownCap w l.length 0 5)).size+1)):=heap_alloc_new w.drew _
 intro j v hv
 have hj:=(List.getElem?_eq_some_iff.1 hv).1
 rw[List.length_map] at hj
 rw[Nat.zero_add,cell_of_row _ _ _ _ _ _ hb]
 unfold bytesRow
 rw[Array.getElem?_append_left (by simp [aw];exact hj)]
 rw[Array.getElem?_map]
 rw[List.getElem?_map] at hv
 simp only [aw,List.getElem?_toArray]
 cases hl:l[j]? with
 | none=>rw[hl] at hv;cases hv
 | some b=>rw[hl] at hv;exact hv
open Go.RowKit Mk
theorem bq.parts {w:World} {v:Value} {ys:List Value} (h:bq w v ys):∃ A cap,v=.slice A ys.length cap∧(0<ys.length→∃ b o,A=some ⟨b,o,none⟩∧b<w.heap.size∧ah w b o ys):=by
 rcases h with ⟨A,e,rfl⟩ | ⟨b,o,c,e,hl,hs⟩
 ·exact⟨A,0,e,fun h=>by simp at h⟩
 ·exact⟨_,c,e,fun _=>⟨b,o,rfl,hl,hs⟩⟩
theorem rN {α:Type} (l:List α) (i:Nat) (hi:i<l.length) (d:α):l.take (i+1)=l.take i++[l.getD i d]:=by
 rw[List.take_succ_eq_append_getElem hi,List.getD_eq_getElem?_getD,List.getElem?_eq_getElem hi];rfl
theorem pT (n:Nat) (hn:n≤1000000) (W:World):(Instr.makeSlice 22 (.int .i64 (n:Int)) (.int .i64 (n:Int))).run Tryz.prog W=.ok (.slice (some ⟨W.heap.size,0,none⟩) n n) (W.alloc (.cells ((List.replicate n 0).map V8).toArray 5)):=by
 have h:=run_make_row' (P:=Tryz.prog) 22 5 (.int .u8 0) 1 Tryz.underlying22 bK rfl .i64 .i64 n (by omega) (by omega) W
 rw[show madeCells #[Value.int .u8 0] n=((List.replicate n 0).map V8).toArray from by
  unfold madeCells
  apply Array.ext
  ·simp
  ·intro i h1 h2
   simp [V8,Nat.mod_one]] at h
 exact h
set_option maxRecDepth 100000
theorem yT (w:World):Calls Tryz.prog 118 #[] w fun e w'=>e=.returned (VS zero)∧Below w.heap.size w w':=by
 have hmk:(Instr.makeSlice 22 (.int .i64 32) (.int .i64 32)).run Tryz.prog w=.ok (.slice (some ⟨w.heap.size,0,none⟩) 32 32) (w.alloc (.cells (zero.map V8).toArray 5)):=pT 32 (by omega) w
 have hcv:=bS ((Row.new w 5 (zero.map V8)).arg 32 rfl)
 have HE:Hid (Below w.heap.size w (w.alloc (.cells (zero.map V8).toArray 5))):=(Below.refl _ _).alloc (Nat.le_refl _) _
 unfold VS
 generalize aw zero=s at *
 generalize (zero.map V8).toArray=cs at *
 go_enter Tryz.func118,Tryz.ntmps118
 go_wp2
 go_ret
 exact⟨rfl,HE.out⟩
set_option maxRecDepth 512
theorem aR.parts {B:Nat} {W:World} {v:Value} {ps:List (List UInt8)} (h:aR V8 22 B W v ps) (hp:0<ps.length):Hm.dz W v ps:=by
 obtain ⟨vs,ho,hl,hw⟩:=h
 obtain ⟨g,cap,e,hB,hg,hs⟩:=ho.form (by omega)
 refine⟨_,cap,vs,by rw[e,hl],⟨hl,fun j u p hu hq=>?_⟩,fun _=>⟨g,0,rfl,hg,hs⟩⟩
 obtain ⟨b,o,c,e1,hc,hlt,_,hs1⟩:=hw j u p hu hq
 exact .inr ⟨b,o,c,e1,hlt,hc,hs1⟩
set_option maxRecDepth 100000
theorem yX (pm:Value) (key:List UInt8) (four:List (List UInt8)) (h4:four.length=4) (hs:∀ t∈four,t.length≤1000) (b o cap:Nat) (w:World) (hb:b<w.heap.size) (hse:ah w b o (four.map VS)) (hK:Hm.ed w pm key) :
  Calls Tryz.prog 119 #[pm,.slice (some ⟨b,o,none⟩) 4 cap] w fun e w'=>e=.returned (VS (node key four))∧Below w.heap.size w w':=by
 obtain ⟨gm,rb,rc,cb,cc,rfl,hin⟩:=hK.named
 have HK:=ae hK
 have H4:=ae h4
 have HS:=ae hs
 have HSe:=ae hse
 have hc1:=Joins.run_convert_bytes_const_at (P:=Tryz.prog) w 22 5 #[.int .u8 110,.int .u8 111,.int .u8 100,.int .u8 101] 4 4 w.heap.size rfl Tryz.underlying22 Tryz.underlying5
 obtain ⟨w1,hw1⟩:∃ w1,w1=w.alloc (.cells #[.int .u8 110,.int .u8 111,.int .u8 100,.int .u8 101] 5 (4,5)):=⟨_,rfl⟩
 have jf:w1.heap.size=w.heap.size+1:=by rw[hw1];simp
 have Jm:ah w1 w.heap.size 0 (gZ.map V8):=fun j u hu=>by
  rw[hw1,Nat.zero_add]
  refine(Joins.cell_alloc_mark_at w _ _ _ _ j rfl).trans ?_
  rw[List.getElem?_toArray]
  exact hu
 obtain ⟨w2,hw2⟩:∃ w2,w2=w1.alloc (.cells #[.slice (some ⟨w.heap.size,0,none⟩) 4 4] 22):=⟨_,rfl⟩
 have HB2:Hid (Below w.heap.size w w2):=by rw[hw2,hw1];exact((Below.refl _ _).alloc (Nat.le_refl _) _).alloc (by simp) _
 have HR2:Hid (aR V8 22 w.heap.size w2 (.slice (some ⟨w.heap.size+1,0,none⟩) 1 1) (gZ::four.take 0)):=by
  have ho:Own w2 w.heap.size 22 (.slice (some ⟨w.heap.size+1,0,none⟩) 1 1) [.slice (some ⟨w.heap.size,0,none⟩) 4 4]:=by
   rw[hw2,← jf];exact Own.lit w1 w.heap.size 22 [.slice (some ⟨w.heap.size,0,none⟩) 4 4] (by omega) (by simp)
  refine⟨_,ho,rfl,fun j u p hu hp=>?_⟩
  match j with
  | 0 =>
   simp only [List.getElem?_cons_zero,Option.some.injEq] at hu hp
   subst hu hp
   exact⟨w.heap.size,0,4,rfl,by decide,by rw[hw2];simp;omega,by show some _≠some _;simp,by rw[hw2];exact Jm.alloc (by omega) _⟩
  | j+1=>simp at hu
 clear hin hs hse h4 hK Jm jf
 go_enter Tryz.func119,Tryz.ntmps119
 go_wp2
 rw[← hw1,← hw2]
 clear hc1 hw1 hw2
 go_loopw [5,6] (fun v i wr=>∃ k:Nat,k≤4∧i=.int .i64 k∧Hid (aR V8 22 w.heap.size wr v (gZ::four.take k))∧Hid (Below w.heap.size w wr)) (fun _ i _=>4 - (intOf i).toNat)
 case atStart=>exact⟨0,by omega,rfl,HR2,HB2⟩
 case round =>
  obtain ⟨k,hk,rfl,HR,HB⟩:=hrel
  clear HR2 HB2
  have dD:=HB.out.size
  by_cases hlt:k<4
  ·obtain ⟨t,ht⟩:∃ t,four[k]? = some t:=⟨_,List.getElem?_eq_getElem (by rw[H4.out];exact hlt)⟩
   have hx:wr.cell? ⟨b,o+k,none⟩=some (.string (aw t)):=((HSe.out.below HB.out hb).at_ (by rw[List.getElem?_map,ht];rfl))
   have Htl:Hid (t.length≤1000):=HS.out t (List.mem_of_getElem? ht)
   have Htk:Hid (four.take (k+1)=four.take k++[t]):=by
    show _=_
    rw[rN four k (by rw[H4.out];exact hlt) [],List.getD_eq_getElem?_getD,ht];rfl
   clear ht
   obtain ⟨cp,W,hcv,cd,hlw,ak,hcap⟩:=eV t wr
   have HSn:=ae cd
   have hal:=Joins.below_alloc1 W (.cells #[.slice (some ⟨wr.heap.size,0,none⟩) t.length cp] 22)
   have HBl:Hid (Below wr.heap.size wr (W.alloc (.cells #[.slice (some ⟨wr.heap.size,0,none⟩) t.length cp] 22))):=ak.trans (hal.mono ak.size)
   have HRb:Hid (aR V8 22 w.heap.size (W.alloc (.cells #[.slice (some ⟨wr.heap.size,0,none⟩) t.length cp] 22)) u5 (gZ::four.take k)):=HR.out.below HBl.out
   have HSo:Hid (ah (W.alloc (.cells #[.slice (some ⟨wr.heap.size,0,none⟩) t.length cp] 22)) W.heap.size 0 [.slice (some ⟨wr.heap.size,0,none⟩) t.length cp]):=(Row.new W 22 [.slice (some ⟨wr.heap.size,0,none⟩) t.length cp]).sees
   have HSt:Hid (ah (W.alloc (.cells #[.slice (some ⟨wr.heap.size,0,none⟩) t.length cp] 22)) wr.heap.size 0 (t.map V8)):=cd.below hal hlw
   have Hne:Hid (u5.ownBlock≠some wr.heap.size):=by
    obtain ⟨vs,ho,_⟩:=HR.out
    intro h
    have:=(ho.lt h).2
    omega
   have Hln:Hid ((gZ::four.take k).length≤1000):=by show _≤_;rw[List.length_cons,List.length_take];omega
   have LK:Hid (W.heap.size<(W.alloc (.cells #[.slice (some ⟨wr.heap.size,0,none⟩) t.length cp] 22)).heap.size):=by show _<_;simp
   have F6:Hid (wr.heap.size<(W.alloc (.cells #[.slice (some ⟨wr.heap.size,0,none⟩) t.length cp] 22)).heap.size):=by show _<_;simp;omega
   have F4:Hid (w.heap.size≤(W.alloc (.cells #[.slice (some ⟨wr.heap.size,0,none⟩) t.length cp] 22)).heap.size):=by show _≤_;simp;omega
   clear cd hal ak
   go_wp2_with (at_builtin;refine aX rfl (.tmp 14) (.tmp 20) 48 rfl Tryz.underlying48 Ad _ rfl HRb.out W.heap.size 1 rfl LK.out HSo.out F6.out Hne.out hcap HSt.out Hln.out F4.out ?_;intro v' w' HR' hg' _)
   go_roundw
   case rel =>
    refine⟨k+1,by omega,by go_num,?_,?_⟩
    ·show aR _ _ _ _ _ _
     rw[Htk.out,← List.cons_append];exact HR'.out
    ·obtain ⟨vs,ho,_⟩:=HRb.out
     exact au (HB.out.trans (HBl.out.mono dD)) ho hg' (Nat.le_refl _) F4.out
   case measure=>simp [intOf];omega
  ·obtain rfl:k=4:=by omega
   have e4:four.take 4=four:=List.take_of_length_le (by rw[H4.out];omega)
   rw[e4] at HR
   clear e4
   obtain ⟨J,HJ⟩:∃ J,Hid (J=gZ::four):=⟨_,rfl⟩
   have HSm:Hid (Hm.Small J):=by
    show Hm.Small _
    rw[HJ.out]
    refine⟨by rw[List.length_cons,H4.out];omega,fun t ht=>?_⟩
    rcases List.mem_cons.1 ht with rfl | ht
    ·decide
    ·exact HS.out t ht
   have HJl:Hid (J.length=5):=by show _=_;rw[HJ.out,List.length_cons,H4.out]
   rw[← HJ.out] at HR
   have HP:Hid (Hm.dz wr u5 J):=HR.out.parts (by rw[HJl.out];omega)
   obtain ⟨vs,ho,hvl,_⟩:=HR.out
   obtain ⟨A,c,rfl⟩:=ay ho
   have HKr:Hid (Hm.ed wr (.pointer (some ⟨gm,0,none⟩)) key):=HK.out.below HB.out
   clear ho hvl
   go_wp2_with fail
   refine(Hm.gp A _ c J HSm.out wr HP.out).mono ?_
   rintro e w3 ⟨jv,rfl,hown,hb3⟩
   have HJv:Hid (Arg w3 jv (Hm.joined J)):=iK.1 (Hm.Own.arg hown)
   have HK3:=ae (HKr.out.below hb3)
   have HB3:=ae (HB.out.trans (hb3.mono HB.out.size))
   clear hown hb3 HR HP HKr HB HSe HK
   go_wp2_with fail
   refine(Hm.jF _ key _ (Hm.joined J) (by have:=HSm.out.joined;omega) w3 HK3.out HJv.out).mono ?_
   rintro e w4 ⟨kv,rfl,hown,hb4⟩
   have hcv:=bS (iK.1 (Hm.Own.arg hown))
   have HB4:=ae (HB3.out.trans (hb4.mono HB3.out.size))
   clear hown hb4
   go_wp2
   go_ret
   refine⟨?_,HB4.out⟩
   rw[VS,node,← HJ.out]
   rfl
set_option maxRecDepth 512
theorem GQ {h:Nat} (hh:(4:Int) ^ h<100001):h≤8:=by
 rcases Nat.lt_or_ge 8 h with h9 | h9
 ·have h1:(4 ^ 9:Nat)≤4 ^ h:=Nat.pow_le_pow_right (by omega) h9
  have h2:((4 ^ h:Nat):Int)=(4:Int) ^ h:=fc h
  have h3:(4 ^ 9:Nat)=262144:=by decide
  omega
 ·exact h9
set_option maxRecDepth 100000
theorem wN (m:Int) (hm:m≤100000) (w:World) :
  Calls Tryz.prog 117 #[.int .i64 m] w fun e w'=>(∃ h N:Nat,Hid (IsH m h)∧h≤9∧Hid (N=4 ^ h)∧e=.returned (.tuple #[.int .i64 (N:Int),.int .i64 (h:Int)]))∧Below w.heap.size w w':=by
 go_enter Tryz.func117,Tryz.ntmps117
 go_wp2
 go_loop [4,5] (fun n i=>∃ (h N:Nat),1≤h∧h≤9∧N=4 ^ h∧(h=1∨(4:Int) ^ (h - 1)<m)∧n=.int .i64 N∧i=.int .i64 h) (fun _ i=>10 - (intOf i).toNat)
 case atStart=>exact⟨1,4,by omega,by omega,rfl,.inl rfl,rfl,rfl⟩
 case round =>
  obtain ⟨h,N,h1,h9,hN,hd,rfl,rfl⟩:=hrel
  have hNi:(N:Int)=(4:Int) ^ h:=by rw[hN,fc]
  have hb9:N≤262144:=by
   have:(4 ^ h:Nat)≤4 ^ 9:=Nat.pow_le_pow_right (by omega) h9
   have h3:(4 ^ 9:Nat)=262144:=by decide
   omega
  have HNi:=ae hNi
  have HN:=ae hN
  have Hd:=ae hd
  clear hNi hN hd
  by_cases hlt:(N:Int)<m
  ·have h8:h≤8:=GQ (by rw[← HNi.out];omega)
   go_wp2
   go_round
   case rel =>
    refine⟨h+1,4*N,by omega,by omega,?_,.inr ?_,by go_num,by go_num⟩
    ·rw[HN.out,Nat.pow_succ];omega
    ·rw[Nat.add_sub_cancel,← HNi.out];exact hlt
   case measure=>simp [intOf];omega
  ·go_wp2
   go_ret2
   exact⟨⟨h,⟨h1,by rw[← HNi.out];omega,Hd.out⟩,h9,N,HN,rfl⟩,Below.refl _ _⟩
set_option maxRecDepth 512
def fU (key:Tg) (r0:List Tg) (i:Nat):List (List Tg):=(List.range (i+1)).map (lev key r0)
theorem jb (key:Tg) (r0:List Tg) (i:Nat):(fU key r0 i).length=i+1:=by simp [fU]
theorem vD (key:Tg) (r0:List Tg) (i:Nat):fU key r0 (i+1)=fU key r0 i++[lev key r0 (i+1)]:=by
 rw[fU,List.range_succ,List.map_append];rfl
theorem rW (key:Tg) (r0:List Tg) (i j:Nat) (h:j≤i):(fU key r0 i)[j]? = some (lev key r0 j):=by
 rw[fU,List.getElem?_map,List.getElem?_range (by omega)];rfl
theorem Df (key:Tg) (l:List Tg) (k:Nat) (h:4*k+4≤l.length):(ups key l).take (k+1)=(ups key l).take k++[node key ((l.drop (4*k)).take 4)]:=by
 have hk:k<(ups key l).length:=by rw[lK];omega
 rw[List.take_succ_eq_append_getElem hk]
 congr 2
 simp [ups]
theorem Bi {W:World} {b o:Nat} {l:List Tg} (h:ah W b o (l.map VS)) (i:Nat):ah W b (o+i) (((l.drop i).take 4).map VS):=by
 have:=h.piece i 4
 rwa [← List.map_drop,← List.map_take] at this
theorem Fb (b o n c a:Nat) (h:a+4≤c) (W:World):(Instr.sliceAt 58 (.slice (some ⟨b,o,none⟩) n c) (some (.int .i64 (a:Int))) (some (.int .i64 ((a:Int)+4))) none).run Tryz.prog W=.ok (.slice (some ⟨b,o+a,none⟩) 4 (c - a)) W:=by
 have hu:Tryz.prog.underlying 58=some (.slice (Tryz.prog.elem 58)):=by kernel_rfl
 have hs:(sizeOf (Tryz.prog.elem 58)).run Tryz.prog W=.ok 1 W:=by kernel_rfl
 rw[run_sliceAt_slice W _ _ _ _ _ hu,run_slice_lh W _ (some ⟨b,o,none⟩) n c hu .i64 .i64 (a:Int) ((a:Int)+4) (by omega) (by omega) (by omega),hs]
 have e1:(a:Int).toNat=a:=Int.toNat_natCast a
 have e2:((a:Int)+4).toNat=a+4:=by omega
 simp only [Result.andThen_ok,sliced,e1,e2]
 rw[if_neg (by omega),Option.map_some,bD,Nat.mul_one,show a+4 - a=4 by omega]
theorem aR.base {α:Type} {f:α→Value} {e:TypeId} {B B':Nat} {W:World} {v:Value} {ps:List (List α)} (h:aR f e B W v ps) (hB:B'≤B):aR f e B' W v ps:=by
 obtain ⟨vs,ho,r⟩:=h
 exact⟨vs,ho.base hB,r⟩
set_option maxRecDepth 100000
theorem yU (pm:Value) (key:Tg) (l:List Tg) (h32:∀ t∈l,t.length=32) (hl:l.length≤100) (x:Value) (w:World) (hK:Hm.ed w pm key) (hx:bq w x (l.map VS)) :
  Calls Tryz.prog 85 #[pm,x] w fun e w'=>(∃ (h:Nat) (r:Value),Hid (IsH l.length h)∧h≤9∧e=.returned r∧Hid (aR VS 58 w.heap.size w' r (fU key (full l h) h)))∧Below w.heap.size w w':=by
 obtain ⟨gm,rb,rc,cb,cc,rfl,hin⟩:=hK.named
 obtain ⟨A,cap,rfl,hsx⟩:=hx.parts
 rw[List.length_map] at hsx hx ⊢
 obtain ⟨n,hnl⟩:∃ n,n=l.length:=⟨_,rfl⟩
 rw[← hnl] at hl hx ⊢
 have HNl:=ae hnl
 have HK:=ae hK
 have HX:=ae hx
 have H32:=ae h32
 clear hin hsx hnl hK hx h32
 go_enter Tryz.func85,Tryz.ntmps85
 go_wp2_with fail
 refine(wN n (by omega) w).mono ?_
 rintro e w1 ⟨⟨h,N,HH,h9,HN,rfl⟩,hb1⟩
 have hnN:n≤N:=by
  have h1:=HH.out.2.1
  have h2:=fc h
  rw[← HN.out] at h2
  omega
 have hN9:N≤262144:=by
  have h3:(4 ^ 9:Nat)=262144:=by decide
  rw[HN.out,← h3]
  exact Nat.pow_le_pow_right (by omega) h9
 have HX1:=ae (HX.out.below hb1)
 have HK1:=ae (HK.out.below hb1)
 have HB1:=ae hb1
 have hs1:=hb1.size
 obtain ⟨wD,hwD⟩:∃ wD,wD=w1.alloc (.cells #[] 9):=⟨_,rfl⟩
 have HBD:Hid (Below w1.heap.size w1 wD):=by rw[hwD];exact(Below.refl _ _).alloc (Nat.le_refl _) _
 have HLD:Hid (Own wD w1.heap.size 9 (.slice (some ⟨w1.heap.size,0,none⟩) 0 0) ([]:List Value)):=by rw[hwD];exact Own.lit w1 w1.heap.size 9 [] (Nat.le_refl _) (by simp)
 have HXD:=ae (HX1.out.below HBD.out)
 have Kt:w1.heap.size≤wD.heap.size:=HBD.out.size
 have HLn:Hid (([]:List Value).length+(l.map VS).length≤1000000):=by show _≤_;rw[List.length_map,← HNl.out];simp;omega
 clear hb1 HX HK HX1
 go_wp2_with (at_builtin;rw[← hwD];refine cE rfl (.tmp 18) (.tmp 19) 58 rfl w1.heap.size 9 Tryz.underlying58 aQ rfl (by decide) _ [] rfl HLD.out _ (l.map VS) rfl HXD.out (jd _) HLn.out Kt ?_;intro v2 w2 hown hg _;rw[List.nil_append] at hown;have HO2:=ae hown;have HB2:Hid (Below w1.heap.size w1 w2):=au HBD.out HLD.out hg (Nat.le_refl _) Kt;clear hown hg)
 clear hwD HBD HLD HXD Kt HLn
 have HK2:=ae (HK1.out.below HB2.out)
 obtain ⟨A2,c2,rfl⟩:=ay HO2.out
 rw[List.length_map,← HNl.out] at HO2 ⊢
 go_loopw [7] (fun v wr=>∃ j:Nat,n+j≤N∧Hid (∃ A c,v=.slice A (n+j) c)∧Hid (Own wr w1.heap.size 9 v ((l++List.replicate j zero).map VS))∧Hid (Below w1.heap.size w1 wr)) (fun v _=>N - (match v with | .slice _ m _=>m | _=>0))
 case atStart=>exact⟨0,hnN,⟨_,_,rfl⟩,by show Own _ _ _ _ _;simpa using HO2.out,HB2⟩
 case round =>
  obtain ⟨j,hj,Hsh,HO,HB⟩:=hrel
  clear HO2 HB2
  obtain ⟨A3,c3,rfl⟩:=Hsh.out
  have hsr:=HB.out.size
  by_cases hlt:n+j<N
  ·have HLn:Hid (((l++List.replicate j zero).map VS).length+[VS zero].length≤1000000):=by show _≤_;rw[List.length_map,List.length_append,List.length_replicate,← HNl.out];simp;omega
   go_wp2_with fail
   refine(yT wr).mono ?_
   rintro e w3 ⟨rfl,hb3⟩
   have HO3:=ae (HO.out.below hb3 (Nat.le_refl _))
   have HB3:=ae (HB.out.trans (hb3.mono hsr))
   have hs3:=HB3.out.size
   have HOa:=ae (HO3.out.alloc (.cells #[VS zero] 9))
   clear HO HB hb3 HO3 Hsh
   go_wp2_with (at_builtin;refine cE rfl (.tmp 25) (.tmp 27) 58 rfl w1.heap.size 9 Tryz.underlying58 aQ rfl (by decide) _ ((l++List.replicate j zero).map VS) rfl HOa.out _ [VS zero] rfl (az w3 9 [VS zero]) (jd [zero]) HLn.out (by simp;omega) ?_;intro v4 w4 hown hg _)
   go_roundw
   case rel =>
    refine⟨j+1,by omega,?_,?_,?_⟩
    ·obtain ⟨A,c,e⟩:=ay hown
     refine⟨A,c,?_⟩
     rw[e,List.length_append,List.length_map,List.length_append,List.length_replicate,← HNl.out];rfl
    ·show Own _ _ _ _ _
     rw[List.replicate_succ',← List.append_assoc,List.map_append];exact hown
    ·exact au (HB3.out.alloc hs3 _) HOa.out hg (Nat.le_refl _) (by simp;omega)
   case measure =>
    obtain ⟨A,c,e⟩:=ay hown
    rw[e,List.length_append,List.length_map,List.length_append,List.length_replicate,← HNl.out]
    simp;omega
  ·have hjN:n+j=N:=by omega
   obtain ⟨R0,HR0⟩:∃ R,Hid (R=full l h):=⟨_,rfl⟩
   have eR:l++List.replicate j zero=R0:=by rw[HR0.out,full,← HN.out,← HNl.out,show N - n=j by omega]
   rw[eR] at HO
   have HRl:Hid (R0.length=N):=by show _=_;rw[← eR,List.length_append,List.length_replicate,← HNl.out];exact hjN
   have CO:Hid (∀ t∈R0,t.length=32):=by rw[HR0.out];exact Ap l h H32.out
   have hN1:1≤N:=by rw[HN.out];exact Nat.pow_pos (by omega)
   obtain ⟨g0,c0,e0,hg0,NM,hc0,hs0⟩:=HO.out.cM (by rw[List.length_map,HRl.out];omega)
   rw[List.length_map,HRl.out] at e0 hc0
   rw[hjN] at e0 ⊢
   rw[e0]
   have HS0:=ae hs0
   have hal:=Joins.below_alloc1 wr (.cells #[.slice (some ⟨g0,0,none⟩) N c0] 58)
   have HW5:Hid (aR VS 58 w1.heap.size (wr.alloc (.cells #[.slice (some ⟨g0,0,none⟩) N c0] 58)) (.slice (some ⟨wr.heap.size,0,none⟩) 1 1) (fU key R0 0)):=by
    refine⟨_,Own.lit wr w1.heap.size 58 [.slice (some ⟨g0,0,none⟩) N c0] hsr (by simp),rfl,fun q u p hu hp=>?_⟩
    match q with
    | 0 =>
     rw[rW key R0 0 0 (Nat.le_refl _)] at hp
     simp only [List.getElem?_cons_zero,Option.some.injEq] at hu hp
     subst hu hp
     exact⟨g0,0,c0,by rw[lev,HRl.out],by rw[lev,HRl.out];exact hc0,by simp;omega,by show some _≠some _;simp;omega,HS0.out.below hal NM⟩
    | q+1=>simp at hu
   have HV5:Hid (∃ b o c,Value.slice (some ⟨g0,0,none⟩) N c0=.slice (some ⟨b,o,none⟩) (lev key R0 0).length c∧(lev key R0 0).length≤c∧b<(wr.alloc (.cells #[.slice (some ⟨g0,0,none⟩) N c0] 58)).heap.size∧ah (wr.alloc (.cells #[.slice (some ⟨g0,0,none⟩) N c0] 58)) b o ((lev key R0 0).map VS)) :=
    ⟨g0,0,c0,by rw[lev,HRl.out],by rw[lev,HRl.out];exact hc0,by simp;omega,HS0.out.below hal NM⟩
   have HB5:Hid (Below w1.heap.size w1 (wr.alloc (.cells #[.slice (some ⟨g0,0,none⟩) N c0] 58))):=HB.out.trans (hal.mono hsr)
   clear HO HB hs0 hal eR e0 Hsh
   go_wp2
   generalize wr.alloc (.cells #[.slice (some ⟨g0,0,none⟩) N c0] 58)=w5 at *
   go_loopw [7,8,9] (fun v7 v8 i wk=>∃ k:Nat,k≤h∧i=.int .i64 k∧Hid (∃ b o c,v7=.slice (some ⟨b,o,none⟩) (lev key R0 k).length c∧(lev key R0 k).length≤c∧b<wk.heap.size∧ah wk b o ((lev key R0 k).map VS))∧Hid (aR VS 58 w1.heap.size wk v8 (fU key R0 k))∧Hid (Below w1.heap.size w1 wk)) (fun _ _ i _=>10 - (intOf i).toNat)
   case atStart=>exact⟨0,by omega,rfl,HV5,HW5,HB5⟩
   case round =>
    obtain ⟨k,hk,rfl,Hv,HW,HB⟩:=hrel
    clear HV5 HW5 HB5 HS0
    obtain ⟨b,o,c,rfl,hc,hb,hse⟩:=Hv.out
    generalize wr=wq at *
    have hsq:=HB.out.size
    by_cases EN:k<h
    ·obtain ⟨L,HL⟩:∃ L,Hid (L=lev key R0 k):=⟨_,rfl⟩
     obtain ⟨m,hm⟩:∃ m,m=4 ^ (h - (k+1)):=⟨_,rfl⟩
     have hLl:L.length=4*m:=by
      rw[HL.out,iI key R0 h (by rw[HRl.out,HN.out]) k (by omega),hm,show h - k=(h - (k+1))+1 by omega,Nat.pow_succ];omega
     have hm1:1≤m:=by rw[hm];exact Nat.pow_pos (by omega)
     have hm9:m≤262144:=by
      have h3:(4 ^ 9:Nat)=262144:=by decide
      rw[hm,← h3]
      exact Nat.pow_le_pow_right (by omega) (by omega)
     have Q6:Hid (∀ t∈L,t.length=32):=by rw[HL.out];exact Ev key R0 CO.out k
     have Hup:Hid (lev key R0 (k+1)=ups key L):=by show _=_;rw[HL.out];rfl
     have Hul:Hid ((ups key L).length=m):=by show _=_;rw[lK,hLl];omega
     rw[← HL.out] at hc hse ⊢
     rw[hLl] at hc ⊢
     have HLl:=ae hLl
     have HSe:=ae hse
     have HKq:=ae (HK1.out.below HB.out)
     clear hLl hm hse Hv
     go_wp2
     go_loopw [10,11] (fun v a wk=>∃ (q A:Nat),q≤m∧Hid (A=4*q)∧a=.int .i64 (A:Int)∧Hid (Own wk wq.heap.size 9 v (((ups key L).take q).map VS))∧Hid (Below wq.heap.size wq wk)) (fun _ a _=>4*m - (intOf a).toNat)
     case atStart=>exact⟨0,0,by omega,rfl,rfl,Own.nil _ _ _,Below.refl _ _⟩
     case round =>
      obtain ⟨q,A,hq,HA,rfl,HO,HBk⟩:=hrel
      have hA4:A≤4*m:=by have:=HA.out;omega
      have hsk:=HBk.out.size
      by_cases hlt3:q<m
      ·have hAm:A+4≤4*m:=by have:=HA.out;omega
       have hsl:=fun W=>Fb b o (4*m) c A (by omega) W
       have HSf:Hid (ah wr b (o+A) (((L.drop A).take 4).map VS)):=Bi (HSe.out.below HBk.out hb) A
       have HK3:=ae (HKq.out.below HBk.out)
       have Hf4:Hid (((L.drop A).take 4).length=4):=by show _=_;rw[List.length_take,List.length_drop,HLl.out];omega
       have Hsn:Hid ((ups key L).take (q+1)=(ups key L).take q++[node key ((L.drop A).take 4)]):=by
        show _=_
        rw[HA.out,Df key L q (by rw[HLl.out];omega)]
       have HLn:Hid ((((ups key L).take q).map VS).length+[VS (node key ((L.drop A).take 4))].length≤1000000):=by show _≤_;rw[List.length_map,List.length_take];simp;omega
       have Hfs:Hid (∀ t∈(L.drop A).take 4,t.length≤1000):=fun t ht=>by
        rw[Q6.out t (List.mem_of_mem_drop (List.mem_of_mem_take ht))];omega
       go_wp2_with fail
       refine(yX _ key ((L.drop A).take 4) Hf4.out Hfs.out b (o+A) (c - A) wr (Nat.lt_of_lt_of_le hb hsk) HSf.out HK3.out).mono ?_
       rintro e w6 ⟨rfl,hb6⟩
       have HO6:=ae (HO.out.below hb6 (Nat.le_refl _))
       have HB6:=ae (HBk.out.trans (hb6.mono hsk))
       have hs6:=HB6.out.size
       generalize node key ((L.drop A).take 4)=T at *
       have HOa:=ae (HO6.out.alloc (.cells #[VS T] 9))
       clear HO HBk hb6 HO6 hsl HSf HK3 Hf4 Hfs
       go_wp2_with (at_builtin;refine cE rfl (.tmp 42) (.tmp 50) 58 rfl wq.heap.size 9 Tryz.underlying58 aQ rfl (by decide) _ (((ups key L).take q).map VS) rfl HOa.out _ [VS T] rfl (az w6 9 [VS T]) (jd [T]) HLn.out (by simp;omega) ?_;intro v7 w7 hown hg _)
       go_roundw
       case rel =>
        refine⟨q+1,A+4,by omega,(by show _=_;have:=HA.out;omega),by go_num,?_,?_⟩
        ·show Own _ _ _ _ _
         rw[Hsn.out,List.map_append];exact hown
        ·exact au (HB6.out.alloc hs6 _) HOa.out hg (Nat.le_refl _) (by simp;omega)
       case measure=>simp [intOf];omega
      ·have hAq:A=4*q:=HA.out
       obtain rfl:q=m:=by omega
       rw[List.take_of_length_le (by rw[Hul.out];omega)] at HO
       have hqm:((ups key L).map VS).length=q:=by rw[List.length_map,Hul.out]
       obtain ⟨g1,c1,e1,hg1,Ig,hc1,Ns⟩:=HO.out.cM (by omega)
       rw[hqm] at e1 hc1
       subst e1
       have P7:w1.heap.size≤wr.heap.size:=Nat.le_trans hsq hsk
       obtain ⟨w6,hw6⟩:∃ w6,w6=wr.alloc (.cells #[.slice (some ⟨g1,0,none⟩) q c1] 58):=⟨_,rfl⟩
       have hal:Below wr.heap.size wr w6:=by rw[hw6];exact Joins.below_alloc1 wr _
       have Ro:w6.heap.size=wr.heap.size+1:=by rw[hw6];simp
       have HRb:Hid (aR VS 58 w1.heap.size w6 u8 (fU key R0 k)):=(HW.out.below HBk.out).below hal
       have HSo:Hid (ah w6 wr.heap.size 0 [.slice (some ⟨g1,0,none⟩) (ups key L).length c1]):=by
        rw[Hul.out,hw6];exact(Row.new wr 58 [.slice (some ⟨g1,0,none⟩) q c1]).sees
       have HSt:Hid (ah w6 g1 0 ((ups key L).map VS)):=Ns.below hal Ig
       have Hne:Hid (u8.ownBlock≠some g1):=by
        obtain ⟨vs,ho,_⟩:=HW.out
        intro h
        have:=(ho.lt h).2
        omega
       have Hln:Hid ((fU key R0 k).length≤1000):=by show _≤_;rw[jb];omega
       have Hc1:Hid ((ups key L).length≤c1):=by show _≤_;rw[Hul.out];exact hc1
       have HB6:Hid (Below w1.heap.size w1 w6):=(HB.out.trans (HBk.out.mono hsq)).trans (hal.mono P7)
       have LK:Hid (wr.heap.size<w6.heap.size):=by show _<_;omega
       have F6:Hid (g1<w6.heap.size):=by show _<_;omega
       have F4:Hid (w1.heap.size≤w6.heap.size):=by show _≤_;omega
       clear Ns hqm hal HO
       go_wp2_with (at_builtin;rw[← hw6];refine aX rfl (.tmp 53) (.tmp 55) 167 rfl Tryz.underlying167 Kn _ rfl HRb.out wr.heap.size 1 rfl LK.out HSo.out F6.out Hne.out Hc1.out HSt.out Hln.out F4.out ?_;intro v9 w9 HR9 hg9 _)
       go_roundw
       case rel =>
        refine⟨k+1,by omega,by go_num,⟨g1,0,c1,by rw[Hup.out,Hul.out],by rw[Hup.out];exact Hc1.out,Nat.lt_of_lt_of_le F6.out hg9.size,by rw[Hup.out];exact HSt.out.grown hg9 F6.out (fun h=>Hne.out h.symm)⟩,?_,?_⟩
        ·show aR _ _ _ _ _ _
         rw[vD,Hup.out];exact HR9.out
        ·obtain ⟨vs,ho,_⟩:=HRb.out
         exact au HB6.out ho hg9 (Nat.le_refl _) F4.out
       case measure=>simp [intOf];omega
    ·obtain rfl:k=h:=by omega
     have HWf:Hid (aR VS 58 w.heap.size wq u8 (fU key (full l k) k)):=by rw[← HR0.out];exact HW.out.base hs1
     go_wp2
     go_ret
     exact⟨⟨k,u8,HH,h9,rfl,HWf⟩,HB1.out.trans (HB.out.mono hs1)⟩
theorem yV (pm:Value) (key:Tg) (l:List Tg) (h32:∀ t∈l,t.length=32) (hl:l.length≤100) (x:Value) (w:World) (hK:Hm.ed w pm key) (hx:bq w x (l.map VS)) :
  Calls Tryz.prog 46 #[pm,x] w fun e w'=>(∃ h:Nat,Hid (IsH l.length h)∧e=.returned (VS (root key l h)))∧Below w.heap.size w w':=by
 obtain ⟨gm,rb,rc,cb,cc,rfl,hin⟩:=hK.named
 obtain ⟨A,cap,rfl,hsx⟩:=hx.parts
 rw[List.length_map] at hsx hx
 obtain ⟨n,hnl⟩:∃ n,n=l.length:=⟨_,rfl⟩
 have HNl:=ae hnl
 have HC:=ae (yU _ key l h32 hl _ w hK hx)
 rw[List.length_map,← hnl]
 rw[← hnl] at HC
 clear hsx hx hnl
 clear hin
 go_enter Tryz.func46,Tryz.ntmps46
 go_wp2_with fail
 refine HC.out.mono ?_
 rintro e w1 ⟨⟨h,r,HH,h9,rfl,HR⟩,hb1⟩
 have hl1:l.length≤4 ^ h:=by
  have h1:=HH.out.2.1
  have h2:=fc h
  have h3:=HNl.out
  omega
 have HLl:Hid ((lev key (full l h) h).length=1):=by show _=_;rw[iI key _ h (kD l h hl1) h (Nat.le_refl _),Nat.sub_self,Nat.pow_zero]
 obtain ⟨T,HT⟩:∃ T,Hid (T=lev key (full l h) h):=⟨_,rfl⟩
 rw[← HT.out] at HLl
 obtain ⟨g,c1,rfl,_,hg,hr⟩:=HR.out.at_ (by rw[jb];omega)
 rw[jb]
 obtain ⟨b,o,c2,hc,_,hb,_,hs⟩:=hr h T (by rw[rW key _ h h (Nat.le_refl _),HT.out])
 rw[HLl.out] at hc
 have c0:w1.cell? ⟨b,o,none⟩=some (.string (aw (root key l h))):=by
  have h1:=hs 0 (VS (root key l h)) (by
   rw[List.getElem?_map]
   have:T[0]? = some (root key l h):=by
    rw[root,← HT.out,List.getD_eq_getElem?_getD,List.getElem?_eq_getElem (by rw[HLl.out];omega)];rfl
   rw[this];rfl)
  rwa [Nat.add_zero] at h1
 have e1:((h+1:Nat):Int) - 1=(h:Int):=by omega
 have HS:Hid (aw (root key l h)=aw (root key l h)):=rfl
 obtain ⟨s,HSs⟩:∃ s,Hid (s=aw (root key l h)):=⟨_,rfl⟩
 rw[← HSs.out] at c0
 clear HS hr HR HC HT HLl hs
 go_wp2
 go_ret
 exact⟨⟨h,HH,by rw[VS,← HSs.out];rfl⟩,hb1⟩
set_option maxRecDepth 512
def IP:Prop:=∀ (m:Int) (w:World),m≤100000→Calls Tryz.prog 140 #[.int .i64 m] w fun e w'=>(∃ h:Nat,Hid (IsH m h)∧h≤9∧e=.returned (.int .i64 (h:Int)))∧Below w.heap.size w w'
def Ou:Prop:=∀ (key:Tg) (four:List Tg) (v:Value) (ks:List Value) (w:World),key.length≤1000→four.length=4→(∀ t∈four,t.length=32)→ks=four.flatten.map V8→Hm.Tab w→Arg w v key →
 Calls Tryz.prog 110 #[v,.agg ks.toArray] w fun e w'=>(∃ rs:List Value,Hid (Vec 32 (node key four) rs)∧e=.returned (.agg rs.toArray))∧Below w.heap.size w w'
theorem qz (t:TypeId) (n:Nat) (ht:Tryz.prog.underlying t=some (.array n 5)) (a b:List UInt8) (rs ss:List Value) (ha:Vec n a rs) (hb:Vec n b ss) (w:World) :
  (Op.equalIn 10000 t (.agg rs.toArray) (.agg ss.toArray)).run Tryz.prog w=.ok (decide (a=b)) w:=by
 have hs:(sizeOf 5).run Tryz.prog w=.ok 1 w:=by kernel_rfl
 have hag:(isAgg 5).run Tryz.prog w=.ok false w:=by kernel_rfl
 rw[show (10000:Nat)=9999+1 from rfl,Op.equalIn]
 simp only [Sem.run_bind,run_underlying ht,Result.andThen_ok,hs]
 simp only [Std.Legacy.Range.forIn_eq_forIn_range',Std.Legacy.Range.size,Nat.sub_zero,Nat.add_sub_cancel,Nat.div_one]
 have key:∀ L:List Nat,(∀ i∈L,i<n)→(forIn (m:=Sem) L ((none,()):Option Bool × Unit) fun i _=>do
      let a ← part 5 rs.toArray (i*1)
      let b ← part 5 ss.toArray (i*1)
      let c ← Op.equalIn 9999 5 a b
      if (!c)=true then pure (ForInStep.done ((some false,()):Option Bool × Unit)) else pure (ForInStep.yield (none,()))).run Tryz.prog w=.ok (if ∀ i∈L,a.getD i 0=b.getD i 0 then (none,()) else (some false,())) w:=by
  intro L
  induction L with
  | nil=>intro _;simp
  | cons i r ih =>
   intro hL
   have hi:i<n:=hL i (by simp)
   have hp:(part 5 rs.toArray (i*1)).run Tryz.prog w=.ok (.int .u8 (a.getD i 0).toNat) w:=by
    have hx:=ha.at_ i hi
    simp only [part,Sem.run_bind,hag,Result.andThen_ok]
    simp [hx]
   have hq:(part 5 ss.toArray (i*1)).run Tryz.prog w=.ok (.int .u8 (b.getD i 0).toNat) w:=by
    have hx:=hb.at_ i hi
    simp only [part,Sem.run_bind,hag,Result.andThen_ok]
    simp [hx]
   have he:(Op.equalIn 9999 5 (.int .u8 ((a.getD i 0).toNat:Int)) (.int .u8 ((b.getD i 0).toNat:Int))).run Tryz.prog w=.ok (((a.getD i 0).toNat:Int) == ((b.getD i 0).toNat:Int)) w:=by
    rw[show (9999:Nat)=9998+1 from rfl,run_equalIn_int w 9998 5 .u8 .u8 _ _ Tryz.underlying5]
   rw[List.forIn_cons]
   by_cases hxy:a.getD i 0=b.getD i 0
   ·have hbb:(((a.getD i 0).toNat:Int) == ((b.getD i 0).toNat:Int))=true:=by rw[hxy];simp
    rw[hbb] at he
    simp only [Sem.run_bind,hp,hq,Result.andThen_ok,he,Bool.not_true,Bool.false_eq_true,if_false,Sem.run_pure]
    rw[ih (fun j hj=>hL j (by simp [hj]))]
    simp only [List.mem_cons,forall_eq_or_imp,hxy,true_and]
   ·have hbb:(((a.getD i 0).toNat:Int) == ((b.getD i 0).toNat:Int))=false:=by
     rw[beq_eq_false_iff_ne]
     intro hh
     exact hxy (UInt8.toNat_inj.1 (by omega))
    rw[hbb] at he
    simp only [Sem.run_bind,hp,hq,Result.andThen_ok,he,Bool.not_false,if_true,Sem.run_pure]
    simp only [List.mem_cons,forall_eq_or_imp,hxy,false_and,if_false]
 rw[key _ (fun i hi=>by simpa using (List.mem_range'_1.1 hi).2)]
 by_cases hab:a=b
 ·rw[if_pos (fun i _=>by rw[hab])]
  simp [hab]
 ·have hne:¬ ∀ i∈List.range' 0 n 1,a.getD i 0=b.getD i 0:=by
   intro hh
   apply hab
   apply List.ext_getElem (by rw[ha.2,hb.2])
   intro i h1 h2
   have h3:=hh i (by rw[List.mem_range'_1];have:=ha.2;omega)
   simpa [List.getD_eq_getElem?_getD,h1,h2] using h3
  rw[if_neg hne]
  simp [hab]
def gG:List Value:=List.replicate 128 (.int .u8 0)
theorem uV (w:World):(zeroValue 198).run Tryz.prog w=.ok (.agg gG.toArray) w:=by kernel_rfl
theorem eE (f:List Tg) (h4:f.length=4) (h32:∀ t∈f,t.length=32):f.flatten.length=128:=by
 match f,h4 with
 | [a,b,c,d],_ =>
  have ha:=h32 a (by simp)
  have hb:=h32 b (by simp)
  have hc:=h32 c (by simp)
  have hd:=h32 d (by simp)
  simp only [List.flatten_cons,List.flatten_nil,List.length_append,List.length_nil]
  omega
end Go.Proofs.YthbmknpbcgnabaaGreatDoor.Mr
