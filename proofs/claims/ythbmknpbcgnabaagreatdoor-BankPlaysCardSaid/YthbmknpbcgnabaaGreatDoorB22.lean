/- Of the walk. -/
import Derived.Test.YthbmknpbcgnabaaGreatDoorB21
set_option maxHeartbeats 40000000
namespace Go.Proofs.YthbmknpbcgnabaaGreatDoor
open Go.RowKit Dsk
abbrev VS (bs:List UInt8):Value:=.string (aw bs)
theorem jd (l:List (List UInt8)):∀ y∈l.map VS,y.oneCell'=true:=fun y hy=>by obtain ⟨x,_,rfl⟩:=List.mem_map.1 hy;rfl
theorem fe:∀ y∈[VS z72],y.oneCell'=true:=jd [z72]
theorem aQ:(Tryz.prog.info? 9).map (fun i=>(i.zero,i.size,i.bytes))=some (some (.string ⟨#[]⟩),1,16):=by kernel_rfl
theorem mn {P:Program} {w:World} (t ty:TypeId) (B:Nat) (e:TypeId) {z:Value} {bytes:Nat} (ht:P.underlying t=some (.slice e)) (hi:(P.info? e).map (fun i=>(i.zero,i.size,i.bytes))=some (some z,1,bytes)) (hz:z.cells.size=1) (hby:bytes≤100)
  (v:Value) (ys:List Value) (hown:Own w B e v ys) (u:Value) (zs:List Value) (hu:bq w u zs) (h1:∀ y∈zs,y.oneCell'=true) (hl:ys.length+zs.length≤1000000) (hB:B≤w.heap.size) :
  ∃ v' w',(Builtin.append_ #[t,t] ty #[v,u]).run P w=.ok v' w'∧Own w' B e v' (ys++zs)∧w.grownBy w' v.ownBlock∧(v'.ownBlock=v.ownBlock∨v'.ownBlock=some w.heap.size):=by
 obtain ⟨i,hi,hz0,hz1,hz2⟩:=info_parts hi
 have k9:(ys.length+zs.length)*bytes≤140737488355328:=by
  have:(ys.length+zs.length)*bytes≤1000000*100:=Nat.mul_le_mul hl hby
  omega
 rcases hu with ⟨A,rfl,rfl⟩ | ⟨b,off,c,rfl,_,cd⟩
 ·cases A with
  | none=>exact⟨v,w,run_append_owned_none w B t ty e i 1 ht hi v ys.length ys hown,by rw[List.append_nil];exact hown,World.grownBy.refl w _,.inl rfl⟩
  | some ad =>
   obtain ⟨v',w',hr,h2,h3,_,h5⟩:=run_append_own_at w B t ty e i z 1 bytes ht hi hz0 hz1 hz2 hz (by omega) v ys.length ys hown ad 0 0 [] (by simp) (fun j u hu=>by simp at hu) (by simp) (by simp only [maxLen];simp at hl;omega) (by simpa using k9) hB
   exact⟨v',w',hr,by rw[Nat.add_zero] at h2;rw[List.append_nil] at h2 ⊢;exact h2,h3,h5⟩
 ·obtain ⟨v',w',hr,h2,h3,_,h5⟩:=run_append_own_at w B t ty e i z 1 bytes ht hi hz0 hz1 hz2 hz (by omega) v ys.length ys hown ⟨b,off,none⟩ zs.length c zs (by simp) (fun j u hu=>by rw[bD];exact cd j u hu) h1 (by simp only [maxLen];omega) k9 hB
  exact⟨v',w',hr,by rw[← List.length_append] at h2;exact h2,h3,h5⟩
theorem dh {P:Program} {w:World} {ops:Array Oper} {o:Oper} {a:Act} {K:Act→World→Prop} {Q:Exit→Act→World→Prop} {E:Prop} (hgd:o.guard=none) (s x:Operand) (t:TypeId)
  (ho:o.op=.call { callee:=.builtin .append,args:=#[s,x],argTypes:=#[t,t] })
  (B:Nat) (e:TypeId) {z:Value} {bytes:Nat} (ht:P.underlying t=some (.slice e)) (hi:(P.info? e).map (fun i=>(i.zero,i.size,i.bytes))=some (some z,1,bytes)) (hz:z.cells.size=1) (hby:bytes≤100)
  (v:Value) (ys:List Value) (hs:a.eval s=v) (hown:Own w B e v ys) (u:Value) (zs:List Value) (hx:a.eval x=u) (hu:bq w u zs) (h1:∀ y∈zs,y.oneCell'=true)
  (hl:ys.length+zs.length≤1000000) (hB:B≤w.heap.size)
  (h:∀ v' w',Own w' B e v' (ys++zs)→w.grownBy w' v.ownBlock→(v'.ownBlock=v.ownBlock∨v'.ownBlock=some w.heap.size)→K (a.put o.dst v') w') :
  if Region.wanted o (yielded ops a.tmps)=true then Oper.wp P o a w K Q else E:=by
 rw[if_pos (by simp [Region.wanted,hgd])]
 obtain ⟨v',w',hr,h2,h3,h4⟩:=mn (P:=P) t o.type B e ht hi hz hby v ys hown u zs hu h1 hl hB
 unfold Oper.wp execOp
 simp only [ho,resolve,invoke,builtin,Sem.run_bind,Sem.run_pure,Result.andThen_ok,List.map_toArray,List.map_cons,List.map_nil,hs,hx,hr]
 exact h v' w' h2 h3 h4
theorem cE {P:Program} {w:World} {ops:Array Oper} {rest:List Oper} {o:Oper} {a:Act} {Q:Exit→Act→World→Prop} (hgd:o.guard=none) (s x:Operand) (t:TypeId)
  (ho:o.op=.call { callee:=.builtin .append,args:=#[s,x],argTypes:=#[t,t] })
  (B:Nat) (e:TypeId) {z:Value} {bytes:Nat} (ht:P.underlying t=some (.slice e)) (hi:(P.info? e).map (fun i=>(i.zero,i.size,i.bytes))=some (some z,1,bytes)) (hz:z.cells.size=1) (hby:bytes≤100)
  (v:Value) (ys:List Value) (hs:a.eval s=v) (hown:Own w B e v ys) (u:Value) (zs:List Value) (hx:a.eval x=u) (hu:bq w u zs) (h1:∀ y∈zs,y.oneCell'=true)
  (hl:ys.length+zs.length≤1000000) (hB:B≤w.heap.size)
  (h:∀ v' w',Own w' B e v' (ys++zs)→w.grownBy w' v.ownBlock→(v'.ownBlock=v.ownBlock∨v'.ownBlock=some w.heap.size)→wpList P ops Q rest (a.put o.dst v') w'):wpList P ops Q (o::rest) a w:=by
 refine wpList_plain hgd fun K hK=>?_
 obtain ⟨v',w',hr,h2,h3,h4⟩:=mn (P:=P) t o.type B e ht hi hz hby v ys hown u zs hu h1 hl hB
 unfold Oper.wp execOp
 simp only [ho,resolve,invoke,builtin,Sem.run_bind,Sem.run_pure,Result.andThen_ok,List.map_toArray,List.map_cons,List.map_nil,hs,hx,hr]
 exact hK _ _ (h v' w' h2 h3 h4)
def jY (u v:Value):Prop:=∀ k,u.ownBlock=some k→v.ownBlock≠some k
theorem jY.symm {u v:Value} (h:jY u v):jY v u:=fun k h1 h2=>h k h2 h1
structure Tri (W:World) (M B:Nat) (va vb vc:Value) (ys us zs:List Value):Prop where
 row:Row W M 98 [va,vb,vc]
 oa:Own W B 9 va ys
 ob:Own W B 9 vb us
 oc:Own W B 9 vc zs
 ab:jY va vb
 ac:jY va vc
 bc:jY vb vc
 MB:M<B
 hB:B≤W.heap.size
section
variable {W W':World} {M B:Nat} {va vb vc:Value} {ys us zs:List Value}
theorem Tri.below (h:Tri W M B va vb vc ys us zs) (k:Below W.heap.size W W'):Tri W' M B va vb vc ys us zs :=
 ⟨h.row.below k h.row.lt,h.oa.below k (Nat.le_refl _),h.ob.below k (Nat.le_refl _),h.oc.below k (Nat.le_refl _),h.ab,h.ac,h.bc,h.MB,Nat.le_trans h.hB k.size⟩
theorem Tri.alloc (h:Tri W M B va vb vc ys us zs) (o:Obj):Tri (W.alloc o) M B va vb vc ys us zs:=h.below ((Below.refl _ _).alloc (Nat.le_refl _) _)
theorem Tri.drew (h:Tri W M B va vb vc ys us zs):Tri W.drew M B va vb vc ys us zs:=⟨h.row,h.oa,h.ob,h.oc,h.ab,h.ac,h.bc,h.MB,h.hB⟩
theorem ig {e:TypeId} {v:Value} {l:List Value} (h:Own W B e v l) (hM:M<B) (j:Nat) (u:Value):Own (W.setCell ⟨M,j,none⟩ u) B e v l :=
 h.kept (row:=some M) (iP (World.grownBy.refl W _) (.inl rfl) _) (.inr fun e'=>by have:=(h.lt e').1;omega)
theorem iy {e:TypeId} {v u:Value} {l:List Value} (h:Own W B e v l) (hg:W.grownBy W' u.ownBlock) (hu:jY u v):Own W' B e v l :=
 h.kept hg (by
  cases hv:v.ownBlock with
  | none=>exact .inl rfl
  | some k=>exact .inr fun e'=>hu k e'.symm hv)
theorem fQ {u u' v:Value} {e:TypeId} {l:List Value} (h:jY u v) (hv:Own W B e v l) (hu:u'.ownBlock=u.ownBlock∨u'.ownBlock=some W.heap.size):jY u' v:=fun k hk hk'=>by
 rcases hu with hu | hu
 ·exact h k (by rw[← hu];exact hk) hk'
 ·rw[hu] at hk
  injection hk with hk
  have:=(hv.lt hk').2
  omega
theorem Tri.my {v:Value} {e:TypeId} {l:List Value} (h:Tri W M B va vb vc ys us zs) (ho:Own W B e v l) (hg:W.grownBy W' v.ownBlock):Row W' M 98 [va,vb,vc] :=
 h.row.grown hg fun e'=>by have:=(ho.lt e'.symm).1;have:=h.MB;omega
theorem Tri.Lu (h:Tri W M B va vb vc ys us zs) {v':Value} {l:List Value} (ho:Own W' B 9 v' l) (hg:W.grownBy W' va.ownBlock) (hv:v'.ownBlock=va.ownBlock∨v'.ownBlock=some W.heap.size) :
  Tri (W'.setCell ⟨M,0,none⟩ v') M B v' vb vc l us zs :=
 ⟨(h.my h.oa hg).set 0 v',ig ho h.MB _ _,ig (iy h.ob hg h.ab) h.MB _ _,ig (iy h.oc hg h.ac) h.MB _ _,fQ h.ab h.ob hv,fQ h.ac h.oc hv,h.bc,h.MB,by simpa [World.setCell] using Nat.le_trans h.hB hg.size⟩
theorem Tri.Lt (h:Tri W M B va vb vc ys us zs) {v':Value} {l:List Value} (ho:Own W' B 9 v' l) (hg:W.grownBy W' vb.ownBlock) (hv:v'.ownBlock=vb.ownBlock∨v'.ownBlock=some W.heap.size) :
  Tri (W'.setCell ⟨M,1,none⟩ v') M B va v' vc ys l zs :=
 ⟨(h.my h.ob hg).set 1 v',ig (iy h.oa hg h.ab.symm) h.MB _ _,ig ho h.MB _ _,ig (iy h.oc hg h.bc) h.MB _ _,(fQ h.ab.symm h.oa hv).symm,h.ac,fQ h.bc h.oc hv,h.MB,by simpa [World.setCell] using Nat.le_trans h.hB hg.size⟩
theorem Tri.uD (h:Tri W M B va vb vc ys us zs) {v':Value} {l:List Value} (ho:Own W' B 9 v' l) (hg:W.grownBy W' vc.ownBlock) (hv:v'.ownBlock=vc.ownBlock∨v'.ownBlock=some W.heap.size) :
  Tri (W'.setCell ⟨M,2,none⟩ v') M B va vb v' ys us l :=
 ⟨(h.my h.oc hg).set 2 v',ig (iy h.oa hg h.ac.symm) h.MB _ _,ig (iy h.ob hg h.bc.symm) h.MB _ _,ig ho h.MB _ _,h.ab,(fQ h.ac.symm h.oa hv).symm,(fQ h.bc.symm h.ob hv).symm,h.MB,by simpa [World.setCell] using Nat.le_trans h.hB hg.size⟩
theorem Tri.cell (h:Tri W M B va vb vc ys us zs) {v:Value} {e:TypeId} {l:List Value} (ho:Own W B e v l) (hg:W.grownBy W' v.ownBlock) (i:Nat) (hi:i<3):(W'.cell? ⟨M,i,none⟩).isSome=true∧W'.frozen? ⟨M,i,none⟩=false:=by
 have hr:=h.my ho hg
 refine⟨?_,hr.free i⟩
 rw[hr.cell]
 match i,hi with
 | 0,_=>rfl
 | 1,_=>rfl
 | 2,_=>rfl
theorem Tri.bH {w0:World} {v u:Value} {e:TypeId} {l:List Value} {W2:World} {o:Obj} (h:Tri W M B va vb vc ys us zs) (hb:Below w0.heap.size w0 W) (ho:Own W B e v l) (hg:(W.alloc o).grownBy W2 v.ownBlock) (hM:w0.heap.size≤M) (i:Nat):Below w0.heap.size w0 (W2.setCell ⟨M,i,none⟩ u):=by
 have h1:Below w0.heap.size w0 W2:=au (hb.alloc hb.size _) (ho.alloc _) hg (by have:=h.MB;omega) (by have:=hb.size;simp;omega)
 exact h1.setCell hM _
theorem ay {e:TypeId} {v:Value} {l:List Value} (h:Own W B e v l):∃ A n c,v=.slice A n c:=by
 rcases h.2 with ⟨rfl,_⟩ | ⟨g,cap,cur,rfl,_⟩ <;> exact⟨_,_,_,rfl⟩
theorem mC {e:TypeId} {v:Value} {l:List Value} (h:Own W B e v l) (hp:0<l.length):∃ g cap,v=.slice (some ⟨g,0,none⟩) l.length cap∧B≤g∧g<W.heap.size∧aj W g 0 l:=by
 rcases h.2 with ⟨_,h0⟩ | ⟨g,cap,cur,rfl,hb,hg,_,_,_,ht⟩
 ·omega
 ·refine⟨g,cap,rfl,hb,(Array.getElem?_eq_some_iff.1 hg).1,?_⟩
  have hr:Row W g e cur.toList:=by rw[Row,Array.toArray_toList];exact hg
  have:=hr.here.part 0 l.length
  rw[Nat.zero_add,List.drop_zero,← Nat.mul_one l.length,ht] at this
  exact this
end
structure cZ (w:World) (G:Nat→Prop) (M a b c:Nat) (ca cb cc:Nat) (L:List Blk):Prop where
 head:aj w M 0 [.slice (some ⟨a,0,none⟩) L.length ca,.slice (some ⟨b,0,none⟩) L.length cb,.slice (some ⟨c,0,none⟩) L.length cc]
 dur:aj w a 0 (L.map fun x=>VS x.dur)
 fresh:aj w b 0 (L.map fun x=>VS (x.wr.getD []))
 past:aj w c 0 (L.map fun x=>VS x.past)
 ok:∀ (i:Nat) (x:Blk),L[i]? = some x→x.ok
 Ma:M≠a
 Mb:M≠b
 Mc:M≠c
 ab:a≠b
 ac:a≠c
 bc:b≠c
 gM:G M
 ga:G a
 gb:G b
 gc:G c
 lt:∀ k,G k→k<w.heap.size
 few:L.length≤512
 pos:0<L.length
def bL (w:World) (G:Nat→Prop) (M:Nat) (L:List Blk):Prop:=∃ a b c ca cb cc,cZ w G M a b c ca cb cc L
theorem cZ.stay {w w':World} {G:Nat→Prop} {M a b c ca cb cc:Nat} {L:List Blk} {S:Nat→Nat→Prop} (h:cZ w G M a b c ca cb cc L) (hc:Chg S w w') (hS:∀ k o,G k→¬ S k o):cZ w' G M a b c ca cb cc L :=
 ⟨h.head.chg hc fun _ _=>hS _ _ h.gM,h.dur.chg hc fun _ _=>hS _ _ h.ga,h.fresh.chg hc fun _ _=>hS _ _ h.gb,h.past.chg hc fun _ _=>hS _ _ h.gc,h.ok,h.Ma,h.Mb,h.Mc,h.ab,h.ac,h.bc,h.gM,h.ga,h.gb,h.gc,fun k hk=>Nat.lt_of_lt_of_le (h.lt k hk) hc.size,h.few,h.pos⟩
theorem bL.stay {w w':World} {G:Nat→Prop} {M:Nat} {L:List Blk} {S:Nat→Nat→Prop} (h:bL w G M L) (hc:Chg S w w') (hS:∀ k o,G k→¬ S k o):bL w' G M L:=by
 obtain ⟨a,b,c,ca,cb,cc,h⟩:=h
 exact⟨a,b,c,ca,cb,cc,h.stay hc hS⟩
theorem bL.below {w w':World} {G:Nat→Prop} {M:Nat} {L:List Blk} (h:bL w G M L) (hc:Below w.heap.size w w'):bL w' G M L:=h.stay (Chg.below hc fun _ _=>False) fun _ _ _ x=>x
theorem pT (n:Nat) (hn:n≤1000000) (W:World):(Instr.makeSlice 22 (.int .i64 (n:Int)) (.int .i64 (n:Int))).run Tryz.prog W=.ok (.slice (some ⟨W.heap.size,0,none⟩) n n) (W.alloc (.cells ((List.replicate n 0).map V8).toArray 5)):=by
 have h:=run_make_row' (P:=Tryz.prog) 22 5 (.int .u8 0) 1 Tryz.underlying22 bK rfl .i64 .i64 n (by omega) (by omega) W
 rw[show madeCells #[Value.int .u8 0] n=((List.replicate n 0).map V8).toArray from by
  unfold madeCells
  apply Array.ext
  ·simp
  ·intro i h1 h2
   simp [V8,Nat.mod_one]] at h
 exact h
set_option maxRecDepth 100000
theorem dU (w:World):Calls Tryz.prog 39 #[] w fun e w'=>e=.returned (VS z72)∧Below w.heap.size w w':=by
 have hmk:(Instr.makeSlice 22 (.int .i64 72) (.int .i64 72)).run Tryz.prog w=.ok (.slice (some ⟨w.heap.size,0,none⟩) 72 72) (w.alloc (.cells (z72.map V8).toArray 5)):=pT 72 (by omega) w
 have hcv:=bS ((Row.new w 5 (z72.map V8)).arg 72 lG)
 have HE:Hid (Below w.heap.size w (w.alloc (.cells (z72.map V8).toArray 5))):=(Below.refl _ _).alloc (Nat.le_refl _) _
 unfold VS
 generalize aw z72=s at *
 generalize (z72.map V8).toArray=cs at *
 go_enter Tryz.func39,Tryz.ntmps39
 go_wp2
 go_ret
 exact⟨rfl,HE.out⟩
end Go.Proofs.YthbmknpbcgnabaaGreatDoor
