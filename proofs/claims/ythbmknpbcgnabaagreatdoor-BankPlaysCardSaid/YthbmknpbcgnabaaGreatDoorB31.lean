/- Of the walk. -/
import Derived.Great.BuildSlice
import Derived.Laws.IdiomCopy
import Derived.Test.YthbmknpbcgnabaaGreatDoorB30
set_option maxHeartbeats 40000000
namespace Go.Proofs.YthbmknpbcgnabaaGreatDoor.Mr
open Go.RowKit Go.Shelf Mk Mt
theorem GR {w:World} {B:Nat} {v:Value} {key:Tg} (h:Own w B 5 v (key.map V8)):(key=[]∧v=.slice none 0 0)∨∃ KB,B≤KB∧KB<w.heap.size∧∀ w2:World,w.heap.size≤w2.heap.size→w2.heap[KB]? = w.heap[KB]?→Arg w2 v key:=by
 obtain ⟨hl,h2⟩:=h
 rw[List.length_map] at h2
 rcases h2 with ⟨rfl,h0⟩ | ⟨g,cap,cur,rfl,hb,hg,hc,_,_,ht⟩
 ·exact .inl ⟨List.eq_nil_of_length_eq_zero h0,rfl⟩
 ·refine .inr ⟨g,hb,(Array.getElem?_eq_some_iff.1 hg).1,fun w2 hs hw2=>.inr ⟨g,0,cap,rfl,Nat.lt_of_lt_of_le (Array.getElem?_eq_some_iff.1 hg).1 hs,hc,fun j u hu=>?_⟩⟩
  rw[Nat.zero_add]
  have hg2:=hw2.trans hg
  rw[Nat.mul_one] at ht
  rw[← ht] at hu
  have hu2:cur.toList[j]? = some u:=by
   rw[List.getElem?_take] at hu
   split at hu
   ·exact hu
   ·cases hu
  rw[cell_of_row w2 g j _ _ (0,0) hg2]
  rw[Array.getElem?_toList] at hu2
  exact hu2
def Cl (w w':World) (v:Value) (key:Tg):Prop:=(key=[]∧∃ A,v=.slice A 0 0)∨∃ KB,w.heap.size≤KB∧KB<w'.heap.size∧∀ w2:World,w'.heap.size≤w2.heap.size→w2.heap[KB]? = w'.heap[KB]?→Arg w2 v key
set_option maxRecDepth 100000
theorem Cf (key:Tg) (v:Value) (w:World) (hk:key.length≤1000) (hA:Arg w v key):Calls Tryz.prog 88 #[v] w fun e w'=>∃ v',e=.returned v'∧Hid (Cl w w' v' key)∧Below w.heap.size w w':=by
 obtain ⟨A,cap,rfl⟩:=hA.form
 cases A with
 | none =>
  have hn:key=[]:=by
   rcases hA with ⟨A,_,h⟩ | ⟨b,o,c,h,_⟩
   ·exact h
   ·injection h with h;cases h
  subst hn
  clear hA
  have he:∀ W:World,(binOp .eql 22 (.slice none 0 cap) (.slice none 0 0)).run Tryz.prog W=.ok (.bool true) W:=fun _=>rfl
  rw[List.length_nil]
  go_enter Tryz.func88,Tryz.ntmps88
  go_wp2
  go_ret
  exact⟨_,rfl,.inl ⟨rfl,_,rfl⟩,Below.refl _ _⟩
 | some ad =>
  obtain ⟨w1,hw1⟩:∃ W,W=w.alloc (.cells #[] 5):=⟨_,rfl⟩
  have HFr:Hid (bq w1 (.slice (some ad) key.length cap) (key.map V8)):=by rw[hw1];exact(dy hA).alloc _
  have HO:Hid (Own w1 w.heap.size 5 (.slice (some ⟨w.heap.size,0,none⟩) 0 0) []):=by rw[hw1];exact Own.lit w w.heap.size 5 [] (Nat.le_refl _) (Nat.zero_le _)
  have HB:Hid (Below w.heap.size w w1):=by rw[hw1];exact(Below.refl _ _).alloc (Nat.le_refl _) _
  have HLn:Hid (([]:List Value).length+(key.map V8).length≤100000000):=by show _≤_;simp;omega
  have H1:=ae (bI key)
  have Hsz:Hid (w.heap.size≤w1.heap.size):=HB.out.size
  obtain ⟨n,hn⟩:∃ n,n=key.length:=⟨_,rfl⟩
  rw[← hn] at HFr ⊢
  clear hA hk hn
  have he:∀ W:World,(binOp .eql 22 (.slice (some ad) n cap) (.slice none 0 0)).run Tryz.prog W=.ok (.bool false) W:=fun _=>rfl
  go_enter Tryz.func88,Tryz.ntmps88
  go_wp2_with (at_builtin;rw[← hw1];refine aA rfl (.tmp 5) (.tmp 6) 22 rfl w.heap.size 5 Tryz.underlying22 bK rfl (by decide) _ [] rfl HO.out _ (key.map V8) rfl HFr.out H1.out HLn.out Hsz.out ?_;intro v2 w2 aC hg2 _;rw[List.nil_append] at aC;have HO2:=ae aC;have HB2:Hid (Below w.heap.size w w2):=au HB.out HO.out hg2 (Nat.le_refl _) HB.out.size;clear aC hg2)
  go_ret
  refine⟨v2,rfl,?_,HB2.out⟩
  rcases GR HO2.out with ⟨e,rfl⟩ | h
  ·exact .inl ⟨e,_,rfl⟩
  ·exact .inr h
set_option maxRecDepth 512
theorem ic {P:Program} (k:Nat) (w:World) (dT sT ty elem:TypeId) (b o dLen dCap:Nat) (a:Addr) (sLen sCap:Nat) (cs:List Value)
  (hu:P.underlying dT=some (.slice elem)) (hs:(P.info? elem).map (·.size)=some k) (hn:cs.length=Nat.min sLen dLen*k)
  (hsrc:∀ j v,cs[j]? = some v→w.cell? (a.add j)=some v) (hc:w.there b o cs.length) (h1:∀ v∈cs,v.oneCell'=true) :
  (Builtin.copy_ #[dT,sT] ty #[.slice (some ⟨b,o,none⟩) dLen dCap,.slice (some a) sLen sCap]).run P w=.ok (goInt (Nat.min sLen dLen)) (w.setCells b o cs):=by
 have hl:=run_loadCells_list (P:=P) w a cs hsrc
 have hst:=run_storeCells_cells (P:=P) b o cs 0 w (fun j hj=>by have:=(hc j hj).1;simpa using this) (fun j hj=>by have:=(hc j hj).2;simpa using this) h1
 cases hq:P.info? elem with
 | none=>simp [hq] at hs
 | some i =>
  have hi:i.size=k:=by simpa [hq] using hs
  simp [Builtin.copy_,run_underlying hu,Builtin.lenOf,Builtin.firstCells,sizeOf,typeInfo,hq,hi,← hn,hl,hst]
theorem nZ {P:Program} {w w':World} {a:Act} {o:Oper} {t t':TypeId} {d s:Operand} {v u x:Value} (ho:o.op=.call { callee:=.builtin .copy,args:=#[d,s],argTypes:=#[t,t'] }) (hd:a.eval d=v) (hs:a.eval s=u) (hr:(Builtin.copy_ #[t,t'] o.type #[v,u]).run P w=.ok x w'):(execOp a.eval o).run P w=.ok (.value x) w':=by
 simp only [execOp,ho,resolve,invoke,builtin,Sem.run_bind,Sem.run_pure,Result.andThen_ok,List.map_toArray,List.map_cons,List.map_nil,hd,hs,hr]
theorem CW {P:Program} {o:Oper} {a:Act} {w w':World} {v:Value} {K:Act→World→Prop} {Q:Exit→Act→World→Prop} (hr:(execOp a.eval o).run P w=.ok (.value v) w') (h:K (a.put o.dst v) w'):o.wp P a w K Q:=by
 unfold Oper.wp;rw[hr];exact h
theorem EE:(Tryz.prog.info? 27).map (fun i=>(i.zero,i.size,i.bytes))=some (some (.agg Hm.Z32.toArray),32,32):=by kernel_rfl
theorem Dx:(Tryz.prog.info? 27).map (·.size)=some 32:=by kernel_rfl
set_option maxRecDepth 100000
theorem Ki (n:Nat) (hn:n≤100000) (W:World):(Instr.makeSlice 141 (.int .i64 (n:Int)) (.int .i64 (n:Int))).run Tryz.prog W=.ok (.slice (some ⟨W.heap.size,0,none⟩) n n) (W.alloc (.cells (cells (List.replicate n zero)).toArray 27)):=by
 obtain ⟨i,hi,hz0,hz1,hz2⟩:=info_parts EE
 have:=run_make (P:=Tryz.prog) W 141 27 i (.agg Hm.Z32.toArray) Tryz.underlying141 hi hz0 .i64 .i64 n n (by omega) (by omega) (by rw[hz2];omega) (by omega)
 rw[Int.toNat_natCast,hz1] at this
 rw[this]
 congr 3
 unfold madeCells
 have hc:(Value.agg Hm.Z32.toArray).cells=Hm.Z32.toArray:=rfl
 have hz:Hm.Z32.toArray=Array.replicate 32 (.int .u8 0):=by kernel_rfl
 have hR:(cells (List.replicate n zero))=List.replicate (n*32) (.int .u8 0):=by
  have h1:(List.replicate n zero).flatten=List.replicate (n*32) 0:=by
   rw[zero,List.flatten_replicate_replicate]
  rw[cells,h1,List.map_replicate];rfl
 rw[hR,hc]
 apply Array.ext
 ·simp
 ·intro j h1 h2
  simp only [Array.getElem_map,Array.getElem_range,List.getElem_toArray,List.getElem_replicate]
  exact eQ _ _ 32 hz _ (by rw[hz,Array.size_replicate];exact Nat.mod_lt _ (by omega))
set_option maxRecDepth 512
def rep (t:Tg) (n k:Nat):List Tg:=List.replicate k t++List.replicate (n - k) zero
theorem GO (t:Tg) (n:Nat):rep t n n=List.replicate n t:=by rw[rep,Nat.sub_self];simp
theorem aT (t:Tg) (ht:t.length=32) (k:Nat):(cells (List.replicate k t)).length=32*k:=by
 rw[ir _ (fun u hu=>by rw[List.eq_of_mem_replicate hu];exact ht),List.length_replicate]
theorem se (l:List Tg):∀ v∈cells l,v.oneCell'=true:=fun v hv=>by
 obtain ⟨x,_,rfl⟩:=List.mem_map.1 hv;rfl
theorem zM {W:World} {g:Nat} {t:Tg} (ht:t.length=32) {n k m:Nat} (hm:k+m≤n) (hR:Row W g 27 (cells (rep t n k))) :
  Row (W.setCells g (k*32) (cells (List.replicate m t))) g 27 (cells (rep t n (k+m)))∧W.there g (k*32) (cells (List.replicate m t)).length:=by
 have e1:cells (rep t n k)=cells (List.replicate k t)++(cells (List.replicate m zero)++cells (List.replicate (n - (k+m)) zero)):=by
  rw[rep,bG,show n - k=m+(n - (k+m)) by omega,← List.replicate_append_replicate,bG]
 have e2:cells (rep t n (k+m))=cells (List.replicate k t)++(cells (List.replicate m t)++cells (List.replicate (n - (k+m)) zero)):=by
  rw[rep,bG,← List.replicate_append_replicate,bG,List.append_assoc]
 have hz:zero.length=32:=rfl
 rw[e1] at hR
 rw[e2]
 refine⟨mq _ _ _ _ _ _ (by rw[aT t ht];omega) (by rw[aT t ht,aT zero hz]) hR,hR.gw _ _ ?_⟩
 rw[List.length_append,List.length_append,aT t ht,aT t ht,aT zero hz,aT zero hz];omega
set_option maxRecDepth 100000
theorem xU (t:Tg) (ht:t.length=32) (b n:Nat) (h1:1≤n) (h2:n≤1000) (w:World) (hR:Row w b 27 (t.map V8)):Calls Tryz.prog 141 #[.slice (some ⟨b,0,none⟩) 1 1,I64 n] w fun e w' =>
  ∃ g,e=.returned (.slice (some ⟨g,0,none⟩) n n)∧w.heap.size≤g∧Hid (Row w' g 27 (cells (List.replicate n t)))∧Below w.heap.size w w':=by
 have hm:=Any.bits_Mul Tryz.El 1 n (by omega) (by omega) w
 change Calls Tryz.prog 71 _ _ _ at hm
 rw[show 1*n / 18446744073709551616=0 by omega,show 1*n % 18446744073709551616=n by omega] at hm
 have hmk:=Ki n (by omega) w
 obtain ⟨g,hg⟩:∃ g,g=w.heap.size:=⟨_,rfl⟩
 obtain ⟨w1,hw1⟩:∃ W,W=w.alloc (.cells (cells (List.replicate n zero)).toArray 27):=⟨_,rfl⟩
 have hB1:Below w.heap.size w w1:=by rw[hw1];exact(Below.refl _ _).alloc (Nat.le_refl _) _
 have hR1:Row w1 g 27 (cells (rep t n 0)):=by
  rw[hw1,hg]
  exact Row.new w 27 (cells (List.replicate n zero))
 have hRb:Row w1 b 27 (t.map V8):=hR.below hB1 hR.lt
 have h11:Nat.min 1 n=1:=Nat.min_eq_left h1
 have hrr:=zM ht (k:=0) (m:=1) (by omega) hR1
 rw[show List.replicate 1 t=[t] from rfl] at hrr
 have ec:cells [t]=t.map V8:=by simp [cells]
 have hcp:(Builtin.copy_ #[141,141] 3 #[.slice (some ⟨g,0,none⟩) n n,.slice (some ⟨b,0,none⟩) 1 1]).run Tryz.prog w1=.ok (goInt 1) (w1.setCells g 0 (cells [t])):=by
  have h:=ic (P:=Tryz.prog) 32 w1 141 141 3 27 g 0 n n ⟨b,0,none⟩ 1 1 (cells [t]) Tryz.underlying141 Dx (by rw[h11,ec,List.length_map,ht]) (fun j v hj=>by rw[bD,Nat.zero_add,hRb.cell,← ec];exact hj) (by have:=hrr.2;rwa [Nat.zero_mul] at this) (se _)
  rwa [h11] at h
 obtain ⟨w2,hw2⟩:∃ W,W=w1.setCells g 0 (cells [t]):=⟨_,rfl⟩
 have HR2:Hid (Row w2 g 27 (cells (rep t n 1))):=by
  have:=hrr.1
  rw[Nat.zero_mul,Nat.zero_add] at this
  show Row _ _ _ _
  rw[hw2];exact this
 have HB2:Hid (Below w.heap.size w w2):=by
  show RowKit.Below _ _ _
  rw[hw2];exact dv (by omega) _ 0 hB1
 have Hg:Hid (w.heap.size≤g):=by show _≤_;omega
 have Ht:=ae ht
 rw[← hw1,← hg] at hmk
 have hwu:IntKind.u64.wrap (n:Int)=(n:Int):=by simp [IntKind.wrap,IntKind.bits,IntKind.signed];omega
 have hwi:IntKind.i64.wrap (n:Int)=(n:Int):=by rw[IntKind.wrap_i64];omega
 have hwn:wrap64 (n:Int)=(n:Int):=w64 _ (by omega)
 clear hR hB1 hR1 hRb hrr ec hw1 ht h11 hg
 go_enter Tryz.func141,Tryz.ntmps141
 go_wp2_with (go_at_call 71;refine hm.mono ?_;rintro e w ⟨rfl,rfl⟩;clear hm)
 try rw [← hw2]
 clear hcp hw2 hmk
 go_loopw [8] (fun i wr=>∃ k:Nat,1≤k∧k≤n∧i=I64 k∧Hid (Row wr g 27 (cells (rep t n k)))∧Hid (RowKit.Below w.heap.size w wr)) (fun i _=>n - (RowKit.intOf i).toNat)
 case atStart=>exact⟨1,Nat.le_refl _,h1,rfl,HR2,HB2⟩
 case round =>
  obtain ⟨k,hk1,hkn,rfl,HR,HB⟩:=hrel
  clear HR2 HB2
  by_cases hlt:k<n
  ·obtain ⟨q,hq⟩:∃ q,n - k=q:=⟨_,rfl⟩
   obtain ⟨m,hm⟩:∃ m,m=Nat.min k q:=⟨_,rfl⟩
   obtain ⟨s,hs⟩:∃ s,s=k+m:=⟨_,rfl⟩
   have KD:m≤k:=by rw[hm];exact Nat.min_le_left _ _
   have hmq:m≤q:=by rw[hm];exact Nat.min_le_right _ _
   have hm1:1≤m:=by rw[hm];exact Nat.le_min.2 ⟨hk1,by omega⟩
   have HCp:Hid (∀ W,RowKit.Below wr.heap.size wr W→(Builtin.copy_ #[141,141] 3 #[.slice (some ⟨g,k*32,none⟩) q q,.slice (some ⟨g,0,none⟩) k n]).run Tryz.prog W=.ok (.int .i64 (m:Int)) (W.setCells g (k*32) (cells (List.replicate m t))) ∧
     Row (W.setCells g (k*32) (cells (List.replicate m t))) g 27 (cells (rep t n s))∧RowKit.Below w.heap.size w (W.setCells g (k*32) (cells (List.replicate m t)))):=fun W hW=>by
    have hRW:=HR.out.below hW HR.out.lt
    have hr:=zM Ht.out (k:=k) (m:=m) (by omega) hRW
    have h:=ic (P:=Tryz.prog) 32 W 141 141 3 27 g (k*32) q q ⟨g,0,none⟩ k n (cells (List.replicate m t)) Tryz.underlying141 Dx (by rw[aT t Ht.out,← hm];omega) (fun j v hj=>by
     rw[bD,Nat.zero_add,hRW.cell,rep,bG]
     have hjl:=(List.getElem?_eq_some_iff.1 hj).1
     rw[aT t Ht.out] at hjl
     rw[List.getElem?_append_left (by rw[aT t Ht.out];omega)]
     have e:cells (List.replicate k t)=cells (List.replicate m t)++cells (List.replicate (k - m) t):=by rw[← bG,List.replicate_append_replicate,show m+(k - m)=k by omega]
     rw[e,List.getElem?_append_left (by rw[aT t Ht.out];omega)]
     exact hj) hr.2 (se _)
    rw[← hm] at h
    rw[hs]
    exact⟨h,hr.1,dv Hg.out _ _ (HB.out.trans (hW.mono HB.out.size))⟩
   have Hb1:Hid (k≤n∧¬ n=k):=by show _∧_;omega
   have Hb2:Hid ((0:Int)≤(k:Int)∧(k:Int)≤(n:Int)):=by show _∧_;omega
   have LF:Hid ((k:Int)+(m:Int)=(s:Int)):=by show _=_;omega
   have Hsw:Hid (IntKind.i64.wrap (s:Int)=(s:Int)):=by show _=_;rw[IntKind.wrap_i64];omega
   have Hsn:Hid (k<s∧s≤n):=by show _∧_;omega
   have ai:Hid (∀ W,RowKit.Below wr.heap.size wr W→True):=fun _ _=>trivial
   have Hq:=ae hq
   clear hm hs KD hmq hm1 HR HB hq
   go_wp2
   have hC:Below wr.heap.size wr wr.drew:=below_drewN (Below.refl _ _) 1
   refine wp_region_held_drew (S:=(fun _=>True)) (by kernel_rfl) (ai.out _ hC) (fun aa=>?_)
   generalize wr.drew=wrd at *
   refine tkq 0 38 aa ?_
   try go_frame
   refine tkq 1 39 aa ?_
   try go_frame
   refine tkq 2 40 aa ?_
   try go_frame
   refine tkh 3 41 rfl aa ?_ (Or.inl ⟨by rfl,by intro w hSw;have hb1:=Hb1.out.1;have hb3:=Hb1.out.2;have hq:=Hq.out;go_simp;with_reducible rfl⟩)
   try go_frame
   refine tkq 4 42 aa ?_
   try go_frame
   refine tkq 5 43 aa ?_
   try go_frame
   refine tkh 6 44 rfl aa ?_ (Or.inl ⟨by rfl,by intro w hSw;have hb2:=Hb2.out;go_simp;with_reducible rfl⟩)
   try go_frame
   refine rdq 7 45 fun K hK=>?_
   rw[if_pos (by rfl)]
   refine CW (nZ rfl rfl rfl (HCp.out _ hC).1) ?_
   have HAf:=ae (HCp.out _ hC).2
   refine hK.out _ _ trivial (fun aa=>?_)
   clear hK K
   generalize (wrd.setCells g (k*32) (cells (List.replicate m t)))=wz at *
   try go_frame
   refine tkh 8 46 rfl aa ?_ (Or.inl ⟨by rfl,by intro w hSw;have hsum:=LF.out;have hsw:=Hsw.out;go_simp;with_reducible rfl⟩)
   try go_frame
   refine tkq 9 8 aa ?_
   try go_frame
   refine wpAnyH_done (by kernel_rfl) ?_ _
   clear hC ai aa HCp
   have Qf:=Hsn.out
   go_wp2
   go_roundw
   case rel=>exact⟨s,by omega,by omega,rfl,HAf.out.1,HAf.out.2⟩
   case measure=>rw[show RowKit.intOf (.int .i64 (s:Int))=(s:Int) from rfl,show RowKit.intOf (.int .i64 (k:Int))=(k:Int) from rfl];omega
  ·obtain rfl:k=n:=by omega
   rw[GO] at HR
   go_wp2
   refine bodyPost_ret (results_tmp rfl _ _ _) rfl ?_
   exact⟨g,rfl,Hg.out,HR,HB.out⟩
end Go.Proofs.YthbmknpbcgnabaaGreatDoor.Mr
namespace Go.Proofs.YthbmknpbcgnabaaGreatDoor.Mr
open Go.RowKit Mk Mt
def zt (key:Tg):Nat→Tg
 | 0=>zero
 | j+1=>node key [zt key j,zt key j,zt key j,zt key j]
theorem uT (key:Tg):∀ j,(zt key j).length=32
 | 0=>rfl
 | _+1=>ky _ _
theorem vp (key:Tg) (n:Nat):∀ j i,tv key (List.replicate n zero) j i=zt key j
 | 0,i=>by
  rw[tv,zt,List.getD_eq_getElem?_getD,List.getElem?_replicate];split <;> rfl
 | j+1,i=>by rw[tv,zt,vp key n j,vp key n j,vp key n j,vp key n j]
theorem Ko:(Tryz.prog.info? 141).map (fun i=>(i.zero,i.size,i.bytes))=some (some (.slice none 0 0),1,24):=by kernel_rfl
theorem nU {w:World} {ops:Array Oper} {rest:List Oper} {o:Oper} {a:Act} {Q:Exit→Act→World→Prop} (hgd:o.guard=none) (s x:Operand)
  (ho:o.op=.call { callee:=.builtin .append,args:=#[s,x],argTypes:=#[142,142] })
  (B:Nat) (v:Value) (ys:List Value) (hs:a.eval s=v) (hown:Own w B 141 v ys) (g:Nat) (z:Value) (hx:a.eval x=.slice (some ⟨g,0,none⟩) 1 1) (hu:Row w g 141 [z]) (h1:z.oneCell'=true) (hl:ys.length+1≤100000) (hB:B≤w.heap.size)
  (h:∀ v' w',Own w' B 141 v' (ys++[z])→w.grownBy w' v.ownBlock→(v'.ownBlock=v.ownBlock∨v'.ownBlock=some w.heap.size)→wpList Tryz.prog ops Q rest (a.put o.dst v') w'):wpList Tryz.prog ops Q (o::rest) a w:=by
 refine wpList_plain hgd fun K hK=>?_
 obtain ⟨i,hi,hz0,hz1,hz2⟩:=info_parts Ko
 obtain ⟨v',w',hr,h2,h3,_,h5⟩:=run_append_own_at w B 142 o.type 141 i _ 1 24 Tryz.underlying142 hi hz0 hz1 hz2 rfl (by omega) v ys.length ys hown ⟨g,0,none⟩ 1 1 [z] rfl (fun j u hj=>by rw[bD,Nat.zero_add,hu.cell];exact hj) (by simpa using h1) (by simp only [maxLen];omega) (by omega) hB
 unfold Oper.wp execOp
 simp only [ho,resolve,invoke,builtin,Sem.run_bind,Sem.run_pure,Result.andThen_ok,List.map_toArray,List.map_cons,List.map_nil,hs,hx,hr]
 refine hK _ _ (h v' w' ?_ h3 h5)
 unfold Own
 rw[List.length_append,List.length_singleton];exact h2
theorem x7 {w:World} {B:Nat} {e:TypeId} {v:Value} {ys:List Value} (h:Own w B e v ys) {g:Nat} {t:TypeId} {cs:List Value} (hR:Row w g t cs) (hne:t≠e):some g≠v.ownBlock:=by
 rcases h.2 with ⟨rfl,_⟩ | ⟨g',cap,cur,rfl,_,hg,_⟩
 ·simp [Value.ownBlock]
 ·intro e1
  have e2:g=g':=by simpa [Value.ownBlock] using e1
  subst e2
  have h1:=hR.symm.trans hg
  injection h1 with h1
  injection h1 with _ h1
  exact hne h1
def slv (n h:Nat) (rb:Nat→Nat) (i:Nat):Value:=.slice (some ⟨rb i,0,none⟩) (wid n h i) (wid n h i)
structure AtZ (w0 w:World) (key:Tg) (kv:Value) (n h bt:Nat) (rb:Nat→Nat) (j:Nat) (v:Value):Prop where
 own:Own w w0.heap.size 141 v ((List.range j).map (slv n h rb))
 row:∀ i,i<j→Row w (rb i) 27 (cells (List.replicate (wid n h i) (zt key i)))
 tag:Row w bt 27 ((zt key j).map V8)
 inc:∀ i k,i<k→k<j→rb i<rb k
 low:∀ i,i<j→w0.heap.size≤rb i
 nbt:∀ i,i<j→rb i≠bt
 tab:Hm.Tab w
 arg:Arg w kv key
 bel:Below w0.heap.size w0 w
section
variable {w0 w w':World} {key:Tg} {kv:Value} {n h bt:Nat} {rb:Nat→Nat} {j:Nat} {v v':Value}
theorem AtZ.below (a:AtZ w0 w key kv n h bt rb j v) (hb:Below w.heap.size w w'):AtZ w0 w' key kv n h bt rb j v :=
 ⟨a.own.below hb (Nat.le_refl _),fun i hi=>(a.row i hi).below hb (a.row i hi).lt,a.tag.below hb a.tag.lt,a.inc,a.low,a.nbt,a.tab.below hb,a.arg.below hb,a.bel.trans (hb.mono a.bel.size)⟩
theorem AtZ.app (a:AtZ w0 w key kv n h bt rb j v) (g:Nat) (hg:Row w g 27 (cells (List.replicate (wid n h j) (zt key j)))) (hlo:w0.heap.size≤g) (hgb:g≠bt) (hgi:∀ i,i<j→rb i<g)
  (ho:Own w' w0.heap.size 141 v' ((List.range j).map (slv n h rb)++[.slice (some ⟨g,0,none⟩) (wid n h j) (wid n h j)])) (hgr:w.grownBy w' v.ownBlock) (hts:(27:TypeId)≠141)
  (hown:∀ k,v.ownBlock=some k→w0.heap.size≤k) (h0:(0:Nat)<w0.heap.size) (ri:Arg w' kv key) :
  Own w' w0.heap.size 141 v' ((List.range (j+1)).map (slv n h (fun i=>if i=j then g else rb i)))∧(∀ i,i<j+1→Row w' ((fun i=>if i=j then g else rb i) i) 27 (cells (List.replicate (wid n h i) (zt key i))))∧Row w' bt 27 ((zt key j).map V8) ∧
   (∀ i k,i<k→k<j+1→(fun i=>if i=j then g else rb i) i<(fun i=>if i=j then g else rb i) k)∧(∀ i,i<j+1→w0.heap.size≤(fun i=>if i=j then g else rb i) i)∧(∀ i,i<j+1→(fun i=>if i=j then g else rb i) i≠bt)∧Hm.Tab w'∧Arg w' kv key∧Below w0.heap.size w0 w':=by
 have hkeep:∀ {q:Nat} {t:TypeId} {cs:List Value},Row w q t cs→t≠141→Row w' q t cs:=fun hR hne=>hR.grown hgr (x7 a.own hR hne)
 refine⟨?_,fun i hi=>?_,hkeep a.tag hts,fun i k h1 h2=>?_,fun i hi=>?_,fun i hi=>?_,?_,ri,a.bel.grown hgr a.bel.size (fun k hk=>hown k hk)⟩
 ·rw[List.range_succ,List.map_append,List.map_singleton]
  have e1:(List.range j).map (slv n h (fun i=>if i=j then g else rb i))=(List.range j).map (slv n h rb):=List.map_congr_left fun i hi=>by
   have:=List.mem_range.1 hi
   unfold slv;simp only [if_neg (show ¬ i=j by omega)]
  have e2:slv n h (fun i=>if i=j then g else rb i) j=.slice (some ⟨g,0,none⟩) (wid n h j) (wid n h j):=by unfold slv;simp
  rw[e1,e2];exact ho
 ·show Row w' (if i=j then g else rb i) _ _
  by_cases e:i=j
  ·rw[if_pos e,e];exact hkeep hg hts
  ·rw[if_neg e];exact hkeep (a.row i (by omega)) hts
 ·show (if i=j then g else rb i)<(if k=j then g else rb k)
  rw[if_neg (show ¬ i=j by omega)]
  by_cases e:k=j
  ·rw[if_pos e];exact hgi i (by omega)
  ·rw[if_neg e];exact a.inc i k h1 (by omega)
 ·show _≤if i=j then g else rb i
  by_cases e:i=j
  ·rw[if_pos e];exact hlo
  ·rw[if_neg e];exact a.low i (by omega)
 ·show (if i=j then g else rb i)≠bt
  by_cases e:i=j
  ·rw[if_pos e];exact hgb
  ·rw[if_neg e];exact a.nbt i (by omega)
 ·refine pF a.tab (hgr.block _ a.tab.1 (fun e=>?_))
  have:=hown _ e.symm
  omega
end
theorem DB (ts:List Value) (ht:ts.length=32) (w:World):(Instr.buildSlice 141 1 #[(0,.agg ts.toArray)]).run Tryz.prog w=.ok (.slice (some ⟨w.heap.size,0,none⟩) 1 1) (w.alloc (.cells ts.toArray 27)):=by
 obtain ⟨i,hi,hz0,hz1,hz2⟩:=info_parts EE
 refine run_buildSlice w 141 27 1 #[(0,.agg ts.toArray)] ts.toArray i _ Tryz.underlying141 hi hz0 (by rw[hz1];decide) (by rw[hz1];decide) ?_
 have hv:(Value.agg ts.toArray).cells=ts.toArray:=rfl
 have:=Great.fill_whole (s:=32) (by decide) [.agg ts.toArray] ((Array.range (1*i.size)).map ((Value.agg Hm.Z32.toArray).cells[· % (Value.agg Hm.Z32.toArray).cells.size]!)) (fun v hv=>by simp at hv;subst hv;exact ht) (by rw[hz1];simp)
 rw[hz1] at this ⊢
 have e1:(#[(0,Value.agg ts.toArray)]:Array (Nat × Value)).toList=([Value.agg ts.toArray].zipIdx 0).map fun x=>(x.2,x.1):=by simp
 rw[e1,this]
 simp [hv]
theorem Bl (ts:List Value) (ht:ts.length=32) (w:World):(Instr.build 198 #[(0,.agg ts.toArray),(1,.agg ts.toArray),(2,.agg ts.toArray),(3,.agg ts.toArray)]).run Tryz.prog w=.ok (.agg (ts++(ts++(ts++ts))).toArray) w:=by
 refine run_build w 198 _ _ ?_
 have hb:∀ parts,Tryz.prog.built 198 parts=Instr.fill (fun i=>some (i*32,32)) gG.toArray parts:=fun parts=>by kernel_rfl
 rw[hb]
 have hv:(Value.agg ts.toArray).cells=ts.toArray:=rfl
 have:=Great.fill_whole (s:=32) (by decide) [.agg ts.toArray,.agg ts.toArray,.agg ts.toArray,.agg ts.toArray] gG.toArray (fun v hv=>by simp at hv;subst hv;exact ht) (by rw[List.size_toArray,gG,List.length_replicate];rfl)
 have e1:(#[(0,Value.agg ts.toArray),(1,Value.agg ts.toArray),(2,Value.agg ts.toArray),(3,Value.agg ts.toArray)]:Array (Nat × Value)).toList=([Value.agg ts.toArray,.agg ts.toArray,.agg ts.toArray,.agg ts.toArray].zipIdx 0).map fun x=>(x.2,x.1):=by simp
 rw[e1,this]
 simp [hv]
theorem mi:(27:TypeId)≠141:=by decide
theorem pL {P:Program} {w w':World} {a:Act} {o:Oper} {t:TypeId} {x:Operand} {v r:Value} (ho:o.op=.buildSlice t 1 #[(0,x)]) (hx:a.eval x=v) (hr:(Instr.buildSlice t 1 #[(0,v)]).run P w=.ok r w'):(execOp a.eval o).run P w=.ok (.value r) w':=by
 have hp:((#[(0,x)]:Array (Nat × Operand)).map fun (i,x)=>(i,a.eval x))=#[(0,v)]:=by simp [hx]
 unfold execOp
 simp only [ho,Sem.run_bind,Sem.run_pure,Result.andThen_ok,hp,hr]
theorem vC {P:Program} {w w':World} {a:Act} {o:Oper} {t:TypeId} {x0 x1 x2 x3:Operand} {v r:Value} (ho:o.op=.build t #[(0,x0),(1,x1),(2,x2),(3,x3)]) (h0:a.eval x0=v) (h1:a.eval x1=v) (h2:a.eval x2=v) (h3:a.eval x3=v)
  (hr:(Instr.build t #[(0,v),(1,v),(2,v),(3,v)]).run P w=.ok r w'):(execOp a.eval o).run P w=.ok (.value r) w':=by
 have hp:((#[(0,x0),(1,x1),(2,x2),(3,x3)]:Array (Nat × Operand)).map fun (i,x)=>(i,a.eval x))=#[(0,v),(1,v),(2,v),(3,v)]:=by simp [h0,h1,h2,h3]
 unfold execOp
 simp only [ho,Sem.run_bind,Sem.run_pure,Result.andThen_ok,hp,hr]
def AtP (w0 w:World) (key:Tg) (kv:Value) (n h bt:Nat) (rb:Nat→Nat) (j:Nat) (v:Value):Prop :=
 Own w w0.heap.size 141 v ((List.range (j+1)).map (slv n h rb))∧(∀ i,i<j+1→Row w (rb i) 27 (cells (List.replicate (wid n h i) (zt key i))))∧Row w bt 27 ((zt key j).map V8) ∧
   (∀ i k,i<k→k<j+1→rb i<rb k)∧(∀ i,i<j+1→w0.heap.size≤rb i)∧(∀ i,i<j+1→rb i≠bt)∧Hm.Tab w∧Arg w kv key∧Below w0.heap.size w0 w
theorem AtP.tagged {w0 w w':World} {key:Tg} {kv:Value} {n h bt:Nat} {rb:Nat→Nat} {j:Nat} {v:Value} (p:AtP w0 w key kv n h bt rb j v) (hb:Below w.heap.size w w') (hbt:w0.heap.size≤bt) (h0:(0:Nat)<w0.heap.size) (hA:Arg w0 kv key) (rs:List Value) (hr:rs=(zt key (j+1)).map V8) :
  AtZ w0 (w'.setRow bt rs.toArray) key kv n h bt rb (j+1) v:=by
 obtain ⟨p1,p2,p3,p4,p5,p6,p7,p8,p9⟩:=p
 have hB:Below w0.heap.size w0 (w'.setRow bt rs.toArray):=ag (p9.trans (hb.mono p9.size)) hbt _
 have p1':=p1.below hb (Nat.le_refl _)
 have p3':=p3.below hb p3.lt
 refine⟨?_,fun i hi=>((p2 i hi).below hb (p2 i hi).lt).dG (p6 i hi) _,?_,p4,p5,p6,pF (p7.below hb) (setRow_other w' bt _ _ (by omega)),hA.below hB,hB⟩
 ·exact p1'.kept (row:=some bt) (iA (World.grownBy.refl w' _) (.inl rfl) _) (.inr fun e=>x7 p1' p3' mi e.symm)
 ·rw[← hr];exact p3'.whole rs
structure AM (w w':World) (key:Tg) (n h RB:Nat) (rb:Nat→Nat):Prop where
 lo:w.heap.size≤RB
 lt:RB<w'.heap.size
 slot:∀ j,j≤h→w'.cell? ⟨RB,j,none⟩=some (slv n h rb j)
 row:∀ j,j≤h→Row w' (rb j) 27 (cells (List.replicate (wid n h j) (zt key j)))
 inc:∀ i k,i<k→k≤h→rb i<rb k
 low:∀ j,j≤h→w.heap.size≤rb j
 ne:∀ j,j≤h→rb j≠RB
theorem AtP.laid {w0 w:World} {key:Tg} {kv:Value} {n h bt:Nat} {rb:Nat→Nat} {v:Value} (p:AtP w0 w key kv n h bt rb h v):∃ RB rc,v=.slice (some ⟨RB,0,none⟩) (h+1) rc∧AM w0 w key n h RB rb:=by
 obtain ⟨p1,p2,p3,p4,p5,p6,p7,p8,p9⟩:=p
 have hlen:((List.range (h+1)).map (slv n h rb)).length=h+1:=by simp
 obtain ⟨g,cap,hv,hlo,hlt,hs⟩:=p1.form (by rw[hlen];exact Nat.succ_pos _)
 rw[hlen] at hv
 refine⟨g,cap,hv,hlo,hlt,fun j hj=>?_,fun j hj=>p2 j (by omega),fun i k h1 h2=>p4 i k h1 (by omega),fun j hj=>p5 j (by omega),fun j hj e=>?_⟩
 ·have:=hs j (slv n h rb j) (by rw[List.getElem?_map,List.getElem?_range (by omega)];rfl)
  rwa [Nat.zero_add] at this
 ·have h2:=x7 p1 (p2 j (by omega)) mi
  rw[hv] at h2
  exact h2 (by rw[e];rfl)
set_option maxRecDepth 100000
theorem Bo (key:Tg) (kv:Value) (n:Nat) (w:World) (hk:key.length≤1000) (hn1:1≤n) (hn:n≤100) (h:Nat) (hh:IsH n h) (hT:Hm.Tab w) (hA:Arg w kv key):Calls Tryz.prog 121 #[kv,I64 n] w fun e w' =>
  ∃ RB rc rb,e=.returned (.slice (some ⟨RB,0,none⟩) (h+1) rc)∧Hid (AM w w' key n h RB rb)∧Below w.heap.size w w':=by
 have hz:=Hm.eM
 obtain ⟨bt,hbt⟩:∃ b,b=w.heap.size:=⟨_,rfl⟩
 obtain ⟨w1,hw1⟩:∃ W,W=w.alloc (.cells Hm.Z32.toArray 27):=⟨_,rfl⟩
 have hB1:Below w.heap.size w w1:=by rw[hw1];exact(Below.refl _ _).alloc (Nat.le_refl _) _
 have hR1:Row w1 bt 27 Hm.Z32:=by rw[hw1,hbt];exact Row.new w 27 Hm.Z32
 have hht:=uh (n:Int) w1 (by omega)
 have HT:=ae hT
 have HA:=ae hA
 have HB1:=ae hB1
 have HR1:=ae hR1
 have Hh:=ae hh
 have Hk:=ae hk
 have Hn:Hid (1≤n∧n≤100):=⟨hn1,hn⟩
 have Hbt:=ae hbt
 clear hT hA hB1 hR1 hh hk hn1 hn hbt
 go_enter Tryz.func121,Tryz.ntmps121
 go_wp2_with (go_at_call 140;rw[← hw1];clear hw1;refine hht.mono ?_;rintro e w2 ⟨⟨h',Hh',_,rfl⟩,hb2⟩;have HB2:=ae hb2;obtain rfl:h'=h:=Hh'.out.unique Hh.out;clear hht hb2 Hh')
 rw[← Hbt.out]
 have HI0:Hid (AtZ w w2 key kv n h' bt (fun _=>0) 0 (.slice none 0 0)):=by
  have hB:=HB1.out.trans (HB2.out.mono HB1.out.size)
  exact⟨Own.nil _ _ _,fun i hi=>absurd hi (Nat.not_lt_zero _),HR1.out.below HB2.out HR1.out.lt,fun i k _ hk=>absurd hk (Nat.not_lt_zero _),fun i hi=>absurd hi (Nat.not_lt_zero _),fun i hi=>absurd hi (Nat.not_lt_zero _),HT.out.below hB,HA.out.below hB,hB⟩
 have h4:=(vR Hn.out.2 Hh.out).2
 have eU:=Hn.out.2
 clear HR1 HB2 hz
 go_loopw [5,7,11] (fun v f i wr=>∃ (j u:Nat) (rb:Nat→Nat),j≤h'∧f=I64 u∧i=I64 j∧u≤100∧Hid (u=up n j)∧Hid (AtZ w wr key kv n h' bt rb j v)) (fun _ _ i _=>h' - (RowKit.intOf i).toNat)
 case atStart=>exact⟨0,n,fun _=>0,Nat.zero_le _,rfl,rfl,eU,rfl,HI0⟩
 case round =>
  obtain ⟨j,u,rb,hj,rfl,rfl,hu,HU,HI⟩:=hrel
  clear HI0
  obtain ⟨ts,hts⟩:∃ ts,ts=(zt key j).map V8:=⟨_,rfl⟩
  have Hv:Hid (Vec 32 (zt key j) ts):=⟨hts,uT key j⟩
  have Htl:Hid (ts.length=32):=Hv.out.len
  have Hld:Hid (wr.rangeAt bt 0 ts):=by
   have:=HI.out.tag.sees
   rw[← hts] at this
   exact this
  have OJ:=ae (DB ts Hv.out.len)
  have OL:=ae (Bl ts Hv.out.len)
  obtain ⟨wA,hwA⟩:∃ W,W=wr.alloc (.cells ts.toArray 27):=⟨_,rfl⟩
  have HBA:Hid (Below wr.heap.size wr wA):=by show Below _ _ _;rw[hwA];exact(Below.refl _ _).alloc (Nat.le_refl _) _
  have HRA:Hid (Row wA wr.heap.size 27 ts):=by show Row _ _ _ _;rw[hwA];exact Row.new wr 27 ts
  have HsA:Hid (wA.heap.size=wr.heap.size+1):=by show _=_;rw[hwA];simp
  by_cases hlt:j<h'
  ·obtain ⟨u',hu'⟩:∃ u',u'=(u+3) / 4:=⟨_,rfl⟩
   obtain ⟨N,hN⟩:∃ N,N=4*u':=⟨_,rfl⟩
   have HN:Hid (N=wid n h' j):=by show _=_;rw[wid,if_pos hlt,hN,hu',HU.out];rfl
   have HU':Hid (u'=up n (j+1)):=by show _=_;rw[hu',HU.out];rfl
   have hpos:1≤u':=by rw[HU'.out];exact s8 n Hn.out.1 (j+1)
   have Nv:=xU (zt key j) (uT key j) wr.heap.size N (by omega) (by omega) wA (by rw[← hts];exact HRA.out)
   have hu3:((u:Int)+4 - 1) / 4=(u':Int):=by omega
   have hu4:(4:Int)*(u':Int)=(N:Int):=by omega
   have Nn:u'≤100:=by omega
   have Rk:N≤400:=by omega
   have Hts:=ae hts
   clear hu' hN hts
   have Rc:Hid (∀ t∈[zt key j,zt key j,zt key j,zt key j],t.length=32):=fun t ht=>by
    simp only [List.mem_cons,List.not_mem_nil,or_false,or_self] at ht
    rw[ht];exact uT key j
   have OM:Hid (ts++(ts++(ts++ts))=[zt key j,zt key j,zt key j,zt key j].flatten.map V8):=by show _=_;rw[Hts.out];simp
   have H0:Hid ((0:Nat)<w.heap.size):=HT.out.1
   have OP:Hid (w.heap.size≤bt):=by show _≤_;rw[Hbt.out];exact Nat.le_refl _
   go_wp2_with (first
    | (refine wpList_load_mid rfl 27 (.tmp 6) rfl bt 0 rfl ts _ Hld.out Tryz.underlying27 rfl (by rw[Htl.out];kernel_rfl) ?_)
    | (refine jK rfl (pL (t:=141) (x:=.tmp 18) (v:=.agg ts.toArray) rfl rfl (OJ.out _)) ?_)
    | (
      go_at_call 141;rw[← hwA];clear hwA;refine Nv.mono ?_;rintro e w3 ⟨g,rfl,hlo,HRg,hb3⟩
      have HB3:Hid (Below wr.heap.size wr w3):=HBA.out.trans (hb3.mono HBA.out.size)
      have Hlo:Hid (wr.heap.size<g):=by show _<_;have:=HsA.out;omega
      have HB4:Hid (Below wr.heap.size wr (w3.alloc (.cells #[.slice (some ⟨g,0,none⟩) N N] 141))):=HB3.out.alloc HB3.out.size _
      have HZ4:=ae (HI.out.below HB4.out)
      have LU:Hid (Row (w3.alloc (.cells #[.slice (some ⟨g,0,none⟩) N N] 141)) g 27 (cells (List.replicate (wid n h' j) (zt key j)))):=by show Row _ _ _ _;rw[← HN.out];exact HRg.out.alloc _
      clear Nv hb3 hlo)
    | (
      at_builtin;refine nU rfl (.tmp 17) (.tmp 23) rfl w.heap.size u5 _ rfl HZ4.out.own w3.heap.size (.slice (some ⟨g,0,none⟩) N N) rfl (Row.new w3 141 [.slice (some ⟨g,0,none⟩) N N]) rfl (by simp;omega) HZ4.out.bel.size ?_;intro v' w5 hO hgr _
      have hown:∀ k,Value.ownBlock u5=some k→w.heap.size≤k:=fun k hk=>(HZ4.out.own.lt hk).1
      have hB5:Below w.heap.size w w5:=HZ4.out.bel.grown hgr HZ4.out.bel.size (fun k hk=>hown k hk)
      have HP:Hid (AtP w w5 key kv n h' bt (fun i=>if i=j then g else rb i) j v'):=HZ4.out.app g LU.out (by have:=HI.out.bel.size;have:=Hlo.out;omega) (by have:=HI.out.tag.lt;have:=Hlo.out;omega) (fun i hi=>by have:=(HI.out.row i hi).lt;have:=Hlo.out;omega) (by rw[← HN.out];exact hO) hgr mi hown H0.out (HA.out.below hB5)
      have QX:Hid (w5.rangeAt bt 0 ts):=by
       have:=HP.out.2.2.1.sees
       rw[← Hts.out] at this
       exact this
      clear hO hgr hown hB5)
    | (refine wpList_load_mid rfl 27 (.tmp 6) rfl bt 0 rfl ts _ QX.out Tryz.underlying27 rfl (by rw[Htl.out];kernel_rfl) ?_)
    | (refine jK rfl (vC (t:=198) (x0:=.tmp 26) (x1:=.tmp 27) (x2:=.tmp 28) (x3:=.tmp 29) (v:=.agg ts.toArray) rfl rfl rfl rfl rfl (OL.out _)) ?_)
    | (
      go_at_call 110;refine(pQ key [zt key j,zt key j,zt key j,zt key j] kv (ts++(ts++(ts++ts))) w5 Hk.out rfl Rc.out OM.out HP.out.2.2.2.2.2.2.1 HP.out.2.2.2.2.2.2.2.1).mono ?_;rintro e w6 ⟨⟨rs,Hrs,rfl⟩,hb6⟩
      have HB6:=ae hb6
      have HR6:Hid (Row w6 bt 27 ((zt key j).map V8)):=HP.out.2.2.1.below hb6 HP.out.2.2.1.lt
      clear hb6)
    | (refine wpList_store_row rfl 27 (.tmp 6) (.tmp 31) rfl bt rs.toArray rfl rfl 27 _ HR6.out (by rw[Hrs.out.size];kernel_rfl) (by rw[Hrs.out.size,List.size_toArray,List.length_map,uT]) Hrs.out.one ?_))
   have HN5:=ae (HP.out.tagged HB6.out OP.out H0.out HA.out rs Hrs.out.1)
   go_roundw
   case rel=>exact⟨j+1,u',_,by omega,rfl,by go_num,Nn,HU',HN5⟩
   case measure=>rw[show RowKit.intOf (.int .i64 ((j:Int)+1))=(j:Int)+1 from rfl,show RowKit.intOf (.int .i64 (j:Int))=(j:Int) from rfl];omega
  ·obtain rfl:j=h':=by omega
   obtain ⟨w4,hw4⟩:∃ W,W=wA.alloc (.cells #[.slice (some ⟨wr.heap.size,0,none⟩) 1 1] 141):=⟨_,rfl⟩
   have HB4:Hid (Below wr.heap.size wr w4):=by show Below _ _ _;rw[hw4];exact HBA.out.alloc HBA.out.size _
   have HX4:Hid (Row w4 (wr.heap.size+1) 141 [.slice (some ⟨wr.heap.size,0,none⟩) 1 1]):=by show Row _ _ _ _;rw[hw4];exact Row.newAt 141 [.slice (some ⟨wr.heap.size,0,none⟩) 1 1] HsA.out
   have HZ4:=ae (HI.out.below HB4.out)
   have Hwd:Hid (wid n j j=1):=by show _=_;rw[wid,if_neg (Nat.lt_irrefl _)]
   have LU:Hid (Row w4 wr.heap.size 27 (cells (List.replicate (wid n j j) (zt key j)))):=by
    show Row _ _ _ _
    rw[Hwd.out,show cells (List.replicate 1 (zt key j))=ts by rw[hts];simp [cells],hw4]
    exact HRA.out.alloc _
   have H0:Hid ((0:Nat)<w.heap.size):=HT.out.1
   clear hts hlt
   go_wp2_with (first
    | (refine wpList_load_mid rfl 27 (.tmp 6) rfl bt 0 rfl ts _ Hld.out Tryz.underlying27 rfl (by rw[Htl.out];kernel_rfl) ?_)
    | (refine jK rfl (pL (t:=141) (x:=.tmp 34) (v:=.agg ts.toArray) rfl rfl (OJ.out _)) ?_)
    | (
      at_builtin;rw[← hwA,← hw4];clear hwA hw4;refine nU rfl (.tmp 33) (.tmp 36) rfl w.heap.size u5 _ rfl HZ4.out.own (wr.heap.size+1) (.slice (some ⟨wr.heap.size,0,none⟩) 1 1) rfl HX4.out rfl (by simp;omega) HZ4.out.bel.size ?_;intro v' w5 hO hgr _
      have hown:∀ k,Value.ownBlock u5=some k→w.heap.size≤k:=fun k hk=>(HZ4.out.own.lt hk).1
      have hB5:Below w.heap.size w w5:=HZ4.out.bel.grown hgr HZ4.out.bel.size (fun k hk=>hown k hk)
      have HP:Hid (AtP w w5 key kv n j bt (fun i=>if i=j then wr.heap.size else rb i) j v'):=HZ4.out.app wr.heap.size LU.out HI.out.bel.size (fun e=>by have:=HI.out.tag.lt;omega) (fun i hi=>(HI.out.row i hi).lt) (by rw[Hwd.out];exact hO) hgr mi hown H0.out (HA.out.below hB5)
      clear hO hgr hown hB5))
   obtain ⟨RB,rc,e,hL⟩:=HP.out.laid
   have HL:=ae hL
   clear hL
   subst e
   go_wp2
   refine bodyPost_ret (results_tmp rfl _ _ _) rfl ?_
   exact⟨RB,rc,_,rfl,HL,HP.out.2.2.2.2.2.2.2.2⟩
set_option maxRecDepth 512
theorem Cl.form {w w':World} {v:Value} {key:Tg} (h:Cl w w' v key):∃ A n c,v=.slice A n c:=by
 rcases h with ⟨_,A,e⟩ | ⟨KB,_,_,h⟩
 ·exact⟨_,_,_,e⟩
 ·obtain ⟨A,c,e⟩:=(h w' (Nat.le_refl _) rfl).form
  exact⟨_,_,_,e⟩
theorem GV (v:Value) (n:Int) (w:World) (hn:n<1∨512<n):Calls Tryz.prog 89 #[v,.int .i64 n] w fun e w'=>e=.returned (.tuple #[.pointer none,.int .i64 1])∧Below w.heap.size w w':=by
 rcases hn with h1 | h1
 ·go_enter Tryz.func89,Tryz.ntmps89
  go_wp2
  refine bodyPost_ret (results_tmp2 rfl _ _ _) rfl ?_
  exact⟨rfl,Below.refl _ _⟩
 ·have h2:¬ n<1:=by omega
  go_enter Tryz.func89,Tryz.ntmps89
  go_wp2
  refine bodyPost_ret (results_tmp2 rfl _ _ _) rfl ?_
  exact⟨rfl,Below.refl _ _⟩
theorem Ek {w w1 w2 w4:World} {key:Tg} {v':Value} {n h RB rc:Nat} {rb:Nat→Nat} (hk:key.length≤1000) (h1:1≤n) (hn:n≤100) (hh:IsH n h) (hc:Cl w w1 v' key) (hs1:w.heap.size≤w1.heap.size) (hb2:Below w1.heap.size w1 w2) (hL:AM w1 w2 key n h RB rb)
  (hw4:w4=(w2.alloc (.map #[] 0)).alloc (.cells #[v',I64 n,.slice (some ⟨RB,0,none⟩) (h+1) rc,.map (some w2.heap.size),I64 0] 145)) :
  ∃ F:Nat→Prop,T9 w4 F (w2.heap.size+1) key (List.replicate n zero) (List.replicate n false) 0∧∀ k,F k→w.heap.size≤k:=by
 have hB4:Below w2.heap.size w2 w4:=by rw[hw4];exact((Below.refl _ _).alloc (Nat.le_refl _) _).alloc (by simp) _
 have hs4:w4.heap.size=w2.heap.size+2:=by rw[hw4];simp
 have hs2:=hb2.size
 have hD:Row w4 (w2.heap.size+1) 145 [v',I64 n,.slice (some ⟨RB,0,none⟩) (h+1) rc,.map (some w2.heap.size),I64 0]:=by
  rw[hw4];exact Row.newAt 145 [v',I64 n,.slice (some ⟨RB,0,none⟩) (h+1) rc,.map (some w2.heap.size),I64 0] (by simp)
 have hM:bO w4 w2.heap.size []:=by
  have hm:bO (w2.alloc (.map #[] 0)) w2.heap.size []:=Bh Tryz.prog 148 U0 w2
  rw[hw4]
  exact hm.same (Below.heap_alloc _ _ _ (by simp))
 obtain ⟨KB,Qx,RM,hKa,hKr⟩:∃ KB,w.heap.size≤KB∧KB<w2.heap.size∧(∀ w5:World,w4.heap.size≤w5.heap.size→w5.heap[KB]? = w4.heap[KB]?→Arg w5 v' key)∧∀ j,j≤h→rb j≠KB:=by
  rcases hc with ⟨rfl,A,rfl⟩ | ⟨KB,k1,k2,k3⟩
  ·exact⟨RB,Nat.le_trans hs1 hL.lo,hL.lt,fun _ _ _=>.inl ⟨A,rfl,rfl⟩,hL.ne⟩
  ·refine⟨KB,k1,Nat.lt_of_lt_of_le k2 hs2,fun w5 h5 hb5=>k3 w5 (by omega) (hb5.trans ((hB4.block KB (Nat.lt_of_lt_of_le k2 hs2)).trans (hb2.block KB k2))),fun j hj e=>?_⟩
   have:=hL.low j hj
   omega
 have Ia:∀ j,j≤h→rb j<w2.heap.size:=fun j hj=>(hL.row j hj).lt
 have hlen:(List.replicate n zero:List Tg).length=n:=List.length_replicate
 refine⟨fun k=>k=w2.heap.size+1∨k=w2.heap.size∨k=RB∨k=KB∨∃ j,j≤h∧k=rb j,⟨h,v',KB,RB,rc,w2.heap.size,rb,fun j=>List.replicate (wid n h j) (zt key j),[],?_⟩,?_⟩
 ·refine {
       hh:=by rw[hlen];exact hh,hS:=by rw[hlen];exact List.length_replicate,pos:=by rw[hlen];exact h1,few:=by rw[hlen];exact hn,h32:=fun t ht=>by rw[List.eq_of_mem_replicate ht];rfl,hk:=hk,tree:=by rw[hlen];exact hD,ry:=fun w5 h5 hb5=>hKa w5 h5 hb5,
       rows:=fun j hj=>?_,row:=fun j hj=>(hL.row j hj).below hB4 (Ia j hj),len:=fun j hj=>by rw[hlen];exact List.length_replicate,r32:=fun j hj t ht=>by rw[List.eq_of_mem_replicate ht];exact uT key j,val:=fun j i hj hi _=>?_,map:=hM,mem:=fun p=>⟨fun h=>(by cases h),fun h=>absurd h (ED _ _ _)⟩,
       inj:=fun i j hi hj e=>?_,rD:=fun j hj=>by have:=Ia j hj;omega,rR:=hL.ne,rM:=fun j hj=>by have:=Ia j hj;omega,rK:=hKr,DR:=by have:=hL.lt;omega,DM:=by omega,DK:=by omega,MR:=by have:=hL.lt;omega,MK:=by omega,
       FD:=.inl rfl,FR:=.inr (.inr (.inl rfl)),FM:=.inr (.inl rfl),FK:=.inr (.inr (.inr (.inl rfl))),Fr:=fun j hj=>.inr (.inr (.inr (.inr ⟨j,hj,rfl⟩))),lt:=fun k hk=>?_ }
  ·rw[hlen]
   exact(hB4.cell (p:=⟨RB,j,none⟩) hL.lt).trans (hL.slot j hj)
  ·rw[hlen] at hi
   rw[vp,List.getD_eq_getElem?_getD,List.getElem?_replicate,if_pos hi];rfl
  ·rcases Nat.lt_trichotomy i j with h2 | h2 | h2
   ·have:=hL.inc i j h2 hj;omega
   ·exact h2
   ·have:=hL.inc j i h2 hi;omega
  ·rcases hk with rfl | rfl | rfl | rfl | ⟨j,hj,rfl⟩
   ·omega
   ·omega
   ·have:=hL.lt;omega
   ·omega
   ·have:=Ia j hj;omega
 ·rintro k (rfl | rfl | rfl | rfl | ⟨j,hj,rfl⟩)
  ·omega
  ·omega
  ·have:=hL.lo;omega
  ·exact Qx
  ·have:=hL.low j hj;omega
set_option maxRecDepth 100000
theorem Kb (key:Tg) (v:Value) (n:Nat) (w:World) (hk:key.length≤1000) (h1:1≤n) (hn:n≤100) (hT:Hm.Tab w) (hA:Arg w v key):Calls Tryz.prog 89 #[v,I64 n] w fun e w' =>
  ∃ D F,e=.returned (.tuple #[.pointer (some ⟨D,0,none⟩),.int .i64 0])∧T9 w' F D key (List.replicate n zero) (List.replicate n false) 0∧(∀ k,F k→w.heap.size≤k)∧Below w.heap.size w w':=by
 obtain ⟨h,hh⟩:=Km n hn
 have hcl:=Cf key v w hk hA
 have HR:Hid (∀ W,Below w.heap.size w W→Calls Tryz.prog 121 #[v,I64 n] W fun e w'=>∃ RB rc rb,e=.returned (.slice (some ⟨RB,0,none⟩) (h+1) rc)∧Hid (AM W w' key n h RB rb)∧Below W.heap.size W w'):=fun W hW=>Bo key v n W hk h1 hn h hh (hT.below hW) (hA.below hW)
 have Hh:=ae hh
 have Hk:=ae hk
 have Hn:Hid (1≤n∧n≤100):=⟨h1,hn⟩
 have hmm:=@run_makeMap Tryz.prog
 clear hh hk hT hA
 go_enter Tryz.func89,Tryz.ntmps89
 go_wp2_with (first
  | (go_at_call 88;refine hcl.mono ?_;rintro e w1 ⟨v',rfl,HC,hb1⟩;have HB1:=ae hb1;obtain ⟨A',n',c',rfl⟩:=HC.out.form;clear hcl hb1)
  | (go_at_call 121;refine(HR.out w1 HB1.out).mono ?_;rintro e w2 ⟨RB,rc,rb,rfl,HL,hb2⟩;have HB2:=ae hb2;clear hb2))
 obtain ⟨w4,hw4⟩:∃ W,W=(w2.alloc (.map #[] 0)).alloc (.cells #[.slice A' n' c',I64 n,.slice (some ⟨RB,0,none⟩) (h+1) rc,.map (some w2.heap.size),I64 0] 145):=⟨_,rfl⟩
 have hB4:Below w2.heap.size w2 w4:=by rw[hw4];exact((Below.refl _ _).alloc (Nat.le_refl _) _).alloc (by simp) _
 obtain ⟨F,hT,hF⟩:=Ek Hk.out Hn.out.1 Hn.out.2 Hh.out HC.out HB1.out.size HB2.out HL.out hw4
 have hB:=(HB1.out.trans (HB2.out.mono HB1.out.size)).trans (hB4.mono (Nat.le_trans HB1.out.size HB2.out.size))
 refine bodyPost_ret (results_tmp2 rfl _ _ _) rfl ?_
 rw[hw4] at hT hB
 exact⟨w2.heap.size+1,F,rfl,hT,hF,hB⟩
set_option maxRecDepth 512
theorem aL:Ot T9 where
 lt:=fun⟨_,_,_,_,_,_,_,_,_,a⟩=>a.lt
 len:=fun⟨_,_,_,_,_,_,_,_,_,a⟩=>⟨a.hS,a.pos,a.few,a.h32⟩
 stay:=fun⟨h,kv,KB,RB,rc,MB,rb,rw,ks,a⟩ hc hn=>⟨h,kv,KB,RB,rc,MB,rb,rw,ks,a.stay hc hn⟩
 Kc:=fun _ v n w _ hn _ _=>GV v n w hn
 Jg:=fun key v n w hk h1 hn hT hA=>Kb key v n w hk h1 hn hT hA
 zL:=fun⟨_,_,_,_,_,_,_,_,_,a⟩ i t ts hi hv=>JW a i hi t ts hv
 JX:=fun⟨_,_,_,_,_,_,_,_,_,a⟩ d t ts hd hv=>GL a d hd t ts hv
 E4:=fun⟨_,_,_,_,_,_,_,_,_,a⟩ i hi=>KZ a i hi
 K7:=fun⟨_,_,_,_,_,_,_,_,_,a⟩ d hd=>Il a d hd
 places:=fun⟨_,_,_,_,_,_,_,_,_,a⟩=>(lQ a).mono fun e w' ⟨he,hw⟩=>⟨he,by rw[hw];exact Below.refl _ _⟩
 root:=fun⟨_,_,_,_,_,_,_,_,_,a⟩ hT hF hV h hh=>by
  have e:=a.hh.unique hh
  subst e
  exact DJ a hT hF hV
end Go.Proofs.YthbmknpbcgnabaaGreatDoor.Mr
