/- Of the walk. -/
import Derived.DeepKeys4
import Derived.Maps.Own
import Derived.RangeFuncNested
import Derived.Test.YthbmknpbcgnabaaGreatDoorB24
set_option maxHeartbeats 40000000
namespace Go.Proofs.YthbmknpbcgnabaaGreatDoor
open Go.RowKit Aes Ctr Sl Dsk
theorem pR (i:Nat) (h:i<2 ^ 32):nm (i:Int)=i:=by unfold nm;omega
set_option maxRecDepth 100000
theorem sJ {w:World} {G K:Nat→Prop} {P M kp n af i ep wb wc:Nat} {D:List Blk} {ek mk plain:List UInt8} {ws:List (List UInt8)} (hR:bL w G M D) (hK:cD w K kp ek mk) (hek:ek.length=16)
  (h0:w.cell? ⟨P,0,none⟩=some (.pointer (some ⟨M,0,none⟩))) (h1:w.cell? ⟨P,1,none⟩=some (.pointer (some ⟨kp,0,none⟩))) (h2:w.cell? ⟨P,2,none⟩=some (.int .i64 (n:Int))) (h10:w.cell? ⟨P,10,none⟩=some (.slice (some ⟨wb,0,none⟩) (2*n) wc))
  (hW:aj w wb 0 (ws.map VS)) (hwl:ws.length=2*n) (hP:P<w.heap.size) (hPG:¬ G P) (hbG:¬ G wb) (hPb:P≠wb) (hKG:∀ k,K k→¬ G k) (hKb:¬ K wb) (hb1:af≤1) (hi:i<n) (hn:n≤1000) (hep:ep<2 ^ 64) (hp:plain.length=64) :
  Calls Tryz.prog 44 #[.pointer (some ⟨P,0,none⟩),.int .i64 (af:Int),.int .i64 (i:Int),.int .u64 (ep:Int),VS plain] w fun e w' =>
   e=.returned (VS (Bk.put ek mk n af i ep plain D).2)∧bL w' G M (Bk.put ek mk n af i ep plain D).1∧aj w' wb 0 ((ws.set (af*n+i) (rw_ ek i ep plain)).map VS)∧Chg (fun k _=>G k∨k=wb) w w':=by
 obtain ⟨kk,hkk⟩:∃ kk,kk=af*n+i:=⟨_,rfl⟩
 have hkl:kk<2*n:=by
  rw[hkk]
  rcases(show af=0∨af=1 by omega) with e | e <;> rw[e] <;> simp <;> omega
 have hbn:af*n≤1000:=Nat.le_trans (Nat.mul_le_mul_right _ hb1) (by omega)
 have hmul:(af:Int)*(n:Int)=((af*n:Nat):Int):=by simp
 obtain ⟨raw,ik⟩:∃ r,r=rw_ ek i ep plain:=⟨_,rfl⟩
 have hrl:raw.length=72:=by rw[ik,kS,hp]
 have hput:Bk.put ek mk n af i ep plain D=(bU D ((kk:Nat):Int) raw,tg mk i raw):=by rw[ik,hkk];rfl
 rw[hput,← ik,← hkk]
 have HR:=ae hR
 have HK:=ae hK
 have HW:=ae hW
 have HWl:=ae hwl
 have HRl:=ae hrl
 have HC:Hid (∀ (x:Value) (W:World),lY W kp ek mk→Arg W x plain→Calls Tryz.prog 83 #[.pointer (some ⟨kp,0,none⟩),.int .i64 (i:Int),.int .u64 (ep:Int),x] W fun e w'=>∃ r,e=.returned r∧Hid (Own w' W.heap.size 5 r (raw.map V8))∧Below W.heap.size W w'):=fun x W hM hx=>by
  have:=wM kp ek mk hek (i:Int) ep hep plain (by omega) x W hM hx
  rw[pR i (by omega),← ik] at this
  exact this
 have HT:Hid (∀ (x:Value) (W:World),lY W kp ek mk→Arg W x raw→Calls Tryz.prog 54 #[.pointer (some ⟨kp,0,none⟩),.int .i64 (i:Int),x] W fun e w'=>e=.returned (.string (aw (tg mk i raw)))∧Below W.heap.size W w'):=fun x W hM hx=>by
  have:=nN kp ek mk (i:Int) raw (by omega) x W hM hx
  rw[pR i (by omega)] at this
  exact this
 obtain ⟨cap,w1,hcv,hH1,KS,hcap⟩:=eV plain w
 rw[hp] at hcv hcap
 have HA1:Hid (Arg w1 (.slice (some ⟨w.heap.size,0,none⟩) 64 cap) plain):=.inr ⟨w.heap.size,0,cap,by rw[hp],hH1.lt (by rw[List.length_map,hp];omega),by omega,hH1.1⟩
 have HKk:Hid (∀ W',Chg (fun k _=>G k∨k=wb) w W'→lY W' kp ek mk):=fun W' hc=>(HK.out.chg hc fun k o hk hs=>hs.elim (hKG k hk) fun e=>hKb (e ▸ hk)).at
 have HPk:Hid (∀ W',Chg (fun k _=>G k∨k=wb) w W'→W'.cell? ⟨P,0,none⟩=some (.pointer (some ⟨M,0,none⟩))∧W'.cell? ⟨P,1,none⟩=some (.pointer (some ⟨kp,0,none⟩))∧W'.cell? ⟨P,2,none⟩=some (.int .i64 (n:Int))∧W'.cell? ⟨P,10,none⟩=some (.slice (some ⟨wb,0,none⟩) (2*n) wc)):=fun W' hc=>by
  have e:∀ o,W'.cell? ⟨P,o,none⟩=w.cell? ⟨P,o,none⟩:=fun o=>World.cell?_of_block (hc.block P hP fun o' hs=>hs.elim hPG hPb)
  rw[e,e,e,e]
  exact⟨h0,h1,h2,h10⟩
 have HC1:Hid (Chg (fun k _=>G k∨k=wb) w w1):=Chg.below KS _
 have HGb:Hid (¬ G wb):=hbG
 have HGl:Hid (∀ k,G k→k<w.heap.size):=by
  obtain ⟨_,_,_,_,_,_,hX⟩:=HR.out
  exact hX.lt
 have QO:Hid (wb<w.heap.size):=HW.out.lt (by rw[List.length_map,HWl.out];omega)
 have Hm1:Hid (IntKind.i64.wrap ((af:Int)*(n:Int))=((af*n:Nat):Int)):=by show _=_;rw[hmul,IntWalk.i64_in _ (by omega)]
 have Hm2:Hid (IntKind.i64.wrap (((af*n:Nat):Int)+(i:Int))=(kk:Int)):=by show _=_;rw[IntWalk.i64_in _ (by omega),hkk];simp
 obtain ⟨bn,vY⟩:∃ b,b=af*n:=⟨_,rfl⟩
 obtain ⟨n2,hn2⟩:∃ b,b=2*n:=⟨_,rfl⟩
 rw[← hn2] at HWl HPk hkl
 rw[← vY] at Hm1 Hm2
 have I4:=ae KS
 obtain ⟨sp,hsp⟩:∃ s,s=aw plain:=⟨_,rfl⟩
 rw[VS,← hsp]
 rw[← hsp] at hcv
 clear hR hK hek hW hwl hKG hKb hPG hbG hPb hP hput hH1 KS hp hep ik hrl hb1 h0 h2 h10 hsp hkk hcap hmul hbn vY hn2
 go_enter Tryz.func44,Tryz.ntmps44
 go_wp2_with fail
 refine(HC.out _ w1 (HKk.out _ HC1.out) HA1.out).mono ?_
 rintro e w2 ⟨rv,rfl,HO2,hb2⟩
 have HC2:Hid (Chg (fun k _=>G k∨k=wb) w w2):=HC1.out.then (Chg.below hb2 _)
 have oL:=I4.out.trans (hb2.mono I4.out.size)
 have HR2:Hid (bL w2 G M D):=HR.out.below oL
 have HW2:Hid (aj w2 wb 0 (ws.map VS)):=HW.out.stay oL
 obtain ⟨gr,cr,hrv,hgr,_,hHr⟩:=mC HO2.out (by rw[List.length_map,HRl.out];omega)
 have hcr:72≤cr:=by
  obtain ⟨g',c',hv',_,_,hc',_⟩:=HO2.out.cM (by rw[List.length_map,HRl.out];omega)
  rw[hrv] at hv'
  injection hv' with _ _ e3
  rw[List.length_map,HRl.out] at hc'
  omega
 rw[List.length_map,HRl.out] at hrv
 subst hrv
 have HRw:Hid (∀ X,Chg (fun k _=>G k∨k=wb) w2 X→Arg X (.slice (some ⟨gr,0,none⟩) 72 cr) raw):=fun X hX=>by
  have hgw:w.heap.size≤gr:=Nat.le_trans I4.out.size hgr
  have hx:=hHr.chg hX fun j _ hs=>hs.elim (fun hg=>by have:=HGl.out gr hg;omega) (fun e=>by have:=QO.out;omega)
  exact .inr ⟨gr,0,cr,by rw[HRl.out],hx.lt (by rw[List.length_map,HRl.out];omega),by rw[HRl.out];exact hcr,hx.1⟩
 obtain ⟨sr,hsr⟩:∃ x,x=aw raw:=⟨_,rfl⟩
 have Hsr:=ae hsr
 have HSK:Hid (∀ X,Chg (fun k _=>G k∨k=wb) w2 X→X.cell? ⟨P,0,none⟩=some (.pointer (some ⟨M,0,none⟩))∧X.cell? ⟨P,2,none⟩=some (.int .i64 (n:Int))∧(convert 22 9 (.slice (some ⟨gr,0,none⟩) 72 cr)).run Tryz.prog X=.ok (.string sr) X):=fun X hX=>by
  obtain ⟨a,_,c,_⟩:=HPk.out X (HC2.out.then hX)
  rw[hsr]
  exact⟨a,c,bS (HRw.out X hX)⟩
 clear hb2 oL hHr hgr hcr HO2 HR HW HA1 I4 HC hsr hcv h1 HC1
 go_wp2_with fail
 have HCd:Hid (Chg (fun k _=>G k∨k=wb) w2 w2.drew):=(Chg.refl _ w2).drew
 have HRd:Hid (bL w2.drew G M D):=HR2.out.below (below_drewN (Below.refl _ _) 1)
 have HWd:Hid (aj w2.drew wb 0 (ws.map VS)):=HW2.out
 refine wp_region_held_drew (S:=(fun X=>X.cell? ⟨P,0,none⟩=some (.pointer (some ⟨M,0,none⟩))∧X.cell? ⟨P,2,none⟩=some (.int .i64 (n:Int))∧(convert 22 9 (.slice (some ⟨gr,0,none⟩) 72 cr)).run Tryz.prog X=.ok (.string sr) X)) (by kernel_rfl) (HSK.out _ HCd.out) (fun aa=>?_)
 generalize w2.drew=wd at *
 refine tkq 0 21 aa ?_
 try go_frame
 refine tkq 1 22 aa ?_
 try go_frame
 refine tkq 2 23 aa ?_
 try go_frame
 refine tkh 3 24 rfl aa ?_ (Or.inl ⟨by rfl,by intro w hSw;have hc:=hSw.1;go_simp;with_reducible rfl⟩)
 try go_frame
 refine tkq 4 25 aa ?_
 try go_frame
 refine tkq 5 26 aa ?_
 try go_frame
 refine tkq 6 27 aa ?_
 try go_frame
 refine tkq 7 28 aa ?_
 try go_frame
 refine tkh 8 29 rfl aa ?_ (Or.inl ⟨by rfl,by intro w hSw;have hc:=hSw.2.1;go_simp;with_reducible rfl⟩)
 try go_frame
 refine tkh 9 30 rfl aa ?_ (Or.inl ⟨by rfl,by intro w hSw;have hm:=Hm1.out;go_simp;with_reducible rfl⟩)
 try go_frame
 refine tkq 10 31 aa ?_
 try go_frame
 refine tkh 11 32 rfl aa ?_ (Or.inl ⟨by rfl,by intro w hSw;have hm:=Hm2.out;go_simp;with_reducible rfl⟩)
 try go_frame
 refine tkq 12 33 aa ?_
 try go_frame
 refine tkh 13 34 rfl aa ?_ (Or.inl ⟨by rfl,by intro w hSw;have hc:=hSw.2.2;go_simp;with_reducible rfl⟩)
 try go_frame
 refine rdq 14 35 fun K hK=>?_
 go_simp
 go_at_call 84
 have hwr:=wS HRd.out (kk:Int) raw
 rw[← Hsr.out] at hwr
 refine hwr.mono ?_
 rintro e w3 ⟨rfl,hR3,hC3⟩
 have HR3:=ae hR3
 have HW3:Hid (aj w3 wb 0 (ws.map VS)):=HWd.out.chg hC3 fun _ _ hg=>HGb.out hg
 have HC3:Hid (Chg (fun k _=>G k∨k=wb) w2 w3):=HCd.out.then (hC3.mono fun _ _ _ hg=>.inl hg)
 clear hR3 hC3 hwr
 refine hK.out _ _ (HSK.out _ HC3.out) (fun aa=>?_)
 clear hK K
 try go_frame
 refine wpAnyH_done (by kernel_rfl) ?_ _
 clear aa HRd HWd HCd HR2 HW2
 have HCe:Hid (Chg (fun k _=>G k∨k=wb) w2 w3.drew):=HC3.out.drew
 have hcv:(convert 22 9 (.slice (some ⟨gr,0,none⟩) 72 cr)).run Tryz.prog w3.drew=.ok (.string sr) w3.drew:=(HSK.out _ HCe.out).2.2
 obtain ⟨p0,p1,p2,p10⟩:=HPk.out _ (HC2.out.then HC3.out)
 have hm1:=Hm1.out
 have hm2:=Hm2.out
 have hcw:w3.cell? ⟨wb,kk,none⟩=some (VS (ws.getD kk [])):=HW3.out.head (by rw[List.getElem?_map,List.getElem?_eq_getElem (by rw[HWl.out];exact hkl),List.getD_eq_getElem?_getD,List.getElem?_eq_getElem (by rw[HWl.out];exact hkl)];rfl)
 have hfw:=HW3.out.bJ (j:=kk) (by rw[List.length_map,HWl.out];exact hkl)
 have hk2:(kk:Int)<(n2:Int):=by omega
 have H4:Hid (bL (w3.drew.setCell ⟨wb,kk,none⟩ (.string sr)) G M (bU D (kk:Int) raw)∧aj (w3.drew.setCell ⟨wb,kk,none⟩ (.string sr)) wb 0 ((ws.set kk raw).map VS)∧Chg (fun k _=>G k∨k=wb) w2 (w3.drew.setCell ⟨wb,kk,none⟩ (.string sr))):=by
  have hC:Chg (fun k _=>k=wb) w3 (w3.drew.setCell ⟨wb,kk,none⟩ (.string sr)):=((Chg.refl _ w3).drew).setCell (p:=⟨wb,kk,none⟩) rfl (fun _=>rfl) (by show (w3.cell? _).isSome=true;rw[hcw];rfl) _
  refine⟨HR3.out.stay hC fun k _ hg e=>HGb.out (e ▸ hg),?_,HC3.out.then (hC.mono fun _ _ _ e=>.inr e)⟩
  have h4:aj w3.drew wb 0 (ws.map VS):=HW3.out
  have:=h4.put kk (by rw[List.length_map,HWl.out];exact hkl) (VS raw)
  rw[Nat.zero_add,VS,← Hsr.out,show (ws.map VS).set kk (.string sr)=(ws.set kk raw).map VS by rw[List.map_set,VS,Hsr.out]] at this
  exact this
 rw[VS] at hcw
 clear HR3 HW3 HCe HC3
 go_wp2
 refine wp_region_still_tail 15 (by kernel_rfl) (by kernel_rfl) ?_
 simp only [List.take_succ_cons,List.take_zero,List.drop_succ_cons,List.drop_zero]
 repeat still_step
 refine wpStill_nil ?_
 change wpList _ _ _ _ _ w3.drew
 clear p0 p2 p10 hm1 hm2 hcv
 have HCx:=HC2.out.then H4.out.2.2
 have p1a:(w3.setCell ⟨wb,kk,none⟩ (.string sr)).cell? ⟨P,1,none⟩=some (.pointer (some ⟨kp,0,none⟩)):=(HPk.out _ HCx).2.1
 have p1b:(w3.setCell ⟨wb,kk,none⟩ (.string sr)).drew.cell? ⟨P,1,none⟩=some (.pointer (some ⟨kp,0,none⟩)):=(HPk.out _ HCx).2.1
 have HA4:=HRw.out _ H4.out.2.2
 have HT4:=ae (HT.out _ _ (HKk.out _ HCx) HA4)
 have HCX:=ae HCx
 clear HCx HA4
 go_wp2_with fail
 refine HT4.out.mono ?_
 rintro e w5 ⟨rfl,hb5⟩
 go_wp2
 go_ret
 exact⟨rfl,H4.out.1.below hb5,H4.out.2.1.stay hb5,HCX.out.then (Chg.below hb5 _)⟩
end Go.Proofs.YthbmknpbcgnabaaGreatDoor
namespace Go.Proofs.YthbmknpbcgnabaaGreatDoor
open Go.RowKit Aes Ctr Sl
theorem nB (l:List Value):∀ (off k:Nat) (cs:Array Value),off+k+l.length≤cs.size →
  (l.zipIdx k).foldl (fun (cs:Array Value) (p:Value × Nat)=>cs.setIfInBounds (off+p.2) p.1) cs=(cs.toList.take (off+k)++l++cs.toList.drop (off+k+l.length)).toArray:=by
 induction l with
 | nil=>intro off k cs h;simp
 | cons a r ih =>
  intro off k cs h
  rw[List.length_cons] at h
  rw[List.zipIdx_cons,List.foldl_cons,ih off (k+1) _ (by simp;omega)]
  congr 1
  have e:(cs.setIfInBounds (off+k) a).toList=cs.toList.set (off+k) a:=by simp
  rw[e,← Nat.add_assoc]
  have hlt:off+k<cs.toList.length:=by simp;omega
  rw[List.take_succ_eq_append_getElem (by rw[List.length_set];exact hlt),List.getElem_set_self,List.take_set_of_le (Nat.le_refl _),List.drop_set_of_lt (by omega)]
  rw[List.length_cons,show off+k+(r.length+1)=off+k+1+r.length by omega]
  simp
def Z48:List Value:=List.replicate 48 (.int .u8 0)
theorem mU (w:World):(zeroValue 29).run Tryz.prog w=.ok (.agg Z48.toArray) w:=by kernel_rfl
theorem Ci (parts:List (Nat × Value)):Tryz.prog.built 29 parts=Instr.fill (fun i=>(#[(0,16),(16,32)]:Array (Nat × Nat))[i]?) Z48.toArray parts:=by kernel_rfl
theorem E7 (place:Nat→Option (Nat × Nat)) (cells c1 c2 a b:Array Value) (p0:place 0=some (0,16)) (p1:place 1=some (16,32)) (ha:a.size=16) (hb:b.size=32) (hc:cells.size=48) (hc1:c1.size=48)
  (g1:a.zipIdx.foldl (fun (cs:Array Value) (x:Value × Nat)=>cs.setIfInBounds (0+x.2) x.1) cells=c1) (g2:b.zipIdx.foldl (fun (cs:Array Value) (x:Value × Nat)=>cs.setIfInBounds (16+x.2) x.1) c1=c2) :
  Instr.fill place cells [(0,.agg a),(1,.agg b)]=some c2:=by
 have e1:Instr.fill place cells [(0,.agg a),(1,.agg b)]=Instr.fill place c1 [(1,.agg b)]:=by
  rw[Instr.fill,p0]
  dsimp only [Value.cells]
  refine Eq.trans (if_neg (by simp [ha,hc])) ?_
  rw[g1]
 have e2:Instr.fill place c1 [(1,.agg b)]=some c2:=by
  rw[Instr.fill,p1]
  dsimp only [Value.cells]
  refine Eq.trans (if_neg (by simp [hb,hc1])) ?_
  rw[g2];rfl
 rw[e1,e2]
theorem qx (ea ma:List Value) (h1:ea.length=16) (h2:ma.length=32):Tryz.prog.built 29 [(0,.agg ea.toArray),(1,.agg ma.toArray)]=some (ea++ma).toArray:=by
 rw[Ci]
 have hz:Z48.length=48:=by decide
 have f1:=nB ea 0 0 Z48.toArray (by rw[List.size_toArray,hz,h1];omega)
 have f2:=nB ma 16 0 (ea++Z48.drop 16).toArray (by rw[List.size_toArray,List.length_append,List.length_drop,hz,h1,h2];omega)
 simp only [Nat.add_zero,List.take_zero,List.nil_append,Nat.zero_add,h1] at f1
 rw[Nat.add_zero,h2,show (ea++Z48.drop 16).toArray.toList=ea++Z48.drop 16 from rfl,List.take_append_of_le_length (by omega),List.take_of_length_le (by omega),show (ea++Z48.drop 16).drop (16+32)=[] from List.drop_eq_nil_of_le (by rw[List.length_append,List.length_drop,hz,h1];omega),List.append_nil] at f2
 have g1:ea.toArray.zipIdx.foldl (fun (cs:Array Value) (p:Value × Nat)=>cs.setIfInBounds (0+p.2) p.1) Z48.toArray=(ea++Z48.drop 16).toArray:=by
  rw[← Array.foldl_toList,show ea.toArray.zipIdx.toList=ea.zipIdx by simp]
  simpa using f1
 have g2:ma.toArray.zipIdx.foldl (fun (cs:Array Value) (p:Value × Nat)=>cs.setIfInBounds (16+p.2) p.1) (ea++Z48.drop 16).toArray=(ea++ma).toArray:=by
  rw[← Array.foldl_toList,show ma.toArray.zipIdx.toList=ma.zipIdx by simp]
  exact f2
 exact E7 _ _ _ _ _ _ rfl rfl (by simp [h1]) (by simp [h2]) (by simp [hz]) (by simp [h1,hz]) g1 g2
theorem oD {P:Program} {ops:Array Oper} {S:World→Prop} {op:Oper} {a:Act} (hw:Region.wanted op (yielded ops a.tmps)=true) (t:TypeId) (x0 x1:Operand) (ho:op.op=.build t #[(0,x0),(1,x1)]) (v0 v1:Value) (h0:a.eval x0=v0) (h1:a.eval x1=v1) (cells:Array Value)
  (hb:P.built t [(0,v0),(1,v1)]=some cells):YieldsIf P ops S op (.agg cells) a :=
 .inl ⟨hw,fun w _=>by
  have hp:((#[(0,x0),(1,x1)]:Array (Nat × Operand)).map fun (i,x)=>(i,a.eval x))=#[(0,v0),(1,v1)]:=by simp [h0,h1]
  unfold execOp
  simp only [ho,Sem.run_bind,Sem.run_pure,Result.andThen_ok,hp,run_build w t #[(0,v0),(1,v1)] cells hb]⟩
theorem Og (X:Nat) (W:World):(Instr.sliceAt 27 (.pointer (some ⟨X,0,none⟩)) none (some (.int .i64 16)) none).run Tryz.prog W=.ok (.slice (some ⟨X,0,none⟩) 16 32) W:=by
 have ha:Tryz.prog.underlying 27=some (.array (Tryz.prog.arrayLen 27) (Tryz.prog.elem 27)):=by kernel_rfl
 have hl:Tryz.prog.arrayLen 27=32:=by kernel_rfl
 have hs:(sizeOf (Tryz.prog.elem 27)).run Tryz.prog W=.ok 1 W:=by kernel_rfl
 have h16:(16:Int).toNat=16:=rfl
 rw[run_sliceAt_array_h W 27 ⟨X,0,none⟩ ha .i64 16 (by omega) (by rw[hl];omega),hs,hl,h16]
 rfl
theorem GA (X c:Nat) (W:World):(Instr.arrayAt 25 (.slice (some ⟨X,0,none⟩) 16 c)).run Tryz.prog W=.ok (.pointer (some ⟨X,0,none⟩)) W:=by
 simp [Instr.arrayAt,run_underlying Tryz.underlying25]
set_option maxRecDepth 100000
theorem kM (s:List UInt8) (hs:s.length≤1000000) (x:Value) (w:World) (hT:Hm.Tab w) (h:Arg w x s) :
  Calls Tryz.prog 7 #[x] w fun e w'=>∃ ks:List Value,Hid (cz (kE s) (mE s) ks)∧e=.returned (.agg ks.toArray)∧Below w.heap.size w w':=by
 obtain ⟨A,cap,rfl⟩:=h.form
 obtain ⟨n,hnl⟩:∃ n,n=s.length:=⟨_,rfl⟩
 rw[← hnl] at h ⊢
 have HSl:=ae hs
 have hzk:=mU
 have hz:=Hm.eM
 obtain ⟨w0,hw0⟩:∃ w0,w0=w.alloc (.cells Z48.toArray 29):=⟨_,rfl⟩
 have OZ:Hid (w0.heap.size=w.heap.size+1):=by show _=_;rw[hw0];simp
 have HB0:Hid (Below w.heap.size w w0):=by rw[hw0];exact(Below.refl _ _).alloc (Nat.le_refl _) _
 have HZ0:Hid (Row w0 w.heap.size 29 Z48):=by rw[hw0];exact Row.new w 29 Z48
 have hc1:=Joins.run_convert_bytes_const_at (P:=Tryz.prog) w0 22 5 #[.int .u8 101,.int .u8 110,.int .u8 99] 3 3 (w.heap.size+1) OZ.out.symm Tryz.underlying22 Tryz.underlying5
 rw[hw0] at hc1
 obtain ⟨w1,hw1⟩:∃ w1,w1=w0.alloc (.cells #[.int .u8 101,.int .u8 110,.int .u8 99] 5 (3,4)):=⟨_,rfl⟩
 have OY:Hid (w1.heap.size=w.heap.size+1+1):=by show _=_;rw[hw1,hw0];simp
 have HB1:Hid (Below w.heap.size w w1):=by rw[hw1];exact HB0.out.alloc HB0.out.size _
 have HZ1:Hid (Row w1 w.heap.size 29 Z48):=by rw[hw1];exact HZ0.out.alloc _
 have HE1:Hid (Arg w1 (.slice (some ⟨w.heap.size+1,0,none⟩) 3 3) wh):=by
  refine .inr ⟨w.heap.size+1,0,3,rfl,by rw[OY.out];omega,by decide,fun j u hu=>?_⟩
  rw[hw1,Nat.zero_add]
  refine(Joins.cell_alloc_mark_at w0 _ _ _ _ j OZ.out.symm).trans ?_
  rw[List.getElem?_toArray]
  exact hu
 obtain ⟨w2,hw2⟩:∃ w2,w2=w1.alloc (.cells #[.slice (some ⟨w.heap.size+1,0,none⟩) 3 3] 22):=⟨_,rfl⟩
 have HB2:Hid (Below w.heap.size w w2):=by rw[hw2];exact HB1.out.alloc HB1.out.size _
 have HZ2:Hid (Row w2 w.heap.size 29 Z48):=by rw[hw2];exact HZ1.out.alloc _
 have HP2:Hid (Hm.dz w2 (.slice (some ⟨w.heap.size+1+1,0,none⟩) 1 1) [wh]):=by
  have:=xW HE1.out
  rw[← hw2,OY.out] at this
  exact this
 have HT2:Hid (Hm.Tab w2):=hT.below HB2.out
 have HV2:Hid (Arg w2 (.slice A n cap) s):=h.below HB2.out
 clear hnl hs h hT HE1 HZ1 HZ0 HB1 HB0
 go_enter Tryz.func7,Tryz.ntmps7
 go_wp2_with fail
 rw[← hw0,← hw1,← hw2]
 refine(Hm.jG _ s HSl.out _ _ _ _ Dv w2 HT2.out HV2.out HP2.out).mono ?_
 rintro e w3 ⟨rs,Hrs,rfl,hb3⟩
 have Rp:=hb3.size
 have Hsz:Hid (rs.toArray.size=32):=Hrs.out.size
 have aN:Hid (rs.toArray.all (·.oneCell')=true):=Hrs.out.one
 have HB3:=ae (HB2.out.trans (hb3.mono HB2.out.size))
 have HZ3:=ae (HZ2.out.below hb3 HZ2.out.lt)
 have HT3:=ae (HT2.out.below hb3)
 have HV3:=ae (HV2.out.below hb3)
 clear hw0 hw1 hw2 hc1 hzk HT2 HV2 HP2 HB2 HZ2 hb3
 go_wp2_with (refine wpList_store_row rfl 27 (.tmp 3) (.tmp 8) rfl w3.heap.size rs.toArray rfl rfl 27 _ (Row.new w3 _ Hm.Z32) (by rw[Hsz.out];kernel_rfl) (by rw[Hsz.out];rfl) aN.out ?_)
 have Ph:Hid (Below w3.heap.size w3 ((w3.alloc (.cells Hm.Z32.toArray 27)).setRow w3.heap.size rs.toArray)):=ag ((Below.refl _ _).alloc (Nat.le_refl _) _) (Nat.le_refl _) _
 have HX4:Hid (Row ((w3.alloc (.cells Hm.Z32.toArray 27)).setRow w3.heap.size rs.toArray) w3.heap.size 27 rs):=(Row.new w3 27 Hm.Z32).whole rs
 have OU:Hid (w3.heap.size≠w.heap.size):=by show _≠_;have:=HZ3.out.lt;omega
 obtain ⟨X,hX⟩:∃ X,X=w3.heap.size:=⟨_,rfl⟩
 rw[← hX] at HX4 OU ⊢
 have xh:Below w3.heap.size w3 ((w3.alloc (.cells Hm.Z32.toArray 27)).setRow X rs.toArray):=by rw[hX];exact Ph.out
 clear Ph hX
 generalize (w3.alloc (.cells Hm.Z32.toArray 27)).setRow X rs.toArray=w4 at *
 have HB4:=ae (HB3.out.trans (xh.mono HB3.out.size))
 have HZ4:=ae (HZ3.out.below xh HZ3.out.lt)
 have HT4:=ae (HT3.out.below xh)
 have HV4:=ae (HV3.out.below xh)
 obtain ⟨C16,HCe⟩:∃ C,Hid (C=List.map V8 (kE s)):=⟨_,rfl⟩
 have I3:Hid (C16.length=16):=by show _=_;rw[HCe.out,List.length_map,iZ]
 have ai:Hid (∀ W,Below w4.heap.size w4 W→W.rangeAt X 0 C16):=fun W hW=>by
  have h1:=((HX4.out.below hW HX4.out.lt)).sees.piece 0 16
  rw[Nat.zero_add,List.drop_zero,Hrs.out.1,← List.map_take] at h1
  rw[HCe.out]
  exact h1
 have hi1:(Tryz.prog.info? 25).map (·.size)=some C16.length:=by rw[I3.out];kernel_rfl
 clear xh HB3 HZ3 HT3 HV3 hz
 have hC:Below w4.heap.size w4 w4.drew:=below_drewN (Below.refl _ _) 1
 refine wp_region_held_drew (S:=(fun W=>W.rangeAt X 0 (C16))) (by kernel_rfl) (ai.out _ hC) (fun aa=>?_)
 generalize w4.drew=w4d at *
 refine tkh 0 9 rfl aa ?_ (Or.inl ⟨by rfl,by intro w hSw;have hsl:=Og X w;go_simp;with_reducible rfl⟩)
 try go_frame
 refine tkh 1 10 rfl aa ?_ (Or.inl ⟨by rfl,by intro w hSw;have hsp:=GA X 32 w;go_simp;with_reducible rfl⟩)
 try go_frame
 refine tkh 2 11 (v:=.agg (C16).toArray) rfl aa ?_ (yieldsIf_load_mid (by rfl) 25 (.tmp 10) rfl (X) 0 rfl (C16) _ (fun W h=>h) Tryz.underlying25 rfl hi1)
 try go_frame
 refine tkq 3 12 aa ?_
 try go_frame
 refine rdq 4 13 fun K hK=>?_
 go_simp
 have hb:Below w4d.heap.size w4d (w4d.alloc (.cells #[.int .u8 109,.int .u8 97,.int .u8 99] 5)):=Joins.below_alloc1 _ _
 have fH:=hC.size
 obtain ⟨aV,eL⟩:∃ g,Hid (g=w4d.heap.size):=⟨_,rfl⟩
 have dP:Hid (Row (w4d.alloc (.cells #[.int .u8 109,.int .u8 97,.int .u8 99] 5)) w4d.heap.size 5 (nh.map V8)):=Row.new w4d 5 (nh.map V8)
 replace hC:=hC.trans (hb.mono hC.size)
 refine hK.out _ _ (ai.out _ hC) (fun aa=>?_)
 clear hK K hb
 generalize (w4d.alloc (.cells #[.int .u8 109,.int .u8 97,.int .u8 99] 5))=px at *
 rw[← eL.out] at fH ⊢
 rw[← eL.out] at dP
 clear eL
 try go_frame
 refine rdq 5 14 fun K hK=>?_
 have hcv:=run_mark aV 3 3 nh px dP.out
 go_simp
 clear hcv
 have hb0:=hC.trans (dW px _ aV (List.length nh) fH)
 have bP:Hid (Arg (px.freeze ⟨aV,List.length nh,none⟩ 1) (.slice (some ⟨aV,0,none⟩) 3 3) (nh)):=fG px aV _ dP.out 3 rfl
 clear dP
 replace hC:=hb0
 refine hK.out _ _ (ai.out _ hC) (fun aa=>?_)
 clear hK K hb0
 generalize (px.freeze ⟨aV,List.length nh,none⟩ 1)=fO at *
 try go_frame
 refine rdq 6 15 fun K hK=>?_
 go_simp
 have hb:Below fO.heap.size fO (fO.alloc (.cells #[.slice (some ⟨aV,0,none⟩) 3 3] 22)):=Joins.below_alloc1 _ _
 have iL:=hC.size
 obtain ⟨yu,cO⟩:∃ g,Hid (g=fO.heap.size):=⟨_,rfl⟩
 have cR:Hid (Hm.dz (fO.alloc (.cells #[.slice (some ⟨aV,0,none⟩) 3 3] 22)) (.slice (some ⟨fO.heap.size,0,none⟩) 1 1) [nh]):=xW bP.out
 replace hC:=hC.trans (hb.mono hC.size)
 replace bP:=ae (bP.out.below hb)
 refine hK.out _ _ (ai.out _ hC) (fun aa=>?_)
 clear hK K hb
 generalize (fO.alloc (.cells #[.slice (some ⟨aV,0,none⟩) 3 3] 22))=sZ at *
 rw[← cO.out] at iL ⊢
 rw[← cO.out] at cR
 clear cO
 try go_frame
 refine rdq 7 16 fun K hK=>?_
 go_simp
 go_at_call 31
 refine(Hm.jG _ s HSl.out _ _ _ _ Du sZ (HT4.out.below hC) (HV4.out.below hC) cR.out).mono ?_
 rintro e oF ⟨r2,Hr2,rfl,hb⟩
 replace hC:=hC.trans (hb.mono hC.size)
 replace bP:=ae (bP.out.below hb)
 replace cR:=ae (cR.out.below hb)
 refine hK.out _ _ (ai.out _ hC) (fun aa=>?_)
 clear hK K hb 
 have hbk:=fun W=>run_build (P:=Tryz.prog) W 29 #[(0,.agg (C16).toArray),(1,.agg r2.toArray)] _ (qx (C16) r2 I3.out Hr2.out.len)
 clear bP cR
 try go_frame
 refine tkh 8 17 (v:=.agg (C16++r2).toArray) rfl aa ?_ (oD (by rfl) 29 (.tmp 11) (.tmp 16) rfl _ _ rfl rfl _ (qx (C16) r2 I3.out Hr2.out.len))
 try go_frame
 refine rdn 9 fun K hK=>?_
 rw[if_pos (by rfl)]
 have HZ:=ae (HZ4.out.below hC HZ4.out.lt)
 have FV:Hid ((C16++r2).toArray.size=48):=by show _=_;rw[List.size_toArray,List.length_append,I3.out,Hr2.out.len]
 have LJ:Hid ((C16++r2).toArray.all (·.oneCell')=true):=by show _=_;rw[Hr2.out.1,HCe.out];have h8:=ku (kE s++mE s);rw[List.map_append] at h8;exact h8
 refine Go.wp_store_row 29 (.tmp 2) (.tmp 17) rfl w.heap.size (C16++r2).toArray rfl rfl 29 _ HZ.out (by rw[FV.out];kernel_rfl) (by rw[FV.out];rfl) LJ.out ?_
 have HF:=ae (HZ.out.whole (C16++r2))
 have HBF:=ae (ag (HB4.out.trans (hC.mono HB4.out.size)) (k:=w.heap.size) (Nat.le_refl _) (C16++r2).toArray)
 refine hK.out _ _ (fun j u hj=>(World.cell?_of_block (setRow_other _ _ _ _ OU.out)).trans (aa j u hj)) (fun aa=>?_)
 clear hK K
 generalize (oF.setRow w.heap.size (C16++r2).toArray)=xC at *
 try go_frame
 refine wpAnyH_done (by kernel_rfl) ?_ _
 clear hC ai aa
 have hinfo:(Tryz.prog.info? 29).map (·.size)=some (C16++r2).toArray.size:=by rw[FV.out];kernel_rfl
 go_wp2
 refine bodyPost_ret (v:=.agg (C16++r2).toArray) (results_cell_row rfl _ _ w.heap.size 29 (C16++r2).toArray (0,0) _ rfl HF.out Tryz.underlying29 rfl hinfo) rfl ?_
 exact⟨C16++r2,⟨by rw[Hr2.out.1,HCe.out,List.map_append];rfl,iZ s,kz s⟩,rfl,HBF.out⟩
open Go.RowKit Aes Ctr Sl Dsk
set_option maxRecDepth 512
def aI (w:World) (K:Nat→Prop) (v:Value) (l:List (List UInt8)):Prop :=
 (∃ A c,v=.slice A 0 c∧l=[])∨∃ b o cap vs,v=.slice (some ⟨b,o,none⟩) l.length cap∧b<w.heap.size∧K b∧ah w b o vs∧vs.length=l.length∧∀ (j:Nat) u q,vs[j]? = some u→l[j]? = some q→cW w K u q
section
variable {w w':World} {K K':Nat→Prop} {S:Nat→Nat→Prop} {v:Value} {l:List (List UInt8)}
theorem aI.chg (h:aI w K v l) (hc:Chg S w w') (hn:∀ k o,K k→¬ S k o):aI w' K v l:=by
 rcases h with h | ⟨b,o,cap,vs,e,hb,hk,hs,hl,ha⟩
 ·exact .inl h
 ·exact .inr ⟨b,o,cap,vs,e,Nat.lt_of_lt_of_le hb hc.size,hk,dK hs hc hb fun o=>hn b o hk,hl,fun j u q hu hq=>(ha j u q hu hq).chg hc hn⟩
theorem aI.below (h:aI w K v l) (hb:Below w.heap.size w w'):aI w' K v l:=h.chg (Chg.below hb fun _ _=>False) fun _ _ _ x=>x
theorem aI.imp (h:aI w K v l) (hk:∀ k,K k→k<w.heap.size→K' k):aI w K' v l:=by
 rcases h with h | ⟨b,o,cap,vs,e,hb,hkb,hs,hl,ha⟩
 ·exact .inl h
 ·exact .inr ⟨b,o,cap,vs,e,hb,hk b hkb hb,hs,hl,fun j u q hu hq=>(ha j u q hu hq).imp hk⟩
theorem aI.form (h:aI w K v l):∃ A cap,v=.slice A l.length cap:=by
 rcases h with ⟨A,c,e,rfl⟩ | ⟨b,o,cap,vs,e,_⟩
 ·exact⟨A,c,e⟩
 ·exact⟨_,cap,e⟩
end
theorem aR.zS {Lo B:Nat} {W:World} {v:Value} {ps:List (List UInt8)} (h:aR Lo B W v ps) (hLo:Lo≤B):aI W (fun k=>Lo≤k) v ps:=by
 cases ps with
 | nil =>
  obtain ⟨vs,ho,hl,_⟩:=h
  obtain rfl:=List.eq_nil_of_length_eq_zero hl
  rcases ho.2 with ⟨rfl,_⟩ | ⟨g,cap,cur,rfl,_⟩
  ·exact .inl ⟨none,0,rfl,rfl⟩
  ·exact .inl ⟨_,cap,rfl,rfl⟩
 | cons p r =>
  obtain ⟨g,cap,vs,e,hg,hs,hl,ha⟩:=h.De (by simp) hLo
  exact .inr ⟨g,0,cap,vs,e,hg.1,hg.2,hs,hl,ha⟩
def dL (ep af:Nat) (root:List UInt8):List Value:=.int .u64 (ep:Int)::.int .i64 (af:Int)::root.map V8
abbrev L0:=World→(Nat→Prop)→Nat→Nat→List UInt8→List UInt8→Bk.Bn→Prop
def ji (B:L0) (w:World) (F G:Nat→Prop) (w':World) (P d:Nat) (ek mk:List UInt8) (s:Bk.Bn) (D:List Blk):Prop :=
 ∃ F' G',B w' F' P d ek mk s∧aG w' G' d D∧(∀ k,F' k→¬ G' k)∧(∀ k,F' k→F k∨w.heap.size≤k)∧(∀ k,G' k→G k∨w.heap.size≤k)∧Chg (fun k _=>F k∨G k) w w'
def sL (F:Nat→Prop):Prop:=∀ k,F k→k≠0
structure Pk (B:L0):Prop where
 lt:∀ {w F P d ek mk s},B w F P d ek mk s→∀ k,F k→k<w.heap.size
 stay:∀ {w F P d ek mk s w' X},B w F P d ek mk s→Chg X w w'→(∀ k o,F k→¬ X k o)→B w' F P d ek mk s
 nA:∀ {w G d D} (ek mk:List UInt8) (ks:List Value) (n:Int),aG w G d D→cz ek mk ks→-9223372036854775808≤n∧n≤9223372036854775807→(n<8∨128<n∨(D.length:Int)≠2*n) →
  Calls Tryz.prog 9 #[.pointer (some ⟨d,0,none⟩),.agg ks.toArray,.int .i64 n] w fun e w'=>e=.returned (.tuple #[.pointer none,.int .i64 1])∧Below w.heap.size w w'
 E6:∀ {w G d D} (ek mk:List UInt8) (ks:List Value) (n:Nat),aG w G d D→cz ek mk ks→8≤n∧n≤100→D.length=2*n→Hm.Tab w→sL G →
  Calls Tryz.prog 9 #[.pointer (some ⟨d,0,none⟩),.agg ks.toArray,.int .i64 (n:Int)] w fun e w'=>∃ P,e=.returned (.tuple #[.pointer (some ⟨P,0,none⟩),.int .i64 0])∧ji B w (fun _=>False) G w' P d ek mk (Bk.format ek mk n D).1 (Bk.format ek mk n D).2
 En:∀ {w G d D} (ek mk:List UInt8) (ks:List Value) (n:Int) (ep af:Nat) (root:List UInt8) (rs:List Value),aG w G d D→cz ek mk ks→-9223372036854775808≤n∧n≤9223372036854775807→root.length=32→Hid (rs=dL ep af root)→af≤1→ep≤1000000 →
  (n<8∨128<n∨(D.length:Int)≠2*n∨ep=0) →
  Calls Tryz.prog 10 #[.pointer (some ⟨d,0,none⟩),.agg ks.toArray,.int .i64 n,.agg rs.toArray] w fun e w'=>e=.returned (.tuple #[.pointer none,.int .i64 1])∧Below w.heap.size w w'
 GX:∀ {w G d D} (ek mk:List UInt8) (ks:List Value) (n ep af:Nat) (root:List UInt8) (rs:List Value),aG w G d D→cz ek mk ks→8≤n∧n≤100→D.length=2*n→Hm.Tab w→sL G→af≤1→1≤ep∧ep≤1000000→root.length=32→Hid (rs=dL ep af root) →
  Calls Tryz.prog 10 #[.pointer (some ⟨d,0,none⟩),.agg ks.toArray,.int .i64 (n:Int),.agg rs.toArray] w fun e w' =>
   match Bk.cH mk n ep af root D with
   | some s=>∃ P F,e=.returned (.tuple #[.pointer (some ⟨P,0,none⟩),.int .i64 0])∧B w' F P d ek mk s∧(∀ k,F k→w.heap.size≤k)∧Below w.heap.size w w'
   | none=>e=.returned (.tuple #[.pointer none,.int .i64 10])∧Below w.heap.size w w'
 reg:∀ {w F P d ek mk s},B w F P d ek mk s→∀ rs,Hid (rs=dL s.ep s.af s.root)→Calls Tryz.prog 24 #[.pointer (some ⟨P,0,none⟩)] w fun e w'=>e=.returned (.agg rs.toArray)∧Below w.heap.size w w'
 busy:∀ {w F P d ek mk s},B w F P d ek mk s→Calls Tryz.prog 29 #[.pointer (some ⟨P,0,none⟩)] w fun e w'=>e=.returned (.bool (decide (s.L≠[])))∧Below w.heap.size w w'
 zO:∀ {w F P d ek mk s},B w F P d ek mk s→∀ (i:Int),-9223372036854775808≤i∧i≤9223372036854775807→(i<0∨(s.n:Int)≤i)→Calls Tryz.prog 21 #[.pointer (some ⟨P,0,none⟩),.int .i64 i] w fun e w'=>∃ v,e=.returned (.tuple #[v,.int .i64 1])∧Own w' w.heap.size 5 v []∧Below w.heap.size w w'
 J1:∀ {w F P d ek mk s G D},B w F P d ek mk s→aG w G d D→D.length=2*s.n→s.af≤1→Hm.Tab w→∀ (i:Nat),i<s.n→Calls Tryz.prog 21 #[.pointer (some ⟨P,0,none⟩),.int .i64 (i:Int)] w fun e w' =>
  ∃ v,e=.returned (.tuple #[v,.int .i64 (if (Bk.read ek mk s D i).isSome then 0 else 10)])∧Hid (Own w' w.heap.size 5 v (((Bk.read ek mk s D i).getD []).map V8))∧Below w.heap.size w w'
 bA:∀ {w F P d ek mk s},B w F P d ek mk s→∀ (K:Nat→Prop) (v:Value) (l:List (List UInt8)),aI w K v l→(∀ k,K k→¬ F k)→s.ep≤1000000→Hm.Tab w→l.length≤1000→(∀ x∈l,x.length≤1000) →
  Calls Tryz.prog 16 #[.pointer (some ⟨P,0,none⟩),v] w fun e w'=>e=.returned (.int .i64 ((Bk.bA s l).2:Int))∧∃ F',B w' F' P d ek mk (Bk.bA s l).1∧(∀ k,F' k→F k∨w.heap.size≤k)∧Chg (fun k _=>F k) w w'
 step:∀ {w F P d ek mk s G D},B w F P d ek mk s→aG w G d D→(∀ k,F k→¬ G k)→D.length=2*s.n→s.af≤1→s.ep≤1000000→Hm.Tab w→sL F→sL G →
  Calls Tryz.prog 19 #[.pointer (some ⟨P,0,none⟩)] w fun e w'=>e=.returned (.tuple #[.bool (Bk.step ek mk s D).2.1,.int .i64 ((Bk.step ek mk s D).2.2:Int)])∧ji B w F G w' P d ek mk (Bk.step ek mk s D).1.1 (Bk.step ek mk s D).1.2
end Go.Proofs.YthbmknpbcgnabaaGreatDoor
namespace Go.Proofs.YthbmknpbcgnabaaGreatDoor.Mr
open Go.RowKit
open Go.Maps (Keyed)
def wJ (es:Array MapEntry) (clock:Nat):Prop:=(∀ x∈es.toList,x.born<clock)∧(es.toList.map (·.born)).Nodup
def eX (P:Program) (k:TypeId) (w:World) (b:Nat) (f:List (Value × Value)):Prop :=
 ∃ es clock,w.heap[b]? = some (.map es clock)∧es.toList.map (fun e=>(e.key,e.val))=f∧(f.map (·.1)).Nodup∧(∀ p∈f,∃ l,keyOf P k p.1=some l)∧wJ es clock
section
variable {P:Program} {k e t:TypeId} {w w':World} {b:Nat} {f:List (Value × Value)} {key v z:Value} {kl:Lit}
theorem tU {es:Array MapEntry} {c:Nat} (h:wJ es c) (j:Nat) (key v:Value):wJ (es.modify j fun e=>{ e with key,val:=v }) c:=by
 have e:((es.modify j fun e=>{ e with key,val:=v }).toList.map (·.born))=es.toList.map (·.born):=by
  apply List.ext_getElem?
  intro i
  rw[List.getElem?_map,List.getElem?_map,Array.getElem?_toList,Array.getElem?_modify,Array.getElem?_toList]
  split
  ·cases es[i]? <;> rfl
  ·rfl
 refine⟨fun x hx=>?_,by rw[e];exact h.2⟩
 have hm:x.born∈es.toList.map (·.born):=by rw[← e];exact List.mem_map.2 ⟨x,hx,rfl⟩
 obtain ⟨y,hy,hyb⟩:=List.mem_map.1 hm
 rw[← hyb];exact h.1 y hy
theorem eX.lt (h:eX P k w b f):b<w.heap.size:=by
 obtain ⟨es,c,hb,_⟩:=h
 exact(Array.getElem?_eq_some_iff.1 hb).1
theorem eX.same (h:eX P k w b f) (hs:w'.heap[b]? = w.heap[b]?):eX P k w' b f:=by
 obtain ⟨es,c,hb,r⟩:=h
 exact⟨es,c,hs.trans hb,r⟩
theorem BM (P:Program) (k:TypeId) (w:World):eX P k (w.alloc (.map #[] 0)) w.heap.size []:=⟨#[],0,World.alloc_heap_new w _,rfl,List.nodup_nil,fun p hp=>(by cases hp),fun x hx=>(by cases hx),List.nodup_nil⟩
theorem uz {es es':Array MapEntry} {c c':Nat} (hb:w.heap[b]? = some (.map es c)):Chg (fun q _=>q=b) w (w.putObj b (.map es' c')):=by
 have hlt:=(Array.getElem?_eq_some_iff.1 hb).1
 refine⟨rfl,rfl,rfl,by rw[World.putObj_size];exact Nat.le_refl _,fun q hq hn=>World.putObj_heap_other (fun e=>hn 0 e),fun q o hq hn=>World.cell?_of_block (World.putObj_heap_other (fun e=>hn e)),fun q o hs=>?_,fun q o hq=>?_⟩
 ·by_cases e:q=b
  ·subst e
   simp [World.cell?,hb] at hs
  ·rw[World.cell?_of_block (w:=w) (World.putObj_heap_other e)];exact hs
 ·by_cases e:q=b
  ·subst e
   have h1:(w.putObj q (.map es' c')).heap[q]? = some (.map es' c'):=World.putObj_heap_same hlt
   simp [World.frozen?,hb,h1]
  ·have:=World.putObj_heap_other (w:=w) (o:=.map es' c') e
   simp only [World.frozen?,this]
theorem eX.find (K:Keyed P k) (h:eX P k w b f) (hkey:keyOf P k key=some kl):∃ es c,w.heap[b]? = some (.map es c)∧es.toList.map (fun e=>(e.key,e.val))=f∧wJ es c ∧
  (((Instr.findKey k key es.toList).run P w=.ok none w∧∀ p∈f,p.1≠key)∨∃ j u,(Instr.findKey k key es.toList).run P w=.ok (some (j,u)) w∧f[j]? = some (key,u)∧(es[j]?).map (·.key)=some key):=by
 obtain ⟨es,c,hb,hf,_,hk,hst⟩:=h
 refine⟨es,c,hb,hf,hst,?_⟩
 rcases K.find w hkey es.toList (fun x hx=>hk (x.key,x.val) (by rw[← hf];exact List.mem_map.2 ⟨x,hx,rfl⟩)) with ⟨h1,h2⟩ | ⟨j,x,h1,h2,h3⟩
 ·refine .inl ⟨h1,fun p hp=>?_⟩
  rw[← hf] at hp
  obtain ⟨x,hx,rfl⟩:=List.mem_map.1 hp
  exact h2 x hx
 ·refine .inr ⟨j,x.val,h1,?_,?_⟩
  ·rw[← hf,List.getElem?_map,h2,← h3];rfl
  ·rw[← Array.getElem?_toList,h2,← h3];rfl
theorem eX.update (K:Keyed P k) (h:eX P k w b f) (ht:P.underlying t=some (.map k e)) (hkey:keyOf P k key=some kl) (v:Value) :
  ∃ w',(Instr.mapUpdate t (.map (some b)) key v).run P w=.ok () w'∧Chg (fun q _=>q=b) w w'∧w'.heap.size=w.heap.size ∧
   (((∀ p∈f,p.1≠key)∧eX P k w' b (f++[(key,v)]))∨∃ j u,f[j]? = some (key,u)∧eX P k w' b (f.set j (key,v))):=by
 obtain ⟨es,c,hb,hf,hst,hr⟩:=h.find K hkey
 obtain ⟨_,_,_,_,hn,hk,_⟩:=h
 have hlt:=(Array.getElem?_eq_some_iff.1 hb).1
 rcases hr with ⟨h1,h2⟩ | ⟨j,u,h1,h2,h3⟩
 ·refine⟨w.putObj b (.map (es.push { key,val:=v,born:=c }) (c+1)),?_,uz hb,World.putObj_size ..,.inl ⟨h2,_,_,World.putObj_heap_same hlt,by simp [← hf],?_,fun p hp=>?_,fun x hx=>?_,?_⟩⟩
  ·unfold Instr.mapUpdate
   simp only [Sem.run_bind,run_underlying ht,Result.andThen_ok,MapKept.run_getObj_map hb,K.check w false hkey,h1,MapKept.run_setObj_map _ hb]
   rfl
  ·rw[List.map_append,List.nodup_append]
   refine⟨hn,by simp,fun x hx y hy e=>?_⟩
   simp at hy
   obtain ⟨p,hp,rfl⟩:=List.mem_map.1 hx
   exact h2 p hp (e.trans hy)
  ·rcases List.mem_append.1 hp with h | h
   ·exact hk p h
   ·simp at h
    rw[h];exact⟨kl,hkey⟩
  ·rw[Array.toList_push] at hx
   rcases List.mem_append.1 hx with h | h
   ·exact Nat.lt_succ_of_lt (hst.1 x h)
   ·rw[List.mem_singleton.1 h];exact Nat.lt_succ_self _
  ·rw[Array.toList_push,List.map_append,List.nodup_append]
   refine⟨hst.2,by simp,fun x hx y hy e=>?_⟩
   obtain ⟨z,hz,rfl⟩:=List.mem_map.1 hx
   simp at hy
   have:=hst.1 z hz
   omega
 ·refine⟨w.putObj b (.map (es.modify j fun e=>{ e with key,val:=v }) c),?_,uz hb,World.putObj_size ..,.inr ⟨j,u,h2,_,_,World.putObj_heap_same hlt,?_,?_,fun p hp=>?_,(tU hst j _ _)⟩⟩
  ·unfold Instr.mapUpdate
   simp only [Sem.run_bind,run_underlying ht,Result.andThen_ok,MapKept.run_getObj_map hb,K.check w false hkey,h1,h3,Option.getD_some,K.stays w hkey,MapKept.run_setObj_map _ hb]
   rfl
  ·apply List.ext_getElem?
   intro i
   rw[List.getElem?_map,Array.getElem?_toList,Array.getElem?_modify,List.getElem?_set,← hf,List.getElem?_map,Array.getElem?_toList,List.length_map,Array.length_toList]
   by_cases e:j=i
   ·subst e
    have hj:j<es.size:=by have:=(List.getElem?_eq_some_iff.1 h2).1;rw[← hf] at this;simpa using this
    simp [hj]
   ·simp [e]
  ·have hkeys:(f.set j (key,v)).map (·.1)=f.map (·.1):=by
    rw[List.map_set]
    apply List.ext_getElem?
    intro i
    rw[List.getElem?_set]
    split
    ·rename_i e
     subst e
     rw[List.getElem?_map,h2]
     have hj:=(List.getElem?_eq_some_iff.1 h2).1
     simp [hj]
    ·rfl
   rw[hkeys];exact hn
  ·rcases List.mem_or_eq_of_mem_set hp with h | h
   ·exact hk p h
   ·rw[h];exact⟨kl,hkey⟩
theorem eX.clear (h:eX P k w b f) (ht:P.underlying t=some (.map k e)) (ts:Array TypeId) (hts:ts[0]? = some t) (ty:TypeId) :
  ∃ w',(Builtin.clear_ ts ty #[.map (some b)]).run P w=.ok (.tuple #[]) w'∧Chg (fun q _=>q=b) w w'∧w'.heap.size=w.heap.size∧eX P k w' b []:=by
 obtain ⟨es,c,hb,hf,hn,hk,_⟩:=h
 have hlt:=(Array.getElem?_eq_some_iff.1 hb).1
 refine⟨w.putObj b (.map #[] c),?_,uz hb,World.putObj_size ..,_,_,World.putObj_heap_same hlt,rfl,List.nodup_nil,fun p hp=>(by cases hp),fun x hx=>(by cases hx),List.nodup_nil⟩
 unfold Builtin.clear_
 simp only [hts,List.getElem?_toArray,List.getElem?_cons_zero,Sem.run_bind,run_underlying ht,Result.andThen_ok,MapKept.run_getObj_map hb,MapKept.run_setObj_map _ hb,Sem.run_pure]
 rfl
end
section
variable {P:Program} {k e t:TypeId} {w w':World} {b:Nat} {f:List (Value × Value)} {key v z:Value} {kl:Lit}
end
def iR (P:Program) (k:TypeId) (u:Value) (w:World) (b:Nat) (ks:List Value):Prop:=eX P k w b (ks.map fun x=>(x,u))
section
variable {P:Program} {k e t:TypeId} {w w':World} {b:Nat} {ks:List Value} {key u:Value} {kl:Lit}
theorem iR.nodup (h:iR P k u w b ks):ks.Nodup:=by
 obtain ⟨_,_,_,_,hn,_⟩:=h
 rw[List.map_map] at hn
 have e:((fun x:Value × Value=>x.1) ∘ fun x:Value=>(x,u))=id:=rfl
 rwa [e,List.map_id] at hn
theorem Bh (P:Program) (k:TypeId) (u:Value) (w:World):iR P k u (w.alloc (.map #[] 0)) w.heap.size []:=BM P k w
theorem iR.add (K:Keyed P k) (h:iR P k u w b ks) (ht:P.underlying t=some (.map k e)) (hkey:keyOf P k key=some kl) :
  ∃ w',(Instr.mapUpdate t (.map (some b)) key u).run P w=.ok () w'∧Chg (fun q _=>q=b) w w'∧w'.heap.size=w.heap.size∧((key ∉ ks∧iR P k u w' b (ks++[key]))∨(key∈ks∧iR P k u w' b ks)):=by
 obtain ⟨w',hr,hc,hs,h1 | ⟨j,v,h1,h2⟩⟩:=eX.update K h ht hkey u
 ·refine⟨w',hr,hc,hs,.inl ⟨fun hm=>h1.1 _ (List.mem_map.2 ⟨key,hm,rfl⟩) rfl,?_⟩⟩
  have:=h1.2
  unfold iR
  rwa [List.map_append]
 ·have hkj:ks[j]? = some key:=by
   rw[List.getElem?_map] at h1
   obtain ⟨y,hy,hy2⟩:=Option.map_eq_some_iff.1 h1
   injection hy2 with hy2 _
   rw[hy,hy2]
  refine⟨w',hr,hc,hs,.inr ⟨List.mem_of_getElem? hkj,?_⟩⟩
  have e:(ks.map fun x=>(x,u)).set j (key,u)=ks.map fun x=>(x,u):=by
   rw[← List.map_set (f:=fun x=>(x,u))]
   congr 1
   apply List.ext_getElem?
   intro i
   rw[List.getElem?_set]
   split
   ·rename_i e
    subst e
    have hj:=(List.getElem?_eq_some_iff.1 hkj).1
    rw[hkj,if_pos hj]
   ·rfl
  rw[e] at h2
  exact h2
theorem iR.clear (h:iR P k u w b ks) (ht:P.underlying t=some (.map k e)) (ts:Array TypeId) (hts:ts[0]? = some t) (ty:TypeId) :
  ∃ w',(Builtin.clear_ ts ty #[.map (some b)]).run P w=.ok (.tuple #[]) w'∧Chg (fun q _=>q=b) w w'∧w'.heap.size=w.heap.size∧iR P k u w' b []:=eX.clear h ht ts hts ty
end
end Go.Proofs.YthbmknpbcgnabaaGreatDoor.Mr
