/- Of the walk. -/
import Derived.Test.YthbmknpbcgnabaaGreatDoorB33
set_option maxHeartbeats 40000000
namespace Go.Proofs.YthbmknpbcgnabaaGreatDoor
open Go.RowKit Aes Ctr Sl Dsk
theorem zG {a b:List UInt8} (h:a≠b):((aw a).toList == (aw b).toList)=false:=by
 rw[ByteArray.toList_eq,ByteArray.toList_eq]
 exact beq_eq_false_iff_ne.2 h
section
variable {w:World} {F G K:Nat→Prop} {P M kp wb:Nat} {ek mk:List UInt8} {s:Bk.Bn} {D:List Blk} {ws:List (List UInt8)}
theorem RB.r5 (h:RB w F G K P M kp wb ek mk s D ws) {i:Nat} (hi:i<s.tags.length) :
  ∃ tb to_ tc al wc,w.cell? ⟨P,6,none⟩=some (.slice (some ⟨tb,to_,none⟩) s.tags.length tc)∧tb<w.heap.size∧w.cell? ⟨tb,to_+i,none⟩=some (VS (s.tags.getD i []))∧w.cell? ⟨P,11,none⟩=some (.bool al)∧w.cell? ⟨P,10,none⟩=some (.slice (some ⟨wb,0,none⟩) (2*s.n) wc)
   ∧ ∀ b,RB (w.setCell ⟨P,11,none⟩ (.bool b)) F G K P M kp wb ek mk s D ws:=by
 obtain ⟨tv,lv,a,nv,wc,al,hh,ht,hlv,hn⟩:=h.head
 obtain ⟨b,o,cap,e,hb,hk,hc⟩:=ht.at_ hi
 refine⟨b,o,cap,al,wc,by rw[← e];exact hh.head (j:=6) rfl,hb,hc,hh.head (j:=11) rfl,hh.head (j:=10) rfl,fun x=>?_⟩
 refine h.store 11 (by omega) (.bool x) rfl ⟨h.nums.2.1,h.nums.2.2⟩ (tv:=tv) (lv:=lv) (nv:=nv) (a:=a) (wc:=wc) (al:=x) ?_ ht hlv hn
 have:=hh.put 11 (by exact(by omega:11<12)) (.bool x)
 rw[Nat.zero_add] at this
 exact this
theorem RB.c1 (h:RB w F G K P M kp wb ek mk s D ws):w.cell? ⟨P,1,none⟩=some (PT kp):=by
 obtain ⟨tv,lv,a,nv,wc,al,hh,_⟩:=h.head
 exact hh.head (j:=1) rfl
set_option maxRecDepth 100000
theorem y4 (h:RB w F G K P M kp wb ek mk s D ws) (hl:D.length=2*s.n) (ht:s.tags.length=s.n) (i:Nat) (hi:i<s.n) :
  Calls Tryz.prog 22 #[PT P,IV i] w fun e w'=>e=.returned (.tuple #[VS ((Bk.read ek mk s D i).getD []),.bool (Bk.read ek mk s D i).isSome])∧gX w F G K w' P M kp wb ek mk s D ws:=by
 obtain ⟨tb,to_,tc,al,wc,c6,htb,hct,c11,c10,hst⟩:=h.r5 (i:=i) (by rw[ht];exact hi)
 obtain ⟨c0,c1,c2,c4,f11⟩:w.cell? ⟨P,0,none⟩=some (PT M)∧w.cell? ⟨P,1,none⟩=some (PT kp)∧w.cell? ⟨P,2,none⟩=some (IV s.n)∧w.cell? ⟨P,4,none⟩=some (IV s.af)∧w.frozen? ⟨P,11,none⟩=false:=by
  obtain ⟨tv,lv,a,nv,wc,al,hh,_⟩:=h.head
  exact⟨hh.head (j:=0) rfl,hh.head (j:=1) rfl,hh.head (j:=2) rfl,hh.head (j:=4) rfl,hh.bJ (j:=11) (by exact(by omega:11<12))⟩
 have hb1:=h.nums.2.1
 have eU:=h.nums.1
 obtain ⟨kk,hkk⟩:∃ kk,kk=s.af*s.n+i:=⟨_,rfl⟩
 have hkl:kk<2*s.n:=by
  rw[hkk]
  rcases(show s.af=0∨s.af=1 by omega) with e | e <;> rw[e] <;> simp <;> omega
 have hbn:s.af*s.n≤1000:=Nat.le_trans (Nat.mul_le_mul_right _ hb1) (by omega)
 have hx:D[kk]? = some (D.getD kk Blk.zero):=by rw[List.getD_eq_getElem?_getD,List.getElem?_eq_getElem (by omega)];rfl
 obtain ⟨raw,ik⟩:∃ r,r=(D.getD kk Blk.zero).cur:=⟨_,rfl⟩
 have hrl:raw.length=72:=by
  obtain ⟨_,_,_,_,_,_,hR⟩:=h.dN
  rw[ik];exact(hR.ok kk _ hx).cur
 have hrd:Bk.read ek mk s D i=if tg mk i raw=s.tags.getD i [] then some (pl ek i raw) else none:=by
  unfold Bk.read Bk.aq
  rw[← hkk,← ik]
 rw[hrd]
 have HRd:Hid (∀ W,W.heap=w.heap→Calls Tryz.prog 28 #[PT M,IV kk] W fun e w'=>e=.returned (.string (aw raw))∧w'=W):=fun W hW=>by
  have:=eG h.dN kk _ hx W hW
  rw[← ik] at this
  exact this
 have hmul:(s.af:Int)*(s.n:Int)=((s.af*s.n:Nat):Int):=by simp
 have hm1:IntKind.i64.wrap ((s.af:Int)*(s.n:Int))=((s.af*s.n:Nat):Int):=by rw[hmul,IntWalk.i64_in _ (by omega)]
 have hm2:IntKind.i64.wrap (((s.af*s.n:Nat):Int)+(i:Int))=(kk:Int):=by rw[IntWalk.i64_in _ (by omega),hkk];simp
 obtain ⟨bn,vY⟩:∃ b,b=s.af*s.n:=⟨_,rfl⟩
 rw[← vY] at hm1 hm2
 have hwc:w.cell? ⟨wb,kk,none⟩=some (VS (ws.getD kk [])):=h.wrote.1.head (by rw[List.getElem?_map,List.getElem?_eq_getElem (by rw[h.wrote.2];exact hkl),List.getD_eq_getElem?_getD,List.getElem?_eq_getElem (by rw[h.wrote.2];exact hkl)];rfl)
 have HTg:Hid (∀ (x:Value) (W:World),Below w.heap.size w W→Arg W x raw→Calls Tryz.prog 54 #[PT kp,IV i,x] W fun e w'=>e=.returned (.string (aw (tg mk i raw)))∧Below W.heap.size W w'):=fun x W hb hx=>by
  have:=nN kp ek mk (i:Int) raw (by omega) x W (h.key.below hb).at hx
  rw[pR i (by omega)] at this
  exact this
 have HSh:Hid (∀ (x:Value) (W:World),RB W F G K P M kp wb ek mk s D ws→Arg W x raw→Calls Tryz.prog 55 #[PT kp,IV i,x] W fun e w'=>∃ r,e=.returned (.tuple #[r,.int .u64 ((ver raw:Nat):Int)])∧Hid (Arg w' r (pl ek i raw))∧Below W.heap.size W w'):=fun x W hb hx=>by
  have:=yS kp ek mk h.lg (i:Int) raw hrl x W hb.key.at hx
  rw[pR i (by omega)] at this
  exact this
 have HRl:=ae hrl
 have HRs:=ae h
 have HSt:Hid (∀ W b,Below w.heap.size w W→RB (W.setCell ⟨P,11,none⟩ (.bool b)) F G K P M kp wb ek mk s D ws):=fun W b hb=>by
  obtain ⟨_,_,_,_,_,_,_,_,_,_,P6⟩:=(h.stay hb).r5 (i:=i) (by rw[ht];exact hi)
  exact P6 b
 have HPl:Hid (P<w.heap.size∧tb<w.heap.size∧wb<w.heap.size):=⟨h.gone.1,htb,h.gone.2⟩
 have HPF:Hid (F P):=h.inF.1
 have HPw:Hid (P≠wb):=h.inF.2.2
 obtain ⟨sw,hsw⟩:∃ x,x=aw (ws.getD kk []):=⟨_,rfl⟩
 have Hsw:=ae hsw
 clear hsw
 have Htl:Hid (s.tags.length=s.n):=ht
 have hit:(i:Int)<(s.tags.length:Int):=by omega
 obtain ⟨sr,hsr⟩:∃ x,x=aw raw:=⟨_,rfl⟩
 rw[← hsr] at HRd
 have Hsr:=ae hsr
 obtain ⟨t1,ht1⟩:∃ t,t=tg mk i raw:=⟨_,rfl⟩
 obtain ⟨t2,ht2⟩:∃ t,t=s.tags.getD i []:=⟨_,rfl⟩
 rw[← ht1] at HTg
 rw[← ht1,← ht2]
 rw[← ht2] at hct
 obtain ⟨res,hres⟩:∃ r,r=(if t1=t2 then some (pl ek i raw) else none):=⟨_,rfl⟩
 rw[← hres]
 have rA:=ae hres
 clear hres
 have ue:(kk:Int)<((2*s.n:Nat):Int):=by omega
 generalize s.tags.length=tl at *
 generalize 2*s.n=n2 at *
 generalize s.n=n at *
 generalize s.af=af at *
 have H6:=ae (show w.cell? ⟨P,6,none⟩=some (.slice (some ⟨tb,to_,none⟩) tl tc)∧w.cell? ⟨tb,to_+i,none⟩=some (VS t2)∧w.cell? ⟨P,1,none⟩=some (PT kp) from⟨c6,hct,c1⟩)
 have HC:=ae (show w.cell? ⟨P,11,none⟩=some (.bool al)∧w.cell? ⟨P,10,none⟩=some (.slice (some ⟨wb,0,none⟩) n2 wc)∧w.cell? ⟨P,4,none⟩=some (IV af)∧w.cell? ⟨P,2,none⟩=some (IV n)∧w.cell? ⟨wb,kk,none⟩=some (VS (ws.getD kk []))∧w.frozen? ⟨P,11,none⟩=false from⟨c11,c10,c4,c2,hwc,f11⟩)
 clear h hl ht hst hx ik hrl hrd hbn vY hmul hkk ht1 ht2 c6 hct htb hwc c11 c10 hsr f11 c1
 go_enter Tryz.func22,Tryz.ntmps22
 go_wp2_with fail
 go_quiet ((go_at_call 28;exact Calls.quiet_of_same (HRd.out _ rfl)))
 go_wp2_with fail
 have hb0:Below w.heap.size w (w.drewN nq).drew:=below_drewN (below_drewN (Below.refl _ _) _) 1
 have HMv:Hid (∀ X,Below w.heap.size w X→(fun X=>X.cell? ⟨P,6,none⟩=some (.slice (some ⟨tb,to_,none⟩) tl tc)∧X.cell? ⟨tb,to_+i,none⟩=some (VS t2)∧X.cell? ⟨P,1,none⟩=some (PT kp)) X):=fun X hb=>⟨(World.cell?_of_block (w:=w) (hb.block P HPl.out.1)).trans H6.out.1,(World.cell?_of_block (w:=w) (hb.block tb HPl.out.2.1)).trans H6.out.2.1,(World.cell?_of_block (w:=w) (hb.block P HPl.out.1)).trans H6.out.2.2⟩
 have HB:=ae hb0
 have hs0:=HMv.out _ hb0
 have Hm1:=ae hm1
 have Hm2:=ae hm2
 have mR:Hid ((kk:Int)<(n2:Int)):=ue
 clear hb0 c0 c2 c4 hm1 hm2 ue H6 HRd
 by_cases htt:t1=t2
 ·subst htt
  replace rA:Hid (res=some (pl ek i raw)):=by have:=rA.out;rwa [if_pos rfl] at this
  obtain ⟨st1,Np⟩:∃ x,x=aw t1:=⟨_,rfl⟩
  simp only [VS,← Np] at HTg HMv hs0
  refine wp_region_held_drew (S:=(fun X=>X.cell? ⟨P,6,none⟩=some (.slice (some ⟨tb,to_,none⟩) tl tc)∧X.cell? ⟨tb,to_+i,none⟩=some (.string st1)∧X.cell? ⟨P,1,none⟩=some (PT kp))) (by kernel_rfl) hs0 (fun aa=>?_)
  clear hs0 Np
  generalize (w.drewN nq).drew=wd at *
  refine tkq 0 25 aa ?_
  try go_frame
  refine tkq 1 26 aa ?_
  try go_frame
  refine tkq 2 27 aa ?_
  try go_frame
  refine tkh 3 28 rfl aa ?_ (Or.inl ⟨by rfl,by intro w hSw;obtain ⟨hs6,hst,hs1⟩:=hSw;go_simp;with_reducible rfl⟩)
  try go_frame
  refine tkq 4 29 aa ?_
  try go_frame
  refine tkq 5 30 aa ?_
  try go_frame
  refine tkq 8 33 aa ?_
  try go_frame
  refine tkq 9 34 aa ?_
  try go_frame
  refine tkq 10 35 aa ?_
  try go_frame
  refine tkh 11 36 rfl aa ?_ (Or.inl ⟨by rfl,by intro w hSw;obtain ⟨hs6,hst,hs1⟩:=hSw;go_simp;with_reducible rfl⟩)
  try go_frame
  refine tkq 12 37 aa ?_
  try go_frame
  refine tkq 13 38 aa ?_
  try go_frame
  refine tkh 14 39 rfl aa ?_ (Or.inl ⟨by rfl,by intro w hSw;obtain ⟨hs6,hst,hs1⟩:=hSw;go_simp;with_reducible rfl⟩)
  try go_frame
  refine rdq 6 31 fun K hK=>?_
  obtain ⟨cap,C9,hcv,hH,hb,hcap⟩:=eV raw wd
  rw[← Hsr.out] at hcv
  go_simp
  have HA:Hid (Arg C9 (.slice (some ⟨wd.heap.size,0,none⟩) raw.length cap) raw):=.inr ⟨wd.heap.size,0,cap,rfl,hH.lt (by rw[List.length_map,HRl.out];omega),hcap,hH.1⟩
  replace HB:=ae (HB.out.trans (hb.mono HB.out.size))
  clear hcv hH hb hcap
  refine hK.out _ _ (HMv.out _ HB.out) (fun aa=>?_)
  clear hK K
  try go_frame
  refine rdq 7 32 fun K hK=>?_
  go_simp
  go_at_call 54
  refine(HTg.out _ C9 HB.out HA.out).mono ?_
  rintro e C5 ⟨rfl,hb⟩
  replace HB:=ae (HB.out.trans (hb.mono HB.out.size))
  clear hb HA
  refine hK.out _ _ (HMv.out _ HB.out) (fun aa=>?_)
  clear hK K
  try go_frame
  refine tkq 15 40 aa ?_
  try go_frame
  refine wpAnyH_done (by kernel_rfl) ?_ _
  clear aa
  generalize C5=w2 at *
  have hbP:∀ o,w2.cell? ⟨P,o,none⟩=w.cell? ⟨P,o,none⟩:=fun o=>World.cell?_of_block (HB.out.block P HPl.out.1)
  have c11:=(hbP 11).trans HC.out.1
  have c10:=(hbP 10).trans HC.out.2.1
  have c4:=(hbP 4).trans HC.out.2.2.1
  have c2:=(hbP 2).trans HC.out.2.2.2.1
  have cwb:w2.cell? ⟨wb,kk,none⟩=some (.string sw):=by rw[Hsw.out];exact(World.cell?_of_block (w:=w) (a:=⟨wb,kk,none⟩) (HB.out.block wb HPl.out.2.2)).trans HC.out.2.2.2.2.1
  have f11:w2.frozen? ⟨P,11,none⟩=false:=(World.frozen?_of_block (HB.out.block P HPl.out.1)).trans HC.out.2.2.2.2.2
  have hoff:∀ (b:Value) (o:Nat),o≠11→(w2.setCell ⟨P,11,none⟩ b).cell? ⟨P,o,none⟩=w2.cell? ⟨P,o,none⟩:=fun b o ho=>World.cell?_setCell_other _ _ _ _ (fun e=>ho (by injection e with _ e2;exact e2.symm))
  have Ag:∀ (b:Value),(w2.setCell ⟨P,11,none⟩ b).cell? ⟨wb,kk,none⟩=w2.cell? ⟨wb,kk,none⟩:=fun b=>World.cell?_setCell_other _ _ _ _ (fun e=>HPw.out (by injection e with e1))
  clear hbP HC
  cases al with
  | true =>
   have HSA:(fun X=>X.cell? ⟨P,10,none⟩=some (.slice (some ⟨wb,0,none⟩) n2 wc)∧X.cell? ⟨P,4,none⟩=some (IV af)∧X.cell? ⟨P,2,none⟩=some (IV n)∧X.cell? ⟨wb,kk,none⟩=some (.string sw)) w2:=⟨c10,c4,c2,cwb⟩
   have HSQ:Hid (∀ b,(fun X=>X.cell? ⟨P,10,none⟩=some (.slice (some ⟨wb,0,none⟩) n2 wc)∧X.cell? ⟨P,4,none⟩=some (IV af)∧X.cell? ⟨P,2,none⟩=some (IV n)∧X.cell? ⟨wb,kk,none⟩=some (.string sw)) (w2.setCell ⟨P,11,none⟩ b)):=fun b=>⟨(hoff b 10 (by omega)).trans c10,(hoff b 4 (by omega)).trans c4,(hoff b 2 (by omega)).trans c2,(Ag b).trans cwb⟩
   clear hoff Ag c10 c4 c2 cwb
   go_wp2
   refine wp_region_held_drew (S:=(fun X=>X.cell? ⟨P,10,none⟩=some (.slice (some ⟨wb,0,none⟩) n2 wc)∧X.cell? ⟨P,4,none⟩=some (IV af)∧X.cell? ⟨P,2,none⟩=some (IV n)∧X.cell? ⟨wb,kk,none⟩=some (.string sw))) (by kernel_rfl) HSA (fun aa=>?_)
   replace c11:w2.drew.cell? ⟨P,11,none⟩=some (.bool true):=c11
   refine tkq 0 41 aa ?_
   try go_frame
   refine tkq 1 42 aa ?_
   try go_frame
   refine tkq 2 43 aa ?_
   try go_frame
   refine tkq 3 44 aa ?_
   try go_frame
   refine rdq 4 45 fun K hK=>?_
   have cL:=c11
   go_simp
   refine hK.out _ _ (HSA) (fun aa=>?_)
   clear hK K
   try go_frame
   clear cL
   refine tkq 5 46 aa ?_
   try go_frame
   refine tkh 6 47 (v:=undef) rfl aa ?_ (Or.inr ⟨by rfl,rfl⟩)
   try go_frame
   refine tkh 7 48 (v:=undef) rfl aa ?_ (Or.inr ⟨by rfl,rfl⟩)
   try go_frame
   refine tkh 8 49 (v:=undef) rfl aa ?_ (Or.inr ⟨by rfl,rfl⟩)
   try go_frame
   refine tkh 9 50 (v:=undef) rfl aa ?_ (Or.inr ⟨by rfl,rfl⟩)
   try go_frame
   refine tkh 10 51 (v:=undef) rfl aa ?_ (Or.inr ⟨by rfl,rfl⟩)
   try go_frame
   refine tkh 11 52 (v:=undef) rfl aa ?_ (Or.inr ⟨by rfl,rfl⟩)
   try go_frame
   refine tkh 12 53 (v:=undef) rfl aa ?_ (Or.inr ⟨by rfl,rfl⟩)
   try go_frame
   refine tkh 13 54 (v:=undef) rfl aa ?_ (Or.inr ⟨by rfl,rfl⟩)
   try go_frame
   refine tkh 14 55 (v:=undef) rfl aa ?_ (Or.inr ⟨by rfl,rfl⟩)
   try go_frame
   refine tkh 15 56 (v:=undef) rfl aa ?_ (Or.inr ⟨by rfl,rfl⟩)
   try go_frame
   refine tkh 16 57 (v:=undef) rfl aa ?_ (Or.inr ⟨by rfl,rfl⟩)
   try go_frame
   refine tkh 17 58 (v:=undef) rfl aa ?_ (Or.inr ⟨by rfl,rfl⟩)
   try go_frame
   refine tkh 18 59 (v:=undef) rfl aa ?_ (Or.inr ⟨by rfl,rfl⟩)
   try go_frame
   refine tkh 19 60 (v:=undef) rfl aa ?_ (Or.inr ⟨by rfl,rfl⟩)
   try go_frame
   refine tkh 20 61 (v:=undef) rfl aa ?_ (Or.inr ⟨by rfl,rfl⟩)
   try go_frame
   refine tkh 21 62 (v:=undef) rfl aa ?_ (Or.inr ⟨by rfl,rfl⟩)
   try go_frame
   refine tkh 22 63 (v:=undef) rfl aa ?_ (Or.inr ⟨by rfl,rfl⟩)
   try go_frame
   refine tkh 23 64 (v:=undef) rfl aa ?_ (Or.inr ⟨by rfl,rfl⟩)
   try go_frame
   refine tkh 24 65 (v:=undef) rfl aa ?_ (Or.inr ⟨by rfl,rfl⟩)
   try go_frame
   refine tkq 25 66 aa ?_
   try go_frame
   refine tkq 26 67 aa ?_
   try go_frame
   refine tkq 27 68 aa ?_
   try go_frame
   refine rdn 28 fun K hK=>?_
   have c5:=c11
   have f5:=f11
   go_simp
   refine hK.out _ _ (HSQ.out _) (fun aa=>?_)
   clear hK K
   try go_frame
   clear c5 f5
   refine wpAnyH_done (by kernel_rfl) ?_ _
   clear aa
   have HE:Hid (RB (w2.setCell ⟨P,11,none⟩ (.bool true)).drew F G K P M kp wb ek mk s D ws∧Chg (fun k _=>F k∨G k) w (w2.setCell ⟨P,11,none⟩ (.bool true)).drew):=⟨(HSt.out w2 _ HB.out).stay (below_drewN (Below.refl _ _) 1),((Chg.below HB.out (fun k _=>F k∨G k)).setCell (p:=⟨P,11,none⟩) rfl (fun _=>Or.inl HPF.out) (by show (w2.drew.cell? _).isSome=true;rw[c11];rfl) _).drew⟩
   clear c11 f11 HSA HSQ HSt
   generalize (w2.setCell ⟨P,11,none⟩ (.bool true)).drew=w3 at *
   obtain ⟨Fl,w4,hcv,hH4,hb4,vX⟩:=eV raw w3
   have HA4:Arg w4 (.slice (some ⟨w3.heap.size,0,none⟩) 72 Fl) raw:=.inr ⟨w3.heap.size,0,Fl,by rw[HRl.out],hH4.lt (by rw[List.length_map,HRl.out];omega),vX,hH4.1⟩
   rw[← Hsr.out,HRl.out] at hcv
   have c1:=HE.out.1.c1
   have HE4:Hid (RB w4 F G K P M kp wb ek mk s D ws∧Chg (fun k _=>F k∨G k) w w4):=⟨HE.out.1.stay hb4,HE.out.2.then (Chg.below hb4 _)⟩
   have Gc:=ae (HSh.out _ w4 HE4.out.1 HA4)
   clear hH4 hb4 vX HA4 HE HSh
   generalize pl ek i raw=plx at *
   go_wp2_with fail
   refine Gc.out.mono ?_
   rintro e w5 ⟨r,rfl,HAr,hb5⟩
   obtain ⟨Ar,cr,rfl⟩:=HAr.out.form
   have Qq:=bS HAr.out
   have HE5:Hid (RB w5 F G K P M kp wb ek mk s D ws∧Chg (fun k _=>F k∨G k) w w5):=⟨HE4.out.1.stay hb5,HE4.out.2.then (Chg.below hb5 _)⟩
   clear hb5 HE4 Gc hcv c1 HAr
   generalize plx.length=pln at *
   go_wp2
   go_ret2
   rw[rA.out]
   exact⟨rfl,F,HE5.out.1,fun _ hk=>.inl hk,HE5.out.2⟩
  | false =>
   have HSA:(fun X=>X.cell? ⟨P,10,none⟩=some (.slice (some ⟨wb,0,none⟩) n2 wc)∧X.cell? ⟨P,4,none⟩=some (IV af)∧X.cell? ⟨P,2,none⟩=some (IV n)∧X.cell? ⟨wb,kk,none⟩=some (.string sw)) w2:=⟨c10,c4,c2,cwb⟩
   have HSQ:Hid (∀ b,(fun X=>X.cell? ⟨P,10,none⟩=some (.slice (some ⟨wb,0,none⟩) n2 wc)∧X.cell? ⟨P,4,none⟩=some (IV af)∧X.cell? ⟨P,2,none⟩=some (IV n)∧X.cell? ⟨wb,kk,none⟩=some (.string sw)) (w2.setCell ⟨P,11,none⟩ b)):=fun b=>⟨(hoff b 10 (by omega)).trans c10,(hoff b 4 (by omega)).trans c4,(hoff b 2 (by omega)).trans c2,(Ag b).trans cwb⟩
   clear hoff Ag c10 c4 c2 cwb
   go_wp2
   refine wp_region_held_drew (S:=(fun X=>X.cell? ⟨P,10,none⟩=some (.slice (some ⟨wb,0,none⟩) n2 wc)∧X.cell? ⟨P,4,none⟩=some (IV af)∧X.cell? ⟨P,2,none⟩=some (IV n)∧X.cell? ⟨wb,kk,none⟩=some (.string sw))) (by kernel_rfl) HSA (fun aa=>?_)
   replace c11:w2.drew.cell? ⟨P,11,none⟩=some (.bool false):=c11
   refine tkq 0 41 aa ?_
   try go_frame
   refine tkq 1 42 aa ?_
   try go_frame
   refine tkq 2 43 aa ?_
   try go_frame
   refine tkq 3 44 aa ?_
   try go_frame
   refine rdq 4 45 fun K hK=>?_
   have cL:=c11
   go_simp
   refine hK.out _ _ (HSA) (fun aa=>?_)
   clear hK K
   try go_frame
   clear cL
   refine tkq 5 46 aa ?_
   try go_frame
   refine tkq 6 47 aa ?_
   try go_frame
   refine tkq 7 48 aa ?_
   try go_frame
   refine tkq 8 49 aa ?_
   try go_frame
   refine tkq 9 50 aa ?_
   try go_frame
   refine tkh 10 51 rfl aa ?_ (Or.inl ⟨by rfl,by intro w hSw;obtain ⟨Ky,hs4,hs2,hsw⟩:=hSw;go_simp;with_reducible rfl⟩)
   try go_frame
   refine tkq 11 52 aa ?_
   try go_frame
   refine tkq 12 53 aa ?_
   try go_frame
   refine tkq 13 54 aa ?_
   try go_frame
   refine tkh 14 55 rfl aa ?_ (Or.inl ⟨by rfl,by intro w hSw;obtain ⟨Ky,hs4,hs2,hsw⟩:=hSw;go_simp;with_reducible rfl⟩)
   try go_frame
   refine tkq 15 56 aa ?_
   try go_frame
   refine tkq 16 57 aa ?_
   try go_frame
   refine tkq 17 58 aa ?_
   try go_frame
   refine tkh 18 59 rfl aa ?_ (Or.inl ⟨by rfl,by intro w hSw;obtain ⟨Ky,hs4,hs2,hsw⟩:=hSw;go_simp;with_reducible rfl⟩)
   try go_frame
   refine tkh 19 60 rfl aa ?_ (Or.inl ⟨by rfl,by intro w hSw;have hm:=Hm1.out;go_simp;with_reducible rfl⟩)
   try go_frame
   refine tkq 20 61 aa ?_
   try go_frame
   refine tkh 21 62 rfl aa ?_ (Or.inl ⟨by rfl,by intro w hSw;have hm:=Hm2.out;go_simp;with_reducible rfl⟩)
   try go_frame
   refine tkh 22 63 rfl aa ?_ (Or.inl ⟨by rfl,by intro w hSw;have hb:=mR.out;go_simp;with_reducible rfl⟩)
   try go_frame
   refine tkh 23 64 rfl aa ?_ (Or.inl ⟨by rfl,by intro w hSw;obtain ⟨Ky,hs4,hs2,hsw⟩:=hSw;go_simp;with_reducible rfl⟩)
   try go_frame
   refine tkq 24 65 aa ?_
   try go_frame
   refine tkq 25 66 aa ?_
   try go_frame
   refine tkq 26 67 aa ?_
   try go_frame
   refine tkq 27 68 aa ?_
   try go_frame
   refine rdn 28 fun K hK=>?_
   have c5:=c11
   have f5:=f11
   go_simp
   refine hK.out _ _ (HSQ.out _) (fun aa=>?_)
   clear hK K
   try go_frame
   clear c5 f5
   refine wpAnyH_done (by kernel_rfl) ?_ _
   clear aa
   have HE:Hid (RB (w2.setCell ⟨P,11,none⟩ (.bool (!sr.toList == sw.toList))).drew F G K P M kp wb ek mk s D ws∧Chg (fun k _=>F k∨G k) w (w2.setCell ⟨P,11,none⟩ (.bool (!sr.toList == sw.toList))).drew):=⟨(HSt.out w2 _ HB.out).stay (below_drewN (Below.refl _ _) 1),((Chg.below HB.out (fun k _=>F k∨G k)).setCell (p:=⟨P,11,none⟩) rfl (fun _=>Or.inl HPF.out) (by show (w2.drew.cell? _).isSome=true;rw[c11];rfl) _).drew⟩
   clear c11 f11 HSA HSQ HSt
   generalize (w2.setCell ⟨P,11,none⟩ (.bool (!sr.toList == sw.toList))).drew=w3 at *
   obtain ⟨Fl,w4,hcv,hH4,hb4,vX⟩:=eV raw w3
   have HA4:Arg w4 (.slice (some ⟨w3.heap.size,0,none⟩) 72 Fl) raw:=.inr ⟨w3.heap.size,0,Fl,by rw[HRl.out],hH4.lt (by rw[List.length_map,HRl.out];omega),vX,hH4.1⟩
   rw[← Hsr.out,HRl.out] at hcv
   have c1:=HE.out.1.c1
   have HE4:Hid (RB w4 F G K P M kp wb ek mk s D ws∧Chg (fun k _=>F k∨G k) w w4):=⟨HE.out.1.stay hb4,HE.out.2.then (Chg.below hb4 _)⟩
   have Gc:=ae (HSh.out _ w4 HE4.out.1 HA4)
   clear hH4 hb4 vX HA4 HE HSh
   generalize pl ek i raw=plx at *
   go_wp2_with fail
   refine Gc.out.mono ?_
   rintro e w5 ⟨r,rfl,HAr,hb5⟩
   obtain ⟨Ar,cr,rfl⟩:=HAr.out.form
   have Qq:=bS HAr.out
   have HE5:Hid (RB w5 F G K P M kp wb ek mk s D ws∧Chg (fun k _=>F k∨G k) w w5):=⟨HE4.out.1.stay hb5,HE4.out.2.then (Chg.below hb5 _)⟩
   clear hb5 HE4 Gc hcv c1 HAr
   generalize plx.length=pln at *
   go_wp2
   go_ret2
   rw[rA.out]
   exact⟨rfl,F,HE5.out.1,fun _ hk=>.inl hk,HE5.out.2⟩
 ·have hx:=zG htt
  replace rA:Hid (res=none):=by have:=rA.out;rwa [if_neg htt] at this
  have Hx:=ae hx
  refine wp_region_held_drew (S:=(fun X=>X.cell? ⟨P,6,none⟩=some (.slice (some ⟨tb,to_,none⟩) tl tc)∧X.cell? ⟨tb,to_+i,none⟩=some (VS t2)∧X.cell? ⟨P,1,none⟩=some (PT kp))) (by kernel_rfl) hs0 (fun aa=>?_)
  clear hs0 hx
  generalize (w.drewN nq).drew=wd at *
  refine tkq 0 25 aa ?_
  try go_frame
  refine tkq 1 26 aa ?_
  try go_frame
  refine tkq 2 27 aa ?_
  try go_frame
  refine tkh 3 28 rfl aa ?_ (Or.inl ⟨by rfl,by intro w hSw;obtain ⟨hs6,hst,hs1⟩:=hSw;go_simp;with_reducible rfl⟩)
  try go_frame
  refine tkq 4 29 aa ?_
  try go_frame
  refine tkq 5 30 aa ?_
  try go_frame
  refine tkq 8 33 aa ?_
  try go_frame
  refine tkq 9 34 aa ?_
  try go_frame
  refine tkq 10 35 aa ?_
  try go_frame
  refine tkh 11 36 rfl aa ?_ (Or.inl ⟨by rfl,by intro w hSw;obtain ⟨hs6,hst,hs1⟩:=hSw;go_simp;with_reducible rfl⟩)
  try go_frame
  refine tkq 12 37 aa ?_
  try go_frame
  refine tkq 13 38 aa ?_
  try go_frame
  refine tkh 14 39 rfl aa ?_ (Or.inl ⟨by rfl,by intro w hSw;obtain ⟨hs6,hst,hs1⟩:=hSw;go_simp;with_reducible rfl⟩)
  try go_frame
  refine rdq 6 31 fun K hK=>?_
  obtain ⟨cap,C9,hcv,hH,hb,hcap⟩:=eV raw wd
  rw[← Hsr.out] at hcv
  go_simp
  have HA:Hid (Arg C9 (.slice (some ⟨wd.heap.size,0,none⟩) raw.length cap) raw):=.inr ⟨wd.heap.size,0,cap,rfl,hH.lt (by rw[List.length_map,HRl.out];omega),hcap,hH.1⟩
  replace HB:=ae (HB.out.trans (hb.mono HB.out.size))
  clear hcv hH hb hcap
  refine hK.out _ _ (HMv.out _ HB.out) (fun aa=>?_)
  clear hK K
  try go_frame
  refine rdq 7 32 fun K hK=>?_
  go_simp
  go_at_call 54
  refine(HTg.out _ C9 HB.out HA.out).mono ?_
  rintro e C5 ⟨rfl,hb⟩
  replace HB:=ae (HB.out.trans (hb.mono HB.out.size))
  clear hb HA
  refine hK.out _ _ (HMv.out _ HB.out) (fun aa=>?_)
  clear hK K
  try go_frame
  refine tkh 15 40 rfl aa ?_ (Or.inl ⟨by rfl,by intro w hSw;have hx:=Hx.out;go_simp;with_reducible rfl⟩)
  try go_frame
  refine wpAnyH_done (by kernel_rfl) ?_ _
  clear aa
  go_wp2
  go_ret2
  rw[rA.out]
  exact⟨rfl,F,HRs.out.stay HB.out,fun _ hk=>.inl hk,Chg.below HB.out _⟩
end
end Go.Proofs.YthbmknpbcgnabaaGreatDoor
