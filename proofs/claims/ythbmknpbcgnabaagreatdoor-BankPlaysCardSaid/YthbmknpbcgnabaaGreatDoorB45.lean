/- Of the walk. -/
import Derived.Test.YthbmknpbcgnabaaGreatDoorB33
set_option maxHeartbeats 40000000
namespace Go.Proofs.YthbmknpbcgnabaaGreatDoor
open Go.RowKit Aes Ctr Sl Dsk
def Bk.pH (ek:List UInt8) (s:Bk.Bn) (ws:List (List UInt8)):List (List UInt8) :=
 if s.L=[] then ws else if s.at_<s.n then ws.set ((1 - s.af)*s.n+s.at_) (rw_ ek s.at_ (s.ep+1) (s.L.getD s.at_ [])) else ws
theorem RB.tS {w:World} {F G K:Nat→Prop} {P M kp wb:Nat} {ek mk:List UInt8} {s:Bk.Bn} {D:List Blk} {ws:List (List UInt8)} {nv:Value} (h:RB w F G K P M kp wb ek mk s D ws) (hL:s.L≠[]) (hnv:w.cell? ⟨P,9,none⟩=some nv):Own w 0 9 nv (s.next.map VS):=by
 obtain ⟨tv,lv,a,nv',wc,al,hh,ht,hlv,hn⟩:=h.head
 obtain rfl:nv'=nv:=by have:=hh.head (j:=9) rfl;rw[this] at hnv;injection hnv
 exact(hn hL).2.1
theorem RB.rQ {w:World} {F G K:Nat→Prop} {P M kp wb:Nat} {ek mk:List UInt8} {s:Bk.Bn} {D:List Blk} {ws:List (List UInt8)} (h:RB w F G K P M kp wb ek mk s D ws) (hL:s.L≠[]) :
  ∃ lb lo lc nv,w.cell? ⟨P,2,none⟩=some (IV s.n)∧w.cell? ⟨P,3,none⟩=some (.int .u64 (s.ep:Int))∧w.cell? ⟨P,4,none⟩=some (IV s.af)∧w.cell? ⟨P,8,none⟩=some (IV s.at_)∧w.cell? ⟨P,9,none⟩=some nv∧(∃ A n c,nv=.slice A n c)
   ∧ w.cell? ⟨P,7,none⟩=some (.slice (some ⟨lb,lo,none⟩) s.L.length lc)∧(F lb∧lb≠P∧lb≠wb∧∀ k,nv.ownBlock=some k→k≠lb)∧lb<w.heap.size∧∀ i,i<s.L.length→w.cell? ⟨lb,lo+i,none⟩=some (VS (s.L.getD i [])):=by
 obtain ⟨tv,lv,a,nv,wc,al,hh,ht,hlv,hn⟩:=h.head
 obtain ⟨rfl,h2,h3⟩:=hn hL
 rcases hlv with ⟨_,_,_,e⟩ | ⟨b,o,cap,rfl,hb,hs⟩
 ·exact absurd e hL
 ·refine⟨b,o,cap,nv,hh.head (j:=2) rfl,hh.head (j:=3) rfl,hh.head (j:=4) rfl,hh.head (j:=8) rfl,hh.head (j:=9) rfl,ay h2,hh.head (j:=7) rfl,⟨hb.2.1,hb.2.2.1,hb.2.2.2.1,fun k hk e=>hb.2.2.2.2 hL (e ▸ hk)⟩,hb.1,fun i hi=>hs i _ ?_⟩
  rw[List.getElem?_map,List.getElem?_eq_getElem hi,List.getD_eq_getElem?_getD,List.getElem?_eq_getElem hi];rfl
section
variable {w:World} {F G K:Nat→Prop} {P M kp wb:Nat} {ek mk:List UInt8} {s:Bk.Bn} {D:List Blk} {ws:List (List UInt8)}
set_option maxRecDepth 100000
theorem wP (h:RB w F G K P M kp wb ek mk s D ws) (hL:s.L=[]) :
  Calls Tryz.prog 20 #[PT P] w fun e w'=>e=.returned (.tuple #[.bool false,.int .i64 2])∧w'=w:=by
 obtain ⟨tv,lv,a,nv,wc,al,hh,ht,hlv,hn⟩:=h.head
 obtain ⟨A7,c7,rfl⟩:=hlv.form
 have e7:w.cell? ⟨P,7,none⟩=some (.slice A7 0 c7):=by have:w.cell? ⟨P,7,none⟩=some (.slice A7 s.L.length c7):=hh.head (j:=7) rfl;rw[this,hL];rfl
 clear hh ht hlv hn hL h
 go_enter Tryz.func20,Tryz.ntmps20
 go_wp2_with fail
 go_ret2
 exact⟨rfl,rfl⟩
theorem yY (h:RB w F G K P M kp wb ek mk s D ws) (hL:s.L≠[]) (hLl:s.L.length=s.n) (h64:∀ x∈s.L,x.length=64) (ha:s.at_<s.n) (hnl:s.next.length≤1000) (hep:s.ep≤1000000) :
  Calls Tryz.prog 20 #[PT P] w fun e w'=>e=.returned (.tuple #[.bool false,.int .i64 0]) ∧
   gX w F G K w' P M kp wb ek mk { s with at_:=s.at_+1,next:=s.next++[(Bk.put ek mk s.n (1 - s.af) s.at_ (s.ep+1) (s.L.getD s.at_ []) D).2] } (Bk.put ek mk s.n (1 - s.af) s.at_ (s.ep+1) (s.L.getD s.at_ []) D).1 (ws.set ((1 - s.af)*s.n+s.at_) (rw_ ek s.at_ (s.ep+1) (s.L.getD s.at_ []))):=by
 obtain ⟨lb,lo,lc,nv,c2,c3,c4,c8,c9,⟨An,nn,kn,rfl⟩,c7,hlb,Ie,hlx⟩:=h.rQ hL
 have hR1:=h.Ao hL (Nat.le_of_lt ha)
 have hc1:Chg (fun k _=>F k) w (w.setCell ⟨P,8,none⟩ (IV (s.at_+1))):=(h.fJ 8 (by omega) _).mono fun k _ _ e=>e ▸ h.inF.1
 have f8:w.frozen? ⟨P,8,none⟩=false:=by obtain ⟨tv,lv,a,nv,wc,al,hh,_⟩:=h.head;exact hh.bJ (j:=8) (by exact(by omega:8<12))
 have N7:(s.L.getD s.at_ []).length=64:=by
  rw[List.getD_eq_getElem?_getD,List.getElem?_eq_getElem (by omega)]
  exact h64 _ (List.getElem_mem _)
 have hb1:=h.nums.2.1
 have eU:=h.nums.1
 have HPl:Hid (∀ X,RB X F G K P M kp wb ek mk { s with at_:=s.at_+1 } D ws→Calls Tryz.prog 44 #[PT P,IV (1 - s.af),IV s.at_,.int .u64 ((s.ep+1:Nat):Int),VS (s.L.getD s.at_ [])] X fun e w' =>
   e=.returned (VS (Bk.put ek mk s.n (1 - s.af) s.at_ (s.ep+1) (s.L.getD s.at_ []) D).2)∧RB w' F G K P M kp wb ek mk { s with at_:=s.at_+1 } (Bk.put ek mk s.n (1 - s.af) s.at_ (s.ep+1) (s.L.getD s.at_ []) D).1 (ws.set ((1 - s.af)*s.n+s.at_) (rw_ ek s.at_ (s.ep+1) (s.L.getD s.at_ [])))∧Chg (fun k _=>G k∨k=wb) X w') :=
  fun X hX=>hX.put (s:={ s with at_:=s.at_+1 }) (by omega) ha (by omega) N7
 have lx:=hlx s.at_ (by omega)
 have HNl:Hid (({ s with at_:=s.at_+1 }:Bk.Bn).L≠[]∧s.next.length≤1000):=⟨hL,hnl⟩
 have HPF:Hid (∀ k,k=P∨k=lb→¬ (G k∨k=wb)):=fun k hk e=>by
  rcases hk with rfl | rfl
  ·exact e.elim (h.apart.1 _ h.inF.1).1 h.inF.2.2
  ·exact e.elim (h.apart.1 _ hlb.1).1 hlb.2.2.1
 have Hlt:Hid (P<w.heap.size∧lb<w.heap.size):=⟨h.gone.1,Ie⟩
 have HPb:Hid (lb≠P):=hlb.2.1
 have Hnv:Hid (∀ k,(Value.slice An nn kn).ownBlock=some k→k≠P∧k≠lb):=fun k hk=>by
  obtain ⟨tv,lv,a,nv',wc,al,hh,ht,hlv,hn⟩:=h.head
  have:=hh.head (j:=9) rfl
  rw[c9] at this
  injection this with this
  subst this
  exact⟨((hn hL).2.2 k hk).2.1,hlb.2.2.2 k hk⟩
 have HF:Hid (∀ (w1 w':World) (F':Nat→Prop) (s':Bk.Bn) (D':List Blk) (ws':List (List UInt8)),Chg (fun k _=>F k∨G k) w w1→RB w' F' G K P M kp wb ek mk s' D' ws'→(∀ k,F' k→F k∨w1.heap.size≤k)→Chg (fun k _=>F k) w1 w'→gX w F G K w' P M kp wb ek mk s' D' ws') :=
  fun w1 w' F' s' D' ws' h1 h2 h3 h4=>⟨F',h2,fun k hk=>(h3 k hk).imp id fun hx=>by have:=h1.size;omega,h1.trans h4 fun _ _ _ hx=>.inl hx⟩
 have Hwb:Hid (F wb):=h.inF.2.1
 generalize hpd:Bk.put ek mk s.n (1 - s.af) s.at_ (s.ep+1) (s.L.getD s.at_ []) D=pd at *
 obtain ⟨D',tg'⟩:=pd
 clear hpd
 dsimp only at HPl ⊢
 generalize ws.set ((1 - s.af)*s.n+s.at_) (rw_ ek s.at_ (s.ep+1) (s.L.getD s.at_ []))=ws' at *
 obtain ⟨s1,hs1⟩:∃ s1:Bk.Bn,s1 = { s with at_:=s.at_+1 }:=⟨_,rfl⟩
 rw[← hs1] at hR1 HPl HNl
 have CM:Hid ({ s with at_:=s.at_+1,next:=s.next++[tg'] } = { s1 with next:=s1.next++[tg'] }):=by show _=_;rw[hs1]
 rw[CM.out]
 have Hnx:Hid (s1.next.length≤1000):=by show _≤_;rw[hs1];exact HNl.out.2
 have HL1:Hid (s1.L≠[]):=HNl.out.1
 have Hlb:Hid (F lb):=hlb.1
 generalize s.L.length=ll at *
 generalize s.L.getD s.at_ []=pl at *
 obtain ⟨st,hst⟩:∃ x,x=aw tg':=⟨_,rfl⟩
 have VSt:Hid (VS tg'=.string st):=by show VS tg'=_;rw[VS,← hst]
 rw[VSt.out] at HPl
 clear hst
 obtain ⟨spl,vS⟩:∃ x,x=aw pl:=⟨_,rfl⟩
 rw[VS,← vS] at lx
 rw[VS,← vS] at HPl
 have Rj:=ae vS
 have Hbk:Hid (IntKind.i64.wrap (1 - (s.af:Int))=((1 - s.af:Nat):Int)):=by show _=_;rw[IntWalk.i64_in _ (by omega)];omega
 generalize s.n=n at *
 generalize s.ep=ep at *
 generalize s.af=af at *
 generalize s.at_=at0 at *
 rw[show IV (at0+1)=.int .i64 ((at0:Int)+1) from by simp] at hR1 hc1
 obtain ⟨w1,hw1⟩:∃ W,W=w.setCell ⟨P,8,none⟩ (.int .i64 ((at0:Int)+1)):=⟨_,rfl⟩
 rw[← hw1] at hR1 hc1
 have HR1:=ae hR1
 have HC1:=ae hc1
 have Hll:=ae hLl
 have hll:(at0:Int)<(ll:Int):=by omega
 obtain ⟨nb,hnb⟩:∃ b,b=1 - af:=⟨_,rfl⟩
 rw[← hnb] at HPl Hbk
 rw[show (((ep+1:Nat)):Int)=(ep:Int)+1 from by simp] at HPl
 clear vS hlx hlb Ie hR1 hc1 hL h64 hnl h N7 hs1 hLl HNl CM hnb
 have Hc4:=ae c4
 have Hc3:=ae c3
 have Hc7:=ae c7
 have Hc9:=ae c9
 have Hlx:=ae lx
 clear c3 c4 c9 lx
 go_enter Tryz.func20,Tryz.ntmps20
 go_wp2_with fail
 go_quiet (fail)
 go_wp2
 rw[← hw1]
 have hb2:Below w1.heap.size w1 (w1.drewN nq).drew:=below_drewN (below_drewN (Below.refl _ _) _) 1
 have HRs:Hid (RB (w1.drewN nq).drew F G K P M kp wb ek mk s1 D ws):=HR1.out.stay hb2
 have HCc:Hid (Chg (fun k _=>F k∨G k) w (w1.drewN nq).drew):=(HC1.out.mono fun k _ _ hk=>Or.inl hk).then (Chg.below hb2 _)
 have HSc:Hid ((fun X=>X.cell? ⟨P,4,none⟩=some (IV af)∧X.cell? ⟨P,8,none⟩=some (.int .i64 ((at0:Int)+1))∧X.cell? ⟨P,3,none⟩=some (.int .u64 (ep:Int))∧X.cell? ⟨P,7,none⟩=some (.slice (some ⟨lb,lo,none⟩) ll lc)∧X.cell? ⟨lb,lo+at0,none⟩=some (.string spl)) (w1.drewN nq).drew∧(w1.drewN nq).drew.cell? ⟨P,9,none⟩=some (.slice An nn kn)):=by
  have e:∀ o,o≠8→w1.cell? ⟨P,o,none⟩=w.cell? ⟨P,o,none⟩:=fun o ho=>by rw[hw1];exact World.cell?_setCell_other _ _ _ _ (fun e=>ho (by injection e with _ e2;exact e2.symm))
  refine⟨⟨(e 4 (by omega)).trans Hc4.out,?_,(e 3 (by omega)).trans Hc3.out,(e 7 (by omega)).trans Hc7.out,?_⟩,(e 9 (by omega)).trans Hc9.out⟩
  ·show w1.cell? _=_
   rw[hw1];exact World.cell?_setCell_same _ _ _ c8
  ·show w1.cell? _=_
   rw[hw1]
   exact(World.cell?_setCell_other _ _ _ _ (fun e=>HPb.out (by injection e with e1;exact e1.symm))).trans Hlx.out
 have hss:(fun X=>X.cell? ⟨P,4,none⟩=some (IV af)∧X.cell? ⟨P,8,none⟩=some (.int .i64 ((at0:Int)+1))∧X.cell? ⟨P,3,none⟩=some (.int .u64 (ep:Int))∧X.cell? ⟨P,7,none⟩=some (.slice (some ⟨lb,lo,none⟩) ll lc)∧X.cell? ⟨lb,lo+at0,none⟩=some (.string spl)) (w1.drewN nq).drew:=HSc.out.1
 have HMv:Hid (∀ X X':World,X'.heap[P]? = X.heap[P]?→X'.heap[lb]? = X.heap[lb]?→(fun X=>X.cell? ⟨P,4,none⟩=some (IV af)∧X.cell? ⟨P,8,none⟩=some (.int .i64 ((at0:Int)+1))∧X.cell? ⟨P,3,none⟩=some (.int .u64 (ep:Int))∧X.cell? ⟨P,7,none⟩=some (.slice (some ⟨lb,lo,none⟩) ll lc)∧X.cell? ⟨lb,lo+at0,none⟩=some (.string spl)) X∧X.cell? ⟨P,9,none⟩=some (.slice An nn kn)→(fun X=>X.cell? ⟨P,4,none⟩=some (IV af)∧X.cell? ⟨P,8,none⟩=some (.int .i64 ((at0:Int)+1))∧X.cell? ⟨P,3,none⟩=some (.int .u64 (ep:Int))∧X.cell? ⟨P,7,none⟩=some (.slice (some ⟨lb,lo,none⟩) ll lc)∧X.cell? ⟨lb,lo+at0,none⟩=some (.string spl)) X'∧X'.cell? ⟨P,9,none⟩=some (.slice An nn kn)):=fun X X' h1 h2 ⟨⟨a,b,c,d,e⟩,f⟩ =>
  ⟨⟨(World.cell?_of_block (w:=X) h1).trans a,(World.cell?_of_block (w:=X) h1).trans b,(World.cell?_of_block (w:=X) h1).trans c,(World.cell?_of_block (w:=X) h1).trans d,(World.cell?_of_block (w:=X) h2).trans e⟩,(World.cell?_of_block (w:=X) h1).trans f⟩
 have HSt:Hid (∀ (X:World) (v:Value),(fun X=>X.cell? ⟨P,4,none⟩=some (IV af)∧X.cell? ⟨P,8,none⟩=some (.int .i64 ((at0:Int)+1))∧X.cell? ⟨P,3,none⟩=some (.int .u64 (ep:Int))∧X.cell? ⟨P,7,none⟩=some (.slice (some ⟨lb,lo,none⟩) ll lc)∧X.cell? ⟨lb,lo+at0,none⟩=some (.string spl)) X→(fun X=>X.cell? ⟨P,4,none⟩=some (IV af)∧X.cell? ⟨P,8,none⟩=some (.int .i64 ((at0:Int)+1))∧X.cell? ⟨P,3,none⟩=some (.int .u64 (ep:Int))∧X.cell? ⟨P,7,none⟩=some (.slice (some ⟨lb,lo,none⟩) ll lc)∧X.cell? ⟨lb,lo+at0,none⟩=some (.string spl)) (X.setCell ⟨P,9,none⟩ v)):=fun X v ⟨a,b,c,d,e⟩=>by
  have h:∀ o,o≠9→(X.setCell ⟨P,9,none⟩ v).cell? ⟨P,o,none⟩=X.cell? ⟨P,o,none⟩:=fun o ho=>World.cell?_setCell_other _ _ _ _ (fun e=>ho (by injection e with _ e2;exact e2.symm))
  exact⟨(h 4 (by omega)).trans a,(h 8 (by omega)).trans b,(h 3 (by omega)).trans c,(h 7 (by omega)).trans d,(World.cell?_setCell_other _ _ _ _ (fun e=>HPb.out (by injection e with e1;exact e1.symm))).trans e⟩
 have HFl:Hid (∀ X s D ws,RB X F G K P M kp wb ek mk s D ws→P<X.heap.size∧lb<X.heap.size):=fun X s D ws h=>⟨h.gone.1,h.lt.1 lb Hlb.out⟩
 have HLn:Hid ((s1.next.map VS).length+1≤1000000):=by show _≤_;rw[List.length_map];have:=Hnx.out;omega
 have Hat:Hid (IntKind.i64.wrap (at0:Int)=(at0:Int)):=by show _=_;rw[IntWalk.i64_in _ (by omega)]
 have Hep:Hid (IntKind.u64.wrap ((ep:Int)+1)=(ep:Int)+1):=by show (_:Int) % _=_;rw[Int.emod_eq_of_lt (by omega) (by show (_:Int)<18446744073709551616;omega)]
 clear Hc3 Hc4 Hc7 Hc9 Hlx HR1 HC1 hw1 c8 c7 c2 f8 hb2
 refine wp_region_held_drew (S:=(fun X=>X.cell? ⟨P,4,none⟩=some (IV af)∧X.cell? ⟨P,8,none⟩=some (.int .i64 ((at0:Int)+1))∧X.cell? ⟨P,3,none⟩=some (.int .u64 (ep:Int))∧X.cell? ⟨P,7,none⟩=some (.slice (some ⟨lb,lo,none⟩) ll lc)∧X.cell? ⟨lb,lo+at0,none⟩=some (.string spl))) (by kernel_rfl) hss (fun aa=>?_)
 clear hss
 generalize (w1.drewN nq).drew=wd at *
 refine tkq 0 27 aa ?_
 try go_frame
 refine tkq 1 28 aa ?_
 try go_frame
 refine tkq 2 29 aa ?_
 try go_frame
 refine tkq 3 30 aa ?_
 try go_frame
 refine tkq 5 32 aa ?_
 try go_frame
 refine tkq 6 33 aa ?_
 try go_frame
 refine tkq 7 34 aa ?_
 try go_frame
 refine tkq 8 35 aa ?_
 try go_frame
 refine tkh 9 36 rfl aa ?_ (Or.inl ⟨by rfl,by intro w hSw;obtain ⟨hs4,hs8,hs3,hs7,hsx⟩:=hSw;go_simp;with_reducible rfl⟩)
 try go_frame
 refine tkh 10 37 rfl aa ?_ (Or.inl ⟨by rfl,by intro w hSw;have hm:=Hbk.out;go_simp;with_reducible rfl⟩)
 try go_frame
 refine tkq 11 38 aa ?_
 try go_frame
 refine tkq 12 39 aa ?_
 try go_frame
 refine tkq 13 40 aa ?_
 try go_frame
 refine tkh 14 41 rfl aa ?_ (Or.inl ⟨by rfl,by intro w hSw;obtain ⟨hs4,hs8,hs3,hs7,hsx⟩:=hSw;go_simp;with_reducible rfl⟩)
 try go_frame
 refine tkh 15 42 rfl aa ?_ (Or.inl ⟨by rfl,by intro w hSw;have hm:=Hat.out;go_simp;with_reducible rfl⟩)
 try go_frame
 refine tkq 16 43 aa ?_
 try go_frame
 refine tkq 17 44 aa ?_
 try go_frame
 refine tkq 18 45 aa ?_
 try go_frame
 refine tkh 19 46 rfl aa ?_ (Or.inl ⟨by rfl,by intro w hSw;obtain ⟨hs4,hs8,hs3,hs7,hsx⟩:=hSw;go_simp;with_reducible rfl⟩)
 try go_frame
 refine tkh 20 47 rfl aa ?_ (Or.inl ⟨by rfl,by intro w hSw;have hm:=Hep.out;go_simp;with_reducible rfl⟩)
 try go_frame
 refine tkq 21 48 aa ?_
 try go_frame
 refine tkq 22 49 aa ?_
 try go_frame
 refine tkq 23 50 aa ?_
 try go_frame
 refine tkh 24 51 rfl aa ?_ (Or.inl ⟨by rfl,by intro w hSw;obtain ⟨hs4,hs8,hs3,hs7,hsx⟩:=hSw;go_simp;with_reducible rfl⟩)
 try go_frame
 refine tkq 25 52 aa ?_
 try go_frame
 refine tkq 26 53 aa ?_
 try go_frame
 refine tkq 27 54 aa ?_
 try go_frame
 refine tkh 28 55 rfl aa ?_ (Or.inl ⟨by rfl,by intro w hSw;obtain ⟨hs4,hs8,hs3,hs7,hsx⟩:=hSw;go_simp;with_reducible rfl⟩)
 try go_frame
 refine tkh 29 56 rfl aa ?_ (Or.inl ⟨by rfl,by intro w hSw;have hm:=Hat.out;go_simp;with_reducible rfl⟩)
 try go_frame
 refine tkq 30 57 aa ?_
 try go_frame
 refine tkh 31 58 rfl aa ?_ (Or.inl ⟨by rfl,by intro w hSw;obtain ⟨hs4,hs8,hs3,hs7,hsx⟩:=hSw;go_simp;with_reducible rfl⟩)
 try go_frame
 refine wpAnyH_ready (rs:=[4,32]) (by kernel_rfl) (by simp) ?_
 refine AllReadyH.cons (o:=⟨some 31,_,_,_,_,_⟩) rfl (fun K hK=>?_) ?_
 ·skip
  have cL:=HSc.out.2
  go_simp
  refine hK.out _ _ (HSc.out.1) (fun aa=>?_)
  clear hK K
  try go_frame
  clear cL
  refine rdq 32 59 fun K hK=>?_
  go_simp
  go_at_call 44
  refine(HPl.out wd HRs.out).mono ?_
  rintro e gN ⟨rfl,hR,hc⟩
  have hlt:=HFl.out _ _ _ _ HRs.out
  replace HSc:=ae (HMv.out _ _ (hc.block P hlt.1 fun _ e=>HPF.out P (.inl rfl) e) (hc.block lb hlt.2 fun _ e=>HPF.out lb (.inr rfl) e) HSc.out)
  replace HCc:=ae (HCc.out.then (hc.mono fun k _ _ e=>e.elim Or.inr fun e=>Or.inl (e ▸ Hwb.out)))
  replace HRs:=ae hR
  clear hR hc hlt
  refine hK.out _ _ (HSc.out.1) (fun aa=>?_)
  clear hK K
  try go_frame
  refine rdq 33 60 fun K hK=>?_
  go_simp
  have hb:Below gN.heap.size gN (gN.alloc (.cells #[.string st] 9)):=Joins.below_alloc1 _ _
  obtain ⟨gl,Hgl⟩:∃ g,Hid (g=gN.heap.size):=⟨_,rfl⟩
  have HLc:Hid ((gN.alloc (.cells #[.string st] 9)).cell? ⟨gN.heap.size,0,none⟩=some (.string st)):=(Row.new gN 9 [.string st]).cell 0
  have hlt:=HFl.out _ _ _ _ HRs.out
  replace HSc:=ae (HMv.out _ _ (hb.block P hlt.1) (hb.block lb hlt.2) HSc.out)
  replace HRs:=ae (HRs.out.stay hb)
  replace HCc:=ae (HCc.out.then (Chg.below hb _))
  clear hlt
  refine hK.out _ _ (HSc.out.1) (fun aa=>?_)
  clear hK K
  try go_frame
  clear hb
  generalize (gN.alloc (.cells #[.string st] 9))=pj at *
  rw[← Hgl.out] at HLc ⊢
  clear Hgl
  try go_frame
  refine rdq 34 61 fun K hK=>?_
  have hlt:=HFl.out _ _ _ _ HRs.out
  refine dm rfl (.tmp 31) (.tmp 60) 58 rfl 0 9 Tryz.underlying58 aQ rfl (by decide) (.slice An nn kn) (s1.next.map VS) rfl (HRs.out.tS HL1.out HSc.out.2) gl 0 1 (.string st) rfl HLc.out rfl HLn.out (Nat.zero_le _) ?_
  intro v' u6 hown _ hv hch
  obtain ⟨Av,nv,kv,rfl⟩:=ay hown
  rw[← VSt.out] at hown
  obtain ⟨hR,c9',f9',hc2⟩:=HRs.out.yf HL1.out HSc.out.2 hown hch (hv.imp id fun h=>⟨_,h,Nat.le_refl _⟩)
  have HE:=ae (HF.out pj _ _ _ _ _ HCc.out hR (fun k hk=>hk.imp id fun h=>h.1) hc2)
  have hs1:=(HMv.out _ _ (hch.block P hlt.1 fun _ e=>(Hnv.out P e).1 rfl) (hch.block lb hlt.2 fun _ e=>(Hnv.out lb e).2 rfl) HSc.out).1
  have HSe:=ae (HSt.out _ (.slice Av nv kv) hs1)
  clear hown hv hch hR hc2 hlt HLc HRs HCc HSc
  refine hK.out _ _ (hs1) (fun aa=>?_)
  clear hK K
  try go_frame
  clear hs1
  refine tkq 35 62 aa ?_
  try go_frame
  refine tkq 36 63 aa ?_
  try go_frame
  refine rdn 37 fun K hK=>?_
  go_simp
  refine hK.out _ _ (HSe.out) (fun aa=>?_)
  clear hK K
  try go_frame
  clear c9' f9' HSe
  refine wpAnyH_done (by kernel_rfl) ?_ _
  clear aa
  go_wp2
  go_ret2
  exact⟨rfl,HE.out⟩
 refine AllReadyH.cons (o:=⟨some 59,_,_,_,_,_⟩) rfl (fun K hK=>?_) ?_
 ·skip
  go_simp
  go_at_call 44
  refine(HPl.out wd HRs.out).mono ?_
  rintro e gN ⟨rfl,hR,hc⟩
  have hlt:=HFl.out _ _ _ _ HRs.out
  replace HSc:=ae (HMv.out _ _ (hc.block P hlt.1 fun _ e=>HPF.out P (.inl rfl) e) (hc.block lb hlt.2 fun _ e=>HPF.out lb (.inr rfl) e) HSc.out)
  replace HCc:=ae (HCc.out.then (hc.mono fun k _ _ e=>e.elim Or.inr fun e=>Or.inl (e ▸ Hwb.out)))
  replace HRs:=ae hR
  clear hR hc hlt
  refine hK.out _ _ (HSc.out.1) (fun aa=>?_)
  clear hK K
  try go_frame
  refine wpAnyH_ready (rs:=[4,33]) (by kernel_rfl) (by simp) ?_
  refine AllReadyH.cons (o:=⟨some 31,_,_,_,_,_⟩) rfl (fun K hK=>?_) ?_
  ·skip
   have cL:=HSc.out.2
   go_simp
   refine hK.out _ _ (HSc.out.1) (fun aa=>?_)
   clear hK K
   try go_frame
   clear cL
   refine rdq 33 60 fun K hK=>?_
   go_simp
   have hb:Below gN.heap.size gN (gN.alloc (.cells #[.string st] 9)):=Joins.below_alloc1 _ _
   obtain ⟨gl,Hgl⟩:∃ g,Hid (g=gN.heap.size):=⟨_,rfl⟩
   have HLc:Hid ((gN.alloc (.cells #[.string st] 9)).cell? ⟨gN.heap.size,0,none⟩=some (.string st)):=(Row.new gN 9 [.string st]).cell 0
   have hlt:=HFl.out _ _ _ _ HRs.out
   replace HSc:=ae (HMv.out _ _ (hb.block P hlt.1) (hb.block lb hlt.2) HSc.out)
   replace HRs:=ae (HRs.out.stay hb)
   replace HCc:=ae (HCc.out.then (Chg.below hb _))
   clear hlt
   refine hK.out _ _ (HSc.out.1) (fun aa=>?_)
   clear hK K
   try go_frame
   clear hb
   generalize (gN.alloc (.cells #[.string st] 9))=pj at *
   rw[← Hgl.out] at HLc ⊢
   clear Hgl
   try go_frame
   refine rdq 34 61 fun K hK=>?_
   have hlt:=HFl.out _ _ _ _ HRs.out
   refine dm rfl (.tmp 31) (.tmp 60) 58 rfl 0 9 Tryz.underlying58 aQ rfl (by decide) (.slice An nn kn) (s1.next.map VS) rfl (HRs.out.tS HL1.out HSc.out.2) gl 0 1 (.string st) rfl HLc.out rfl HLn.out (Nat.zero_le _) ?_
   intro v' u6 hown _ hv hch
   obtain ⟨Av,nv,kv,rfl⟩:=ay hown
   rw[← VSt.out] at hown
   obtain ⟨hR,c9',f9',hc2⟩:=HRs.out.yf HL1.out HSc.out.2 hown hch (hv.imp id fun h=>⟨_,h,Nat.le_refl _⟩)
   have HE:=ae (HF.out pj _ _ _ _ _ HCc.out hR (fun k hk=>hk.imp id fun h=>h.1) hc2)
   have hs1:=(HMv.out _ _ (hch.block P hlt.1 fun _ e=>(Hnv.out P e).1 rfl) (hch.block lb hlt.2 fun _ e=>(Hnv.out lb e).2 rfl) HSc.out).1
   have HSe:=ae (HSt.out _ (.slice Av nv kv) hs1)
   clear hown hv hch hR hc2 hlt HLc HRs HCc HSc
   refine hK.out _ _ (hs1) (fun aa=>?_)
   clear hK K
   try go_frame
   clear hs1
   refine tkq 35 62 aa ?_
   try go_frame
   refine tkq 36 63 aa ?_
   try go_frame
   refine rdn 37 fun K hK=>?_
   go_simp
   refine hK.out _ _ (HSe.out) (fun aa=>?_)
   clear hK K
   try go_frame
   clear c9' f9' HSe
   refine wpAnyH_done (by kernel_rfl) ?_ _
   clear aa
   go_wp2
   go_ret2
   exact⟨rfl,HE.out⟩
  refine AllReadyH.cons (o:=⟨some 60,_,_,_,_,_⟩) rfl (fun K hK=>?_) ?_
  ·skip
   go_simp
   have hb:Below gN.heap.size gN (gN.alloc (.cells #[.string st] 9)):=Joins.below_alloc1 _ _
   obtain ⟨gl,Hgl⟩:∃ g,Hid (g=gN.heap.size):=⟨_,rfl⟩
   have HLc:Hid ((gN.alloc (.cells #[.string st] 9)).cell? ⟨gN.heap.size,0,none⟩=some (.string st)):=(Row.new gN 9 [.string st]).cell 0
   have hlt:=HFl.out _ _ _ _ HRs.out
   replace HSc:=ae (HMv.out _ _ (hb.block P hlt.1) (hb.block lb hlt.2) HSc.out)
   replace HRs:=ae (HRs.out.stay hb)
   replace HCc:=ae (HCc.out.then (Chg.below hb _))
   clear hlt
   refine hK.out _ _ (HSc.out.1) (fun aa=>?_)
   clear hK K
   try go_frame
   clear hb
   generalize (gN.alloc (.cells #[.string st] 9))=pj at *
   rw[← Hgl.out] at HLc ⊢
   clear Hgl
   try go_frame
   refine rdq 4 31 fun K hK=>?_
   have cL:=HSc.out.2
   go_simp
   refine hK.out _ _ (HSc.out.1) (fun aa=>?_)
   clear hK K
   try go_frame
   clear cL
   refine rdq 34 61 fun K hK=>?_
   have hlt:=HFl.out _ _ _ _ HRs.out
   refine dm rfl (.tmp 31) (.tmp 60) 58 rfl 0 9 Tryz.underlying58 aQ rfl (by decide) (.slice An nn kn) (s1.next.map VS) rfl (HRs.out.tS HL1.out HSc.out.2) gl 0 1 (.string st) rfl HLc.out rfl HLn.out (Nat.zero_le _) ?_
   intro v' u6 hown _ hv hch
   obtain ⟨Av,nv,kv,rfl⟩:=ay hown
   rw[← VSt.out] at hown
   obtain ⟨hR,c9',f9',hc2⟩:=HRs.out.yf HL1.out HSc.out.2 hown hch (hv.imp id fun h=>⟨_,h,Nat.le_refl _⟩)
   have HE:=ae (HF.out pj _ _ _ _ _ HCc.out hR (fun k hk=>hk.imp id fun h=>h.1) hc2)
   have hs1:=(HMv.out _ _ (hch.block P hlt.1 fun _ e=>(Hnv.out P e).1 rfl) (hch.block lb hlt.2 fun _ e=>(Hnv.out lb e).2 rfl) HSc.out).1
   have HSe:=ae (HSt.out _ (.slice Av nv kv) hs1)
   clear hown hv hch hR hc2 hlt HLc HRs HCc HSc
   refine hK.out _ _ (hs1) (fun aa=>?_)
   clear hK K
   try go_frame
   clear hs1
   refine tkq 35 62 aa ?_
   try go_frame
   refine tkq 36 63 aa ?_
   try go_frame
   refine rdn 37 fun K hK=>?_
   go_simp
   refine hK.out _ _ (HSe.out) (fun aa=>?_)
   clear hK K
   try go_frame
   clear c9' f9' HSe
   refine wpAnyH_done (by kernel_rfl) ?_ _
   clear aa
   go_wp2
   go_ret2
   exact⟨rfl,HE.out⟩
  exact AllReadyH.nil
 exact AllReadyH.nil
end
end Go.Proofs.YthbmknpbcgnabaaGreatDoor
