/- Of the walk. -/
import Derived.Test.YthbmknpbcgnabaaGreatDoorB41
import Derived.Test.YthbmknpbcgnabaaGreatDoorB43
import Derived.Test.YthbmknpbcgnabaaGreatDoorB44
import Derived.Test.YthbmknpbcgnabaaGreatDoorB45
set_option maxHeartbeats 40000000
namespace Go.Proofs.YthbmknpbcgnabaaGreatDoor
open Go.RowKit Aes Ctr Sl Dsk
section
variable {w:World} {F G K:Nat→Prop} {P M kp wb:Nat} {ek mk:List UInt8} {s:Bk.Bn} {D:List Blk} {ws:List (List UInt8)}
set_option maxRecDepth 100000
theorem uG (h:RB w F G K P M kp wb ek mk s D ws) (hL:s.L≠[]) (ha:s.at_=s.n) :
  Calls Tryz.prog 20 #[PT P] w fun e w'=>e=.returned (.tuple #[.bool false,.int .i64 0])∧gX w F G K w' P M kp wb ek mk { s with at_:=s.at_+1 } (Bk.flush D) ws:=by
 obtain ⟨lb,lo,lc,nv,c2,c3,c4,c8,c9,⟨An,nn,kn,rfl⟩,c7,hlb,Ie,hlx⟩:=h.rQ hL
 have hR1:=h.Ao hL (Nat.le_of_eq ha)
 have hc1:Chg (fun k _=>F k) w (w.setCell ⟨P,8,none⟩ (IV (s.at_+1))):=(h.fJ 8 (by omega) _).mono fun k _ _ e=>e ▸ h.inF.1
 have f8:w.frozen? ⟨P,8,none⟩=false:=by obtain ⟨tv,lv,a,nv,wc,al,hh,_⟩:=h.head;exact hh.bJ (j:=8) (by exact(by omega:8<12))
 have c0:w.cell? ⟨P,0,none⟩=some (PT M):=by obtain ⟨tv,lv,a,nv,wc,al,hh,_⟩:=h.head;exact hh.head (j:=0) rfl
 have eU:=h.nums.1
 have hl0:0<s.L.length:=List.length_pos_iff.2 hL
 have HE:Hid (∀ X w',Below (w.setCell ⟨P,8,none⟩ (IV (s.at_+1))).heap.size (w.setCell ⟨P,8,none⟩ (IV (s.at_+1))) X→aO X G w' M (cV (fun _=>true) D)→gX w F G K w' P M kp wb ek mk { s with at_:=s.at_+1 } (Bk.flush D) ws):=fun X w' hb hd =>
  ⟨F,(hR1.stay hb).tO hd,fun k hk=>.inl hk,((hc1.mono fun k _ _ hk=>Or.inl hk).then (Chg.below hb _)).then (hd.2.mono fun k _ _ hk=>Or.inr hk)⟩
 have HCr:Hid (∀ X,Below (w.setCell ⟨P,8,none⟩ (IV (s.at_+1))).heap.size (w.setCell ⟨P,8,none⟩ (IV (s.at_+1))) X→Calls Tryz.prog 45 #[PT M,.slice none 0 0,.bool true] X fun e w'=>e=.returned (.tuple #[])∧aO X G w' M (cV (fun _=>true) D)):=fun X hb =>
  kN (hR1.stay hb).dN true none 0 0 [] rfl (Or.inl ⟨none,rfl,rfl⟩) (fun _ _ h _=>by cases h)
 generalize s.L.length=ll at *
 generalize Bk.flush D=D' at *
 generalize ({ s with at_:=s.at_+1 }:Bk.Bn)=s1 at *
 generalize s.n=n at *
 generalize s.at_=at0 at *
 rw[show IV (at0+1)=.int .i64 ((at0:Int)+1) from by simp] at HE HCr
 subst ha
 obtain ⟨w1,hw1⟩:∃ W,W=w.setCell ⟨P,8,none⟩ (.int .i64 ((at0:Int)+1)):=⟨_,rfl⟩
 rw[← hw1] at HE HCr
 clear hR1 hc1 hlx hlb Ie c9 c3 c4 h hL
 go_enter Tryz.func20,Tryz.ntmps20
 go_wp2_with fail
 go_quiet (fail)
 go_wp2
 go_quiet (fail)
 go_wp2_with fail
 rw[← hw1]
 refine(HCr.out _ (below_drewN (Below.refl _ _) _)).mono ?_
 rintro e w3 ⟨rfl,hR3⟩
 have HR3:=ae (HE.out _ _ (below_drewN (Below.refl _ _) _) hR3)
 clear hR3 HE HCr hw1 c0 c2 c7 c8 f8
 go_wp2
 go_ret2
 exact⟨rfl,HR3.out⟩
theorem wO (h:RB w F G K P M kp wb ek mk s D ws) (hL:s.L≠[]) (ha:s.at_=s.n+1) (h32:∀ t∈s.next,t.length=32) (hnl:s.next.length=s.n) (hep:s.ep≤1000000) :
  Calls Tryz.prog 20 #[PT P] w fun e w'=>e=.returned (.tuple #[.bool true,.int .i64 0])∧gX w F G K w' P M kp wb ek mk ⟨s.n,s.ep+1,1 - s.af,Bk.b7 mk s.next,s.next,[],0,[]⟩ D ws:=by
 have hhd:=h.head
 obtain ⟨tv,lv,a,nv,wc,al,hh,ht,hlv,hn⟩:=hhd
 obtain ⟨rfl,hno,hnb⟩:=hn hL
 obtain ⟨A7,c7v,rfl⟩:=hlv.form
 obtain ⟨An,nn,kn,rfl⟩:=ay hno
 have c0:w.cell? ⟨P,1,none⟩=some (PT kp):=hh.head (j:=1) rfl
 have c2:w.cell? ⟨P,2,none⟩=some (IV s.n):=hh.head (j:=2) rfl
 have c3:w.cell? ⟨P,3,none⟩=some (.int .u64 (s.ep:Int)):=hh.head (j:=3) rfl
 have c4:w.cell? ⟨P,4,none⟩=some (IV s.af):=hh.head (j:=4) rfl
 have c5:w.cell? ⟨P,5,none⟩=some (VS s.root):=hh.head (j:=5) rfl
 have c6:w.cell? ⟨P,6,none⟩=some tv:=hh.head (j:=6) rfl
 have c7:w.cell? ⟨P,7,none⟩=some (.slice A7 s.L.length c7v):=hh.head (j:=7) rfl
 have c8:w.cell? ⟨P,8,none⟩=some (IV s.at_):=hh.head (j:=8) rfl
 have c9:w.cell? ⟨P,9,none⟩=some (.slice An nn kn):=hh.head (j:=9) rfl
 have f3:w.frozen? ⟨P,3,none⟩=false:=hh.bJ (j:=3) (by exact(by omega:3<12))
 have f4:w.frozen? ⟨P,4,none⟩=false:=hh.bJ (j:=4) (by exact(by omega:4<12))
 have f6:w.frozen? ⟨P,6,none⟩=false:=hh.bJ (j:=6) (by exact(by omega:6<12))
 have f8:w.frozen? ⟨P,8,none⟩=false:=hh.bJ (j:=8) (by exact(by omega:8<12))
 have hb1:=h.nums.2.1
 have eU:=h.nums.1
 have hl0:0<s.L.length:=List.length_pos_iff.2 hL
 have Hep:IntKind.u64.wrap ((s.ep:Int)+1)=(s.ep:Int)+1:=by show (_:Int) % _=_;rw[Int.emod_eq_of_lt (by omega) (by show (_:Int)<18446744073709551616;omega)]
 have Hbk:IntKind.i64.wrap (1 - (s.af:Int))=((1 - s.af:Nat):Int):=by rw[IntWalk.i64_in _ (by omega)];omega
 obtain ⟨B1,H1,C1⟩:=h.base.put hh 8 (by exact(by omega:8<12)) (.int .i64 ((s.at_:Int)+1))
 obtain ⟨w0,hw0⟩:∃ W,W=w.setCell ⟨P,8,none⟩ (.int .i64 ((s.at_:Int)+1)):=⟨_,rfl⟩
 rw[← hw0] at B1 H1 C1
 have hdr:∀ q,Below w0.heap.size w0 (w0.drewN q):=fun q=>below_drewN (Below.refl _ _) q
 have HX:Hid (∀ q,gH (((((w0.drewN q).setCell ⟨P,3,none⟩ (.int .u64 ((s.ep:Int)+1))).setCell ⟨P,4,none⟩ (IV (1 - s.af))).setCell ⟨P,6,none⟩ (.slice An nn kn))) F G K P M kp wb ek mk s.n D ws
   ∧ aj (((((w0.drewN q).setCell ⟨P,3,none⟩ (.int .u64 ((s.ep:Int)+1))).setCell ⟨P,4,none⟩ (IV (1 - s.af))).setCell ⟨P,6,none⟩ (.slice An nn kn))) P 0 (cU M kp s.n (s.ep+1) (1 - s.af) s.root (.slice An nn kn) (.slice A7 s.L.length c7v) (s.at_+1) (.slice An nn kn) wb wc al)
   ∧ Chg (fun k _=>k=P) w (((((w0.drewN q).setCell ⟨P,3,none⟩ (.int .u64 ((s.ep:Int)+1))).setCell ⟨P,4,none⟩ (IV (1 - s.af))).setCell ⟨P,6,none⟩ (.slice An nn kn)))):=fun q=>by
  obtain ⟨B2,H2,C2⟩:=(B1.stay (hdr q)).put (H1.stay (hdr q)) 3 (by simp [cU]) (.int .u64 ((s.ep:Int)+1))
  obtain ⟨B3,H3,C3⟩:=B2.put H2 4 (by simp [cU]) (IV (1 - s.af))
  obtain ⟨B4,H4,C4⟩:=B3.put H3 6 (by simp [cU]) (.slice An nn kn)
  refine⟨B4,?_,(((C1.then (Chg.below (hdr q) _)).then C2).then C3).then C4⟩
  have e:((((cU M kp s.n s.ep s.af s.root tv (.slice A7 s.L.length c7v) s.at_ (.slice An nn kn) wb wc al).set 8 (.int .i64 ((s.at_:Int)+1))).set 3 (.int .u64 ((s.ep:Int)+1))).set 4 (IV (1 - s.af))).set 6 (.slice An nn kn)=cU M kp s.n (s.ep+1) (1 - s.af) s.root (.slice An nn kn) (.slice A7 s.L.length c7v) (s.at_+1) (.slice An nn kn) wb wc al:=by simp [cU]
  rw[e] at H4
  exact H4
 have HF:Hid (F P∧∀ k,(Value.slice An nn kn).ownBlock=some k→F k∧k≠P∧k≠wb):=⟨h.inF.1,hnb⟩
 have HO:Hid (∀ X,Chg (fun k _=>k=P) w X→Own X 0 9 (.slice An nn kn) (s.next.map VS)):=fun X hX=>ij hno hX fun k hk _ e=>(hnb k hk).2.1 e
 have HKe:∃ pm,(∀ X,Chg (fun k _=>k=P) w X→X.cell? ⟨kp,3,none⟩=some (PT pm))∧∀ W,Chg (fun k _=>k=P) w W→Calls Tryz.prog 46 #[PT pm,.slice An nn kn] W fun e w'=>e=.returned (VS (Bk.b7 mk s.next))∧Below W.heap.size W w':=by
  obtain ⟨pm,hc,hk,hkp⟩:=h.key.pm
  have nP:∀ k,K k→k≠P:=fun k hk e=>(h.apart.1 P h.inF.1).2 (e ▸ hk)
  exact⟨pm,fun X hX=>(World.cell?_of_block (hX.block kp (h.lt.2 kp hkp) fun _ e=>nP kp hkp e)).trans hc,fun W hW=>AK (PT pm) mk s.next h32 (by omega) _ W (hk.chg hW fun k _ hkk e=>nP k hkk e).at (HO.out W hW).from_⟩
 obtain ⟨pm,hkp,hrt⟩:=HKe
 have HKp:=ae hkp
 clear B1 H1 C1 hno hn hkp hdr
 have HN:=ae hnl
 have H32:=ae h32
 have HL0:=ae h
 generalize s.L.length=ll at *
 generalize hxn:s.n=n at *
 generalize hxe:s.ep=ep at *
 generalize hxb:s.af=af at *
 generalize hxa:s.at_=at0 at *
 obtain ⟨nb,NB⟩:∃ b,b=1 - af:=⟨_,rfl⟩
 rw[← NB] at Hbk HX ⊢
 obtain ⟨rt,vU⟩:∃ r,r=Bk.b7 mk s.next:=⟨_,rfl⟩
 rw[← vU] at hrt ⊢
 obtain ⟨srt,ua⟩:∃ x,x=aw rt:=⟨_,rfl⟩
 have xe:Hid (VS rt=.string srt):=by show VS rt=_;rw[VS,← ua]
 rw[xe.out] at hrt
 have HRt:=ae hrt
 generalize s.next=nx at *
 have ha1:n<at0:=by omega
 have ha2:at0≤200:=by omega
 have Rq:nb≤1:=by omega
 clear ha
 clear h hL h32 hnl ht hlv hh hnb NB hxn hxe hxb hxa HL0 hrt vU ua H32 HN
 go_enter Tryz.func20,Tryz.ntmps20
 go_wp2_with fail
 go_quiet (fail)
 rename Nat=>q1
 go_wp2
 go_quiet (fail)
 go_wp2_with fail
 rw[← hw0]
 obtain ⟨hBq,hHq,hCq⟩:=HX.out (q1+nq)
 clear hw0 c0 c2 c3 c4 c5 c6 c7 c8 c9 f3 f4 f6 f8 HX Hep Hbk
 generalize (((((w0.drewN (q1+nq)).setCell ⟨P,3,none⟩ (.int .u64 ((ep:Int)+1))).setCell ⟨P,4,none⟩ (IV nb)).setCell ⟨P,6,none⟩ (.slice An nn kn)))=w4 at *
 have hC:Chg (fun k _=>k=P) w w4.drew:=hCq.drew
 have HB:=ae (hBq.stay (below_drewN (Below.refl _ _) 1))
 have HH:Hid (aj w4.drew P 0 (cU M kp n (ep+1) nb s.root (.slice An nn kn) (.slice A7 ll c7v) (at0+1) (.slice An nn kn) wb wc al)):=hHq
 replace HB:Hid (gH w4.drew F G K P M kp wb ek mk n D ws):=HB.out
 clear hBq hHq hCq
 refine wp_region_held_drew (S:=(fun X=>X.cell? ⟨P,1,none⟩=some (PT kp)∧X.cell? ⟨kp,3,none⟩=some (PT pm)∧X.cell? ⟨P,6,none⟩=some (.slice An nn kn))) (by kernel_rfl) ⟨HH.out.head (j:=1) rfl,HKp.out _ hC,HH.out.head (j:=6) rfl⟩ (fun aa=>?_)
 generalize w4.drew=w4d at *
 refine tkq 0 102 aa ?_
 try go_frame
 refine tkq 1 103 aa ?_
 try go_frame
 refine tkq 2 104 aa ?_
 try go_frame
 refine tkq 3 105 aa ?_
 try go_frame
 refine tkh 4 106 rfl aa ?_ (Or.inl ⟨by rfl,by intro w hSw;obtain ⟨hs1,hs3,hs6⟩:=hSw;go_simp;with_reducible rfl⟩)
 try go_frame
 refine tkq 5 107 aa ?_
 try go_frame
 refine tkq 6 108 aa ?_
 try go_frame
 refine tkh 7 109 rfl aa ?_ (Or.inl ⟨by rfl,by intro w hSw;obtain ⟨hs1,hs3,hs6⟩:=hSw;go_simp;with_reducible rfl⟩)
 try go_frame
 refine tkq 8 110 aa ?_
 try go_frame
 refine tkq 9 111 aa ?_
 try go_frame
 refine tkq 10 112 aa ?_
 try go_frame
 refine tkh 11 113 rfl aa ?_ (Or.inl ⟨by rfl,by intro w hSw;obtain ⟨hs1,hs3,hs6⟩:=hSw;go_simp;with_reducible rfl⟩)
 try go_frame
 refine rdq 12 114 fun K hK=>?_
 go_simp
 go_at_call 46
 refine(HRt.out w4d hC).mono ?_
 rintro e L9 ⟨rfl,hb⟩
 replace HB:=ae (HB.out.stay hb)
 replace HH:=ae (HH.out.stay hb)
 replace hC:=hC.then (Chg.below hb _)
 clear hb
 refine hK.out _ _ (⟨HH.out.head (j:=1) rfl,HKp.out _ hC,HH.out.head (j:=6) rfl⟩) (fun aa=>?_)
 clear hK K
 try go_frame
 refine tkq 13 115 aa ?_
 try go_frame
 refine tkq 14 116 aa ?_
 try go_frame
 refine rdn 15 fun K hK=>?_
 have c5:=HH.out.head (j:=5) rfl
 have f5:=HH.out.bJ (j:=5) (by exact(by omega:5<12))
 obtain ⟨hB,hH,hc⟩:=HB.out.put HH.out 5 (by exact(by omega:5<12)) (.string srt)
 replace hC:=hC.then hc
 replace HB:=ae hB
 replace HH:=ae hH
 clear hB hH hc
 go_simp
 refine hK.out _ _ (⟨HH.out.head (j:=1) rfl,HKp.out _ hC,HH.out.head (j:=6) rfl⟩) (fun aa=>?_)
 clear hK K
 try go_frame
 clear c5 f5
 refine wpAnyH_done (by kernel_rfl) ?_ _
 clear aa
 generalize L9.setCell ⟨P,5,none⟩ (.string srt)=w6 at *
 have c7:=HH.out.head (j:=7) rfl
 have f7:=HH.out.bJ (j:=7) (by exact(by omega:7<12))
 obtain ⟨hB,hH,hc⟩:=HB.out.put HH.out 7 (by exact(by omega:7<12)) (.slice none 0 0)
 have hO:=HO.out _ (hC.then hc)
 have HE:Hid (gX w F G K (w6.setCell ⟨P,7,none⟩ (.slice none 0 0)) P M kp wb ek mk ⟨n,ep+1,nb,rt,nx,[],0,[]⟩ D ws):=by
  refine⟨F,⟨hB.dN,hB.key,hB.lg,hB.inF,hB.lt,hB.apart,hB.wrote,⟨eU,by show nb≤1;omega,Nat.zero_le _⟩,.slice An nn kn,.slice none 0 0,at0+1,.slice An nn kn,wc,al,?_,hO.xK fun k hk=>⟨(HF.out.2 k hk).1,(HF.out.2 k hk).2.1,(HF.out.2 k hk).2.2,fun e=>absurd rfl e⟩,.inl ⟨none,0,rfl,rfl⟩,fun e=>absurd rfl e⟩,fun k hk=>.inl hk,(hC.then hc).mono fun k _ _ e=>.inl (e ▸ HF.out.1)⟩
  show aj _ P 0 (cU M kp n (ep+1) nb rt (.slice An nn kn) (.slice none 0 0) (at0+1) (.slice An nn kn) wb wc al)
  have e:((cU M kp n (ep+1) nb s.root (.slice An nn kn) (.slice A7 ll c7v) (at0+1) (.slice An nn kn) wb wc al).set 5 (.string srt)).set 7 (.slice none 0 0)=cU M kp n (ep+1) nb rt (.slice An nn kn) (.slice none 0 0) (at0+1) (.slice An nn kn) wb wc al:=by rw[← xe.out];rfl
  rw[e] at hH
  exact hH
 clear hB hH hc hO HB HH HO HRt HKp hC
 go_wp2
 go_ret2
 exact⟨rfl,HE.out⟩
set_option maxRecDepth 512
theorem RB.same (h:RB w F G K P M kp wb ek mk s D ws):gX w F G K w P M kp wb ek mk s D ws:=⟨F,h,fun _ hk=>.inl hk,Chg.refl _ _⟩
theorem yZ (h:RB w F G K P M kp wb ek mk s D ws) (ho:Bk.Ok s.n s D) (hep:s.ep≤1000000) :
  Calls Tryz.prog 20 #[PT P] w fun e w'=>e=.returned (.tuple #[.bool (Bk.step ek mk s D).2.1,.int .i64 ((Bk.step ek mk s D).2.2:Int)])∧gX w F G K w' P M kp wb ek mk (Bk.step ek mk s D).1.1 (Bk.step ek mk s D).1.2 (Bk.pH ek s ws):=by
 have hn:=h.nums.1
 unfold Bk.step Bk.pH
 by_cases hL:s.L=[]
 ·rw[if_pos hL,if_pos hL]
  refine(wP h hL).mono ?_
  rintro e w' ⟨rfl,rfl⟩
  exact⟨rfl,h.same⟩
 ·rw[if_neg hL,if_neg hL]
  obtain ⟨b1,b2,b3,b4,b5⟩:=ho.busy hL
  by_cases ha:s.at_<s.n
  ·rw[if_pos ha,if_pos ha]
   exact yY h hL b1 b2 ha (by rw[b4];omega) hep
  ·rw[if_neg ha,if_neg ha]
   by_cases ha2:s.at_=s.n
   ·rw[if_pos ha2]
    exact uG h hL ha2
   ·rw[if_neg ha2]
    exact wO h hL (by omega) b5 (by rw[b4];omega) hep
end
theorem xL (l:List UInt8):(aw l).size=l.length:=by unfold aw;simp [ByteArray.size]
set_option maxRecDepth 100000
theorem uJ {w:World} {F G K:Nat→Prop} {P M kp wb:Nat} {ek mk:List UInt8} {s:Bk.Bn} {D:List Blk} {ws:List (List UInt8)} {A:Option Addr} {m c:Nat}
  (h:RB w F G K P M kp wb ek mk s D ws) (hL:s.L≠[]) :
  Calls Tryz.prog 17 #[PT P,.slice A m c] w fun e w'=>e=.returned (.int .i64 12)∧w'=w:=by
 obtain ⟨tv,lv,a,nv,wc,al,hh,ht,hlv,hn⟩:=h.head
 obtain ⟨A7,c7,rfl⟩:=hlv.form
 have e7:w.cell? ⟨P,7,none⟩=some (.slice A7 s.L.length c7):=hh.head (j:=7) rfl
 have hp:0<s.L.length:=List.length_pos_iff.2 hL
 obtain ⟨q,hq⟩:∃ q,q=s.L.length:=⟨_,rfl⟩
 rw[← hq] at e7 hp
 clear hh ht hlv hn hq hL h
 go_enter Tryz.func17,Tryz.ntmps17
 go_wp2_with fail
 go_ret
 exact⟨rfl,rfl⟩
theorem uI {w:World} {F G K:Nat→Prop} {P M kp wb:Nat} {ek mk:List UInt8} {s:Bk.Bn} {D:List Blk} {ws:List (List UInt8)} {A:Option Addr} {m c:Nat} {l:List (List UInt8)}
  (h:RB w F G K P M kp wb ek mk s D ws) (hL:s.L=[]) (hl:bq w (.slice A m c) (l.map VS)) (hm:l.length=m) (hm2:m≤1000) :
  Calls Tryz.prog 17 #[PT P,.slice A m c] w fun e w' =>
   (¬ ((∀ x∈l,x.length=64)∧l.length=s.n)∧e=.returned (.int .i64 1)∧w'=w) ∨
   (((∀ x∈l,x.length=64)∧l.length=s.n)∧e=.returned (.int .i64 0)∧∃ v' w5,Own w5 w.heap.size 9 v' (l.map VS)∧Below w.heap.size w w5∧w'=((w5.setCell ⟨P,7,none⟩ v').setCell ⟨P,8,none⟩ (.int .i64 0)).setCell ⟨P,9,none⟩ (.slice none 0 0)):=by
 obtain ⟨tv,lv,a,nv,wc,al,hh,ht,hlv,hn⟩:=h.head
 obtain ⟨A7,c7,rfl⟩:=hlv.form
 have e7:w.cell? ⟨P,7,none⟩=some (.slice A7 0 c7):=by have:w.cell? ⟨P,7,none⟩=some (.slice A7 s.L.length c7):=hh.head (j:=7) rfl;rw[this,hL];rfl
 have e2:w.cell? ⟨P,2,none⟩=some (IV s.n):=hh.head (j:=2) rfl
 have HN:Hid (s.n≤100):=h.nums.1
 have HA:Hid (∀ i,i<m→∃ b o,A=some ⟨b,o,none⟩∧w.cell? ⟨b,o+i,none⟩=some (.string (aw (l.getD i [])))∧(aw (l.getD i [])).size=(l.getD i []).length):=fun i hi=>by
  rcases hl with ⟨A',e,e3⟩ | ⟨b,o,c',e,hb,hs⟩
  ·simp at e3;subst e3;simp at hm;omega
  ·injection e with e1 _ _
   refine⟨b,o,e1,hs i _ ?_,xL _⟩
   rw[List.getElem?_map,List.getElem?_eq_getElem (by omega),List.getD_eq_getElem?_getD,List.getElem?_eq_getElem (by omega)]
   rfl
 have HM:=ae hm
 have HL:=ae hl
 have HFr:Hid (∀ o,o<12→w.frozen? ⟨P,o,none⟩=false):=fun o ho=>hh.bJ (by exact ho)
 have HC:Hid (∀ o v,(cU M kp s.n s.ep s.af s.root tv (.slice A7 s.L.length c7) a nv wb wc al)[o]? = some v→w.cell? ⟨P,o,none⟩=some v):=fun o v ho=>hh.head ho
 have HPl:Hid (P<w.heap.size):=h.lt.1 P h.inF.1
 have HH:=ae hh
 generalize s.n=n at *
 clear hh ht hlv hn hL h hl hm
 go_enter Tryz.func17,Tryz.ntmps17
 go_wp2_with fail
 go_loopw [5] (fun ii wr=>∃ i:Nat,i≤m∧ii=.int .i64 i∧Hid (wr=w)∧Hid (∀ j,j<i→(l.getD j []).length=64)) (fun ii _=>m - (RowKit.intOf ii).toNat)
 case atStart=>exact⟨0,by omega,rfl,rfl,fun j hj=>by omega⟩
 case round =>
  obtain ⟨i,him,rfl,Hwr,HQ⟩:=hrel
  have hwr:=Hwr.out
  subst hwr
  clear Hwr
  by_cases hi:i<m
  ·obtain ⟨b,o,rfl,hc,hz⟩:=HA.out i hi
   by_cases h64:(l.getD i []).length=64
   ·have HQ2:Hid (∀ j,j<i+1→(l.getD j []).length=64):=fun j hj=>by
     rcases Nat.lt_succ_iff_lt_or_eq.1 hj with h | rfl
     ·exact HQ.out j h
     ·exact h64
    rw[h64] at hz
    generalize aw (l.getD i [])=sx at *
    clear h64 HQ
    go_wp2_with fail
    go_roundw
    case rel=>exact⟨i+1,by omega,by go_num,(by show True;trivial),HQ2⟩
    case measure=>simp [RowKit.intOf];omega
   ·have HX:Hid (¬ ((∀ x∈l,x.length=64)∧l.length=n)):=fun h=>h64 (h.1 _ (by rw[List.getD_eq_getElem?_getD,List.getElem?_eq_getElem (by rw[HM.out];exact hi)];exact List.getElem_mem _))
    generalize aw (l.getD i [])=sx at *
    generalize (l.getD i []).length=q at *
    clear HQ
    go_wp2_with fail
    go_ret
    exact .inl ⟨HX.out,rfl,rfl⟩
  ·obtain rfl:i=m:=by omega
   by_cases hmn:i=n
   ·have hal:(∀ x∈l,x.length=64)∧l.length=n:=⟨fun x hx=>by
     obtain ⟨j,hj,rfl⟩:=List.getElem_of_mem hx
     have:=HQ.out j (by rw[← HM.out];exact hj)
     rwa [List.getD_eq_getElem?_getD,List.getElem?_eq_getElem hj] at this,by rw[HM.out];exact hmn⟩
    have HX:=ae hal
    have HO:Hid (Own (wr.alloc (.cells #[] 9)) wr.heap.size 9 (.slice (some ⟨wr.heap.size,0,none⟩) 0 0) []):=Own.lit wr _ _ [] (Nat.le_refl _) (by decide)
    have HU:Hid (bq (wr.alloc (.cells #[] 9)) (.slice A i c) (l.map VS)):=HL.out.alloc _
    have HLn:Hid (l.length≤1000):=by show _≤_;rw[HM.out];exact hm2
    have HF3:Hid (wr.frozen? ⟨P,7,none⟩=false∧wr.frozen? ⟨P,8,none⟩=false∧wr.frozen? ⟨P,9,none⟩=false):=⟨HFr.out 7 (by omega),HFr.out 8 (by omega),HFr.out 9 (by omega)⟩
    have HC3:Hid ((∃ u,wr.cell? ⟨P,7,none⟩=some u)∧(∃ u,wr.cell? ⟨P,8,none⟩=some u)∧∃ u,wr.cell? ⟨P,9,none⟩=some u):=⟨⟨_,HC.out 7 _ rfl⟩,⟨_,HC.out 8 _ rfl⟩,⟨_,HC.out 9 _ rfl⟩⟩
    clear hal HQ HA HFr HC HM HN
    go_wp2_with (at_builtin;refine cE rfl (.tmp 32) (.tmp 33) 58 rfl wr.heap.size 9 Tryz.underlying58 aQ rfl (by decide) _ [] rfl HO.out _ (l.map VS) rfl HU.out (jd l) (by have:=HLn.out;simp;omega) (by simp) ?_;intro v5 w5 cT hg5 hv5;obtain ⟨A5,n5,k5,rfl⟩:=ay cT;have HB5:Hid (Below wr.heap.size wr w5):=au ((Below.refl _ _).alloc (Nat.le_refl _) _) HO.out hg5 (Nat.le_refl _) (by simp);have HO5:=ae cT;have cw:∀ o,w5.cell? ⟨P,o,none⟩=wr.cell? ⟨P,o,none⟩:=fun o=>World.cell?_of_block (HB5.out.block P HPl.out);have fw:∀ o,w5.frozen? ⟨P,o,none⟩=wr.frozen? ⟨P,o,none⟩:=fun o=>World.frozen?_of_block (HB5.out.block P HPl.out);obtain ⟨⟨u7,hu7⟩,⟨u8,hu8⟩,⟨u9,hu9⟩⟩:=HC3.out;obtain ⟨hf7,hf8,hf9⟩:=HF3.out;rw[← cw] at hu7 hu8 hu9;rw[← fw] at hf7 hf8 hf9;clear cT hg5 hv5 cw fw HO HU HC3 HF3)
    go_ret
    exact .inr ⟨HX.out,rfl,_,w5,HO5.out,HB5.out,rfl⟩
   ·have HX:Hid (¬ ((∀ x∈l,x.length=64)∧l.length=n)):=fun h=>hmn (HM.out.symm.trans h.2)
    go_wp2_with fail
    go_ret
    exact .inl ⟨HX.out,rfl,rfl⟩
set_option maxRecDepth 512
theorem wR {w:World} {F G K:Nat→Prop} {P M kp wb:Nat} {ek mk:List UInt8} {s:Bk.Bn} {D:List Blk} {ws:List (List UInt8)} {v:Value} {l:List (List UInt8)}
  (h:RB w F G K P M kp wb ek mk s D ws) (hl:bq w v (l.map VS)) (hm2:l.length≤1000) :
  Calls Tryz.prog 17 #[PT P,v] w fun e w'=>e=.returned (.int .i64 ((Bk.bA s l).2:Int))∧gX w F G K w' P M kp wb ek mk (Bk.bA s l).1 D ws:=by
 have same:gX w F G K w P M kp wb ek mk s D ws:=⟨F,h,fun _ hk=>.inl hk,Chg.refl _ _⟩
 obtain ⟨A,c,rfl,-⟩:=hl.parts
 rw[List.length_map] at hl ⊢
 unfold Bk.bA
 by_cases hL:s.L=[]
 ·rw[if_neg (fun e=>e hL)]
  refine(uI h hL hl rfl hm2).mono ?_
  rintro e w' (⟨hn,rfl,rfl⟩ | ⟨hy,rfl,v',w5,ho,hb,rfl⟩)
  ·rw[if_neg hn]
   exact⟨rfl,same⟩
  ·rw[if_pos hy]
   refine⟨rfl,?_⟩
   obtain ⟨tv,lv,a,nv,wc,al,hh,ht,hlv,hn⟩:=h.head
   have B5:=h.base.fresh hb
   have H5:=hh.stay hb
   obtain ⟨B6,H6,C6⟩:=B5.put H5 7 (by simp [cU]) v'
   obtain ⟨B7,H7,C7⟩:=B6.put H6 8 (by simp [cU]) (.int .i64 0)
   obtain ⟨B8,H8,C8⟩:=B7.put H7 9 (by simp [cU]) (.slice none 0 0)
   have C58:=(C6.then C7).then C8
   have hgo:=h.gone
   have hol:∀ k,v'.ownBlock=some k→(F k∨(w.heap.size≤k∧k<w5.heap.size))∧k≠P∧k≠wb:=fun k hk=>by
    have:=ho.lt hk
    exact⟨.inr this,by omega,by omega⟩
   have nn:∀ k,(Value.slice none 0 0).ownBlock≠some k:=fun k e=>by cases e
   refine⟨_,⟨B8.dN,B8.key,B8.lg,B8.inF,B8.lt,B8.apart,B8.wrote,⟨h.nums.1,h.nums.2.1,Nat.zero_le _⟩,tv,v',0,.slice none 0 0,wc,al,?_,?_,?_,fun _=>⟨rfl,Own.nil _ _ _,fun k hk=>by cases hk⟩⟩,fun k hk=>hk.imp id (·.1),(Chg.below hb _).then (C58.mono fun k _ _ e=>.inl (e ▸ h.inF.1))⟩
   ·have e:((((cU M kp s.n s.ep s.af s.root tv lv a nv wb wc al).set 7 v').set 8 (.int .i64 0)).set 9 (.slice none 0 0))=cU M kp s.n s.ep s.af s.root tv v' 0 (.slice none 0 0) wb wc al:=by simp [cU]
    rw[e] at H8
    exact H8
   ·exact((ht.below hb).chg C58 fun k _ hk e=>hk.2.1 e).imp fun k hk _=>⟨.inl hk.1,hk.2.1,hk.2.2.1,fun _=>nn k⟩
   ·exact((Own.xK ho fun k hk=>(⟨hol k hk,fun _=>nn k⟩:((F k∨(w.heap.size≤k∧k<w5.heap.size))∧k≠P∧k≠wb)∧(l≠[]→(Value.slice none 0 0).ownBlock≠some k))).chg C58 fun k _ hk e=>hk.1.2.1 e).imp fun k hk _=>⟨hk.1.1,hk.1.2.1,hk.1.2.2,hk.2⟩
 ·rw[if_pos hL]
  refine(uJ h hL).mono ?_
  rintro e w' ⟨rfl,rfl⟩
  exact⟨rfl,same⟩
section
variable {w0 W W':World} {X Y:Nat→Prop} {P d Q M kp wb:Nat} {ek mk:List UInt8} {s sp sr:Bk.Bn} {D Dp Dr:List Blk} {ws:List (List UInt8)}
theorem aJ.J7 (h:aJ w0 W Y P d Q M kp wb ek mk s D sr Dr ws) (hT:Hm.Tab w0) {K:Nat→Prop} {v:Value} {l:List (List UInt8)} (hP:aI W K v l) (hep:s.ep≤1000000) (hl:l.length≤1000) :
  Calls Tryz.prog 16 #[PT P,v] W fun e w'=>e=.returned (.int .i64 ((Bk.bA s l).2:Int))∧aJ w0 w' Y P d Q M kp wb ek mk (Bk.bA s l).1 D sr Dr ws∧Chg (FrX w0 Y) W w' :=
 h.prog (Qe:=fun e=>e=.returned (.int .i64 ((Bk.bA s l).2:Int))) fun _ hd=>hd.bA hT hP hep hl
theorem aJ.J3 (h:aJ w0 W Y P d Q M kp wb ek mk sp Dp s D ws) {v:Value} {l:List (List UInt8)} (hl:bq W v (l.map VS)) (hm:l.length≤1000) :
  Calls Tryz.prog 17 #[PT Q,v] W fun e w'=>e=.returned (.int .i64 ((Bk.bA s l).2:Int))∧aJ w0 w' Y P d Q M kp wb ek mk sp Dp (Bk.bA s l).1 D ws∧Chg (FrX w0 Y) W w' :=
 h.ref (Qe:=fun e=>e=.returned (.int .i64 ((Bk.bA s l).2:Int))) fun _ _ _ hr _=>wR hr hl hm
theorem aJ.Jf (h:aJ w0 W Y P d Q M kp wb ek mk s D sr Dr ws) (hT:Hm.Tab w0) (hl:D.length=2*s.n) (hep:s.ep≤1000000) :
  Calls Tryz.prog 19 #[PT P] W fun e w'=>e=.returned (.tuple #[.bool (Bk.step ek mk s D).2.1,.int .i64 ((Bk.step ek mk s D).2.2:Int)])∧aJ w0 w' Y P d Q M kp wb ek mk (Bk.step ek mk s D).1.1 (Bk.step ek mk s D).1.2 sr Dr ws∧Chg (FrX w0 Y) W w' :=
 h.prog (Qe:=fun e=>e=.returned (.tuple #[.bool (Bk.step ek mk s D).2.1,.int .i64 ((Bk.step ek mk s D).2.2:Int)])) fun _ hd=>hd.step hT hl hep
theorem aJ.Jd (h:aJ w0 W Y P d Q M kp wb ek mk sp Dp s D ws) (ho:Bk.Ok s.n s D) (hep:s.ep≤1000000) :
  Calls Tryz.prog 20 #[PT Q] W fun e w'=>e=.returned (.tuple #[.bool (Bk.step ek mk s D).2.1,.int .i64 ((Bk.step ek mk s D).2.2:Int)])∧aJ w0 w' Y P d Q M kp wb ek mk sp Dp (Bk.step ek mk s D).1.1 (Bk.step ek mk s D).1.2 (Bk.pH ek s ws)∧Chg (FrX w0 Y) W w' :=
 h.ref (Qe:=fun e=>e=.returned (.tuple #[.bool (Bk.step ek mk s D).2.1,.int .i64 ((Bk.step ek mk s D).2.2:Int)])) fun _ _ _ hr _=>yZ hr ho hep
theorem aJ.pread (h:aJ w0 W Y P d Q M kp wb ek mk s D sr Dr ws) (hT:Hm.Tab w0) (hl:D.length=2*s.n) (i:Nat) (hi:i<s.n) :
  Calls Tryz.prog 21 #[PT P,IV i] W fun e w'=>∃ v,e=.returned (.tuple #[v,.int .i64 (if (Bk.read ek mk s D i).isSome then 0 else 10)])∧Hid (Own w' W.heap.size 5 v (((Bk.read ek mk s D i).getD []).map V8))∧Below W.heap.size W w':=by
 obtain ⟨_,_,_,hd,_⟩:=h
 exact hd.read hT hl i hi
theorem aJ.DZ (h:aJ w0 W Y P d Q M kp wb ek mk s D sr Dr ws) (i:Int) (hr:-9223372036854775808≤i∧i≤9223372036854775807) (hi:i<0∨(s.n:Int)≤i) :
  Calls Tryz.prog 21 #[PT P,.int .i64 i] W fun e w'=>(∃ A c,e=.returned (.tuple #[.slice A 0 c,.int .i64 1]))∧Below W.heap.size W w':=by
 obtain ⟨_,_,_,⟨F,G,hL,_⟩,_⟩:=h
 refine(k6.zO hL i hr hi).mono ?_
 rintro e w' ⟨v,rfl,ho,hb⟩
 rcases ho.2 with ⟨rfl,_⟩ | ⟨g,cap,cur,rfl,_⟩
 ·exact⟨⟨_,_,rfl⟩,hb⟩
 ·exact⟨⟨_,_,rfl⟩,hb⟩
theorem aJ.Mq (h:aJ w0 W Y P d Q M kp wb ek mk sp Dp s D ws) (hl:D.length=2*s.n) (ht:s.tags.length=s.n) (i:Nat) (hi:i<s.n) :
  Calls Tryz.prog 22 #[PT Q,IV i] W fun e w'=>e=.returned (.tuple #[VS ((Bk.read ek mk s D i).getD []),.bool (Bk.read ek mk s D i).isSome])∧aJ w0 w' Y P d Q M kp wb ek mk sp Dp s D ws∧Chg (FrX w0 Y) W w' :=
 h.ref (Qe:=fun e=>e=.returned (.tuple #[VS ((Bk.read ek mk s D i).getD []),.bool (Bk.read ek mk s D i).isSome])) fun _ _ _ hr _=>y4 hr hl ht i hi
theorem aJ.PR (h:aJ w0 W Y P d Q M kp wb ek mk s D sr Dr ws) (rs:List Value) (hrs:Hid (rs=dL s.ep s.af s.root)):Calls Tryz.prog 24 #[PT P] W fun e w'=>e=.returned (.agg rs.toArray)∧Below W.heap.size W w':=by
 obtain ⟨_,_,_,hd,_⟩:=h
 exact hd.reg rs hrs
theorem aJ.J6 (h:aJ w0 W Y P d Q M kp wb ek mk s D sr Dr ws) (hT:Hm.Tab w0) (ks:List Value) (hk:cz ek mk ks) (rs:List Value) (hl:D.length=2*s.n) (hb1:s.af≤1) (hep:1≤s.ep∧s.ep≤1000000) (hroot:s.root.length=32) (hrs:Hid (rs=dL s.ep s.af s.root)) :
  Calls Tryz.prog 10 #[PT d,.agg ks.toArray,IV s.n,.agg rs.toArray] W fun e w' =>
   match Bk.cH mk s.n s.ep s.af s.root D with
   | some s'=>∃ P',e=.returned (.tuple #[PT P',.int .i64 0])∧aJ w0 w' Y P' d Q M kp wb ek mk s' D sr Dr ws∧Below W.heap.size W w'
   | none=>e=.returned (.tuple #[.pointer none,.int .i64 10])∧aJ w0 w' Y P d Q M kp wb ek mk s D sr Dr ws∧Below W.heap.size W w':=by
 have h0:=h
 obtain ⟨F,G,K,hd,hr,hn⟩:=h
 refine(hd.cH hT ks hk s.ep s.af s.root rs hl hb1 hep hroot hrs).mono ?_
 intro e w' hR
 cases hm:Bk.cH mk s.n s.ep s.af s.root D with
 | none =>
  rw[hm] at hR
  exact⟨hR.1,h0.stay hR.2.2,hR.2.2⟩
 | some s' =>
  rw[hm] at hR
  obtain ⟨P',he,hd',_,hb⟩:=hR
  exact⟨P',he,⟨F,G,K,hd',hr.stay hb,hn⟩,hb⟩
theorem aJ.GN (h:aJ w0 W Y P d Q M kp wb ek mk sp Dp s D ws):∃ wc,W.cell? ⟨Q,3,none⟩=some (.int .u64 (s.ep:Int))∧W.cell? ⟨Q,4,none⟩=some (IV s.af)∧W.cell? ⟨Q,5,none⟩=some (VS s.root)∧W.cell? ⟨Q,10,none⟩=some (.slice (some ⟨wb,0,none⟩) (2*s.n) wc):=by
 obtain ⟨_,_,_,_,hr,_⟩:=h
 obtain ⟨tv,lv,a,nv,wc,al,hh,_⟩:=hr.head
 exact⟨wc,hh.head (j:=3) rfl,hh.head (j:=4) rfl,hh.head (j:=5) rfl,hh.head (j:=10) rfl⟩
theorem aJ.JZ (h:aJ w0 W Y P d Q M kp wb ek mk sp Dp s D ws) (h8:8≤s.n) (hl:D.length=2*s.n) (wc:Nat) :
  Calls Tryz.prog 25 #[PT M,PT kp,IV s.n,.int .u64 (s.ep:Int),IV s.af,VS s.root,.slice (some ⟨wb,0,none⟩) (2*s.n) wc] W fun e w'=>∃ Q',e=.returned (.tuple #[PT Q',.bool (Bk.cH mk s.n s.ep s.af s.root D).isSome])∧Below W.heap.size W w'
   ∧ ∀ s',Bk.cH mk s.n s.ep s.af s.root D=some s'→aJ w0 w' Y P d Q' M kp wb ek mk sp Dp s' D ws:=by
 obtain ⟨F,G,K,hd,hr,hn⟩:=h
 refine(wQ hr.dN hr.key hr.lg (fun k hk=>⟨hr.lt.2 k hk,fun (e:k=wb)=>(hr.apart.1 wb hr.inF.2.1).2 (by rw[← e];exact hk),hr.apart.2 k hk⟩) (hr.apart.1 wb hr.inF.2.1).1 hr.wrote.1 hr.wrote.2 h8 hr.nums.1 hl hr.nums.2.1).mono ?_
 rintro e w' ⟨Q',F',rfl,hr',hF',hb⟩
 refine⟨Q',?_,hb,fun s' hs'=>?_⟩
 ·unfold Bk.cH
  split
  ·rename_i he;rw[decide_eq_true he];rfl
  ·rename_i he;rw[decide_eq_false he];rfl
 ·unfold Bk.cH at hs'
  split at hs'
  ·injection hs' with hs'
   subst hs'
   refine⟨F',G,K,hd.nE hb _ fun k hk=>?_,hr',fun k hk=>?_⟩
   ·rcases hk with h | h | h | h
    ·exact .inl (.inl h)
    ·rcases hF' k h with rfl | h'
     ·exact .inl (.inr (.inl hr.inF.2.1))
     ·exact .inr ⟨h',hr'.lt.1 k h⟩
    ·exact .inl (.inr (.inr (.inl h)))
    ·exact .inl (.inr (.inr (.inr h)))
   ·rcases hk with h | h
    ·rcases hF' k h with rfl | h'
     ·exact hn _ (.inl hr.inF.2.1)
     ·have:=hd.below.size
      exact⟨by omega,fun hy=>by have:=hd.lt k (.inl hy);omega⟩
    ·exact hn k (.inr h)
  ·cases hs'
theorem aJ.Oe (h:aJ w0 W Y P d Q M kp wb ek mk s D sr Dr ws) (i:Nat) (hi:i<D.length) :
  Calls Tryz.prog 27 #[PT d,IV i] W fun e w'=>e=.returned (.tuple #[.slice (some ⟨W.heap.size,0,none⟩) 72 72,.int .i64 0])∧aj w' W.heap.size 0 ((Bk.aq D i).map V8)∧Below W.heap.size W w':=by
 obtain ⟨_,_,_,⟨_,_,_,hD,_⟩,_⟩:=h
 exact xq hD (i:Int) (D.getD i Blk.zero) (by rw[jS,List.getD_eq_getElem?_getD,List.getElem?_eq_getElem hi];rfl)
theorem aJ.J2 (h:aJ w0 W Y P d Q M kp wb ek mk s D sr Dr ws) (i:Nat) (hi:i<Dr.length) (V:World) (hV:V.heap=W.heap) :
  Calls Tryz.prog 28 #[PT M,IV i] V fun e w'=>e=.returned (.string (aw (Bk.aq Dr i)))∧w'=V:=by
 obtain ⟨_,_,_,_,hr,_⟩:=h
 exact eG hr.dN i (Dr.getD i Blk.zero) (by rw[List.getD_eq_getElem?_getD,List.getElem?_eq_getElem hi];rfl) V hV
theorem aJ.Oh (h:aJ w0 W Y P d Q M kp wb ek mk s D sr Dr ws) (i:Nat) (hi:i<Dr.length):(Bk.aq Dr i).length=72:=by
 obtain ⟨_,_,_,_,hr,_⟩:=h
 obtain ⟨_,_,_,_,_,_,hX⟩:=hr.dN
 exact(hX.ok i (Dr.getD i Blk.zero) (by rw[List.getD_eq_getElem?_getD,List.getElem?_eq_getElem hi];rfl)).cur
end
theorem DV {w w5 w6 w7 w8:World} {x0 P d Q M kp wb:Nat} {ek mk:List UInt8} {s sr:Bk.Bn} {D Dr:List Blk} {ws:List (List UInt8)} {F G K:Nat→Prop} (hd:Duo w w5 (fun k=>k=x0) P d ek mk s D) (hb6:Below w5.heap.size w5 w6) (hG:∀ k,G k→w5.heap.size≤k∧k<w6.heap.size)
  (hb7:Below w6.heap.size w6 w7) (hK:∀ k,K k→w6.heap.size≤k∧k<w7.heap.size) (hr:RB w8 F G K Q M kp wb ek mk sr Dr ws) (hF:∀ k,F k→w7.heap.size≤k) (hc:Chg (fun k _=>G k) w7 w8):aJ w w8 (fun k=>k=x0) P d Q M kp wb ek mk s D sr Dr ws:=by
 have hx0:x0<w5.heap.size:=hd.lt x0 rfl
 have h5:=hd.below.size
 have h6:=hb6.size
 have h7:=hb7.size
 have h1:Duo w w7 (fun k=>k=x0∨G k∨K k) P d ek mk s D:=hd.nE (hb6.trans (hb7.mono hb6.size)) _ fun k hk=>by
  rcases hk with h | h | h
  ·exact .inl h
  ·have:=hG k h;exact .inr (by omega)
  ·have:=hK k h;exact .inr (by omega)
 refine⟨F,G,K,h1.AA hc (fun k _ _ hk=>⟨.inr (.inl hk),by have:=hG k hk;omega⟩) _ fun k hk=>?_,hr,fun k hk=>?_⟩
 ·rcases hk with h | h | h | h
  ·exact .inl (.inl h)
  ·exact .inr ⟨hF k h,hr.lt.1 k h⟩
  ·exact .inl (.inr (.inl h))
  ·exact .inl (.inr (.inr h))
 ·rcases hk with h | h | h
  ·have:=hF k h;omega
  ·have:=hG k h;omega
  ·have:=hK k h;omega
structure JD where
 what:Int
 i:Int
 bv:Value
 bl:List (List UInt8)
 t:TD
def JD.cells (d:JD):List Value:=[.int .i64 d.what,.int .i64 d.i,d.bv]++d.t.cells
structure JD.ok (w:World) (d:JD):Prop where
 parts:aI w (fun k=>k<w.heap.size) d.bv d.bl
 t:d.t.ok w
 lo:-9223372036854775808≤d.what
 hi:d.what≤9223372036854775807
 ilo:-9223372036854775808≤d.i
 ihi:d.i≤9223372036854775807
def qK (w:World) (v:Value) (l:List JD):Prop :=
 ∃ A cap,v=.slice A l.length cap∧(0<l.length→∃ b o,A=some ⟨b,o,none⟩∧b<w.heap.size∧∀ (j:Nat) (d:JD),l[j]? = some d→ah w b (o+j*9) d.cells)∧∀ d∈l,d.ok w
theorem qK.at_ {w:World} {A:Option Addr} {n cap:Nat} {l:List JD} (h:qK w (.slice A n cap) l) {i:Nat} (hi:i<n) :
  ∃ (b o:Nat) (d:JD),A=some ⟨b,o,none⟩∧d.ok w∧∀ W,Below w.heap.size w W→ah W b (o+i*9) d.cells:=by
 obtain ⟨A',cap',e,h1,h2⟩:=h
 injection e with e1 e2 e3
 subst e1 e2 e3
 obtain ⟨b,o,rfl,hb,hs⟩:=h1 (by omega)
 obtain ⟨d,hd⟩:∃ d,l[i]? = some d:=⟨_,List.getElem?_eq_getElem hi⟩
 exact⟨b,o,d,rfl,h2 d (List.mem_of_getElem? hd),fun W hW=>(hs i d hd).below hW hb⟩
theorem Nj:(Tryz.prog.info? 51).map (·.size)=some 6:=by kernel_rfl
theorem oo:(Tryz.prog.info? 53).map (·.size)=some 9:=by kernel_rfl
end Go.Proofs.YthbmknpbcgnabaaGreatDoor
