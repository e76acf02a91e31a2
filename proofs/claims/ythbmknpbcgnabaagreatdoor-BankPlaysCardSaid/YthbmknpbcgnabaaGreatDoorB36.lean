/- Of the walk. -/
import Derived.Test.YthbmknpbcgnabaaGreatDoorB35
set_option maxHeartbeats 40000000
namespace Go.Proofs.YthbmknpbcgnabaaGreatDoor
open Go.RowKit Aes Ctr Sl Dsk
set_option maxRecDepth 100000
theorem zf {w:World} {P d:Nat} {ek mk:List UInt8} {s:Bk.Bn} {ks:List Value} {T:Nat} {FT:Nat→Prop} {nx:Value} {S:List Bool} {V:Nat} {C T2:Nat} {FT2 KB G:Nat→Prop} {rt:List UInt8} {bv:Value} {S2:List Bool} {D:List Blk}
  (h:fM w P d ek mk s ks T FT nx S V C T2 FT2 KB G rt bv S2 D) (ha:s.at_=s.n) :
  Calls Tryz.prog 92 #[PT C] w fun e w'=>e=.returned (b8 (Bk.step ek mk s D).1.1 C)∧∃ G',fM w' P d ek mk (Bk.step ek mk s D).1.1 ks T FT nx S V C T2 FT2 KB G' rt bv S2 (Bk.step ek mk s D).1.2∧(∀ k,G' k→G k∨w.heap.size≤k)∧Chg (fun k _=>G k) w w':=by
 have hL:s.L≠[]:=h.com.busy h.head.n8
 have hst:Bk.step ek mk s D=(({ s with at_:=s.at_+1 },Bk.flush D),false,0):=by rw[Bk.step,if_neg hL,if_neg (by omega),if_pos ha]
 rw[hst]
 have hnx:b8 { s with at_:=s.at_+1 } C=fiV C:=by
  unfold b8
  show (if s.at_+1<s.n then _ else if s.at_+1=s.n then _ else _)=_
  rw[if_neg (by omega),if_neg (by omega)]
 rw[hnx]
 clear hnx hst hL
 have c0:=h.com.at_.cells.1
 have p0:=h.head.at_.cells.1
 have HF:=ae (zu h.dN)
 have eT:Hid (∀ w',After w G w' d (cV (fun _=>true) D)→∃ G',fM w' P d ek mk { s with at_:=s.at_+1 } ks T FT nx S V C T2 FT2 KB G' rt bv S2 (Bk.flush D)∧(∀ k,G' k→G k∨w.heap.size≤k)∧Chg (fun k _=>G k) w w'):=fun w' ⟨G',hD,hG',hC⟩=>by
  have hFl:∀ k,FT2 k→k<w.heap.size:=Mr.aL.lt h.com.tree
  have yq:∀ k,FT k→k<w.heap.size:=Mr.aL.lt h.head.tree
  have hCl:C<w.heap.size:=h.com.at_.c0.lt (by simp)
  have hPl:P<w.heap.size:=h.head.at_.c0.lt (by simp)
  have hx:=h.head.chg hC (fun _=>h.GP) fun k _ hk=>h.GF k hk
  have hy:=h.com.chg hC (fun _=>h.GC) (fun k _ hk=>h.G2 k hk) fun k _ hk=>h.GK k hk
  refine⟨G',⟨⟨hx.at_,hx.keys,hx.tree,hx.tl,hx.n8,hx.r32,hx.b1,hx.PF⟩,⟨?_,hy.r32,hy.tree,hy.parts,hy.len,hy.l64,by show s.at_+1≤s.n+1;omega,?_,hy.CF,hy.PF,hy.KF,hy.KC,hy.KP,hy.CP⟩,hD,?_,h.FC,h.F2,fun hk=>(hG' P hk).elim h.GP fun h=>by omega,fun hk=>(hG' C hk).elim h.GC fun h=>by omega,fun k h2 hk=>(hG' k hk).elim (h.GF k h2) fun h=>by have:=yq k h2;omega,fun k h2 hk=>(hG' k hk).elim (h.G2 k h2) fun h=>by have:=hFl k h2;omega,fun k h2 hk=>(hG' k hk).elim (h.GK k h2) fun h1=>by have:=h.KL k h2;omega,fun k hk=>Nat.lt_of_lt_of_le (h.KL k hk) hC.size⟩,hG',hC⟩
  ·have:=hy.at_
   rw[show min s.at_ s.n=min (s.at_+1) s.n by omega] at this
   exact this
  ·show s.next.length=min (s.at_+1) s.n
   rw[hy.ye];omega
  ·rw[Bk.fI];exact h.dl
 clear h ha
 go_enter Tryz.func92,Tryz.ntmps92
 go_wp2_with fail
 refine HF.out.mono ?_
 rintro e w' ⟨rfl,hA⟩
 have HE:=ae (eT.out _ hA)
 clear HF eT hA c0 p0
 go_wp2
 go_ret
 exact⟨rfl,HE.out⟩
theorem wW {w:World} {P d:Nat} {ek mk:List UInt8} {s:Bk.Bn} {ks:List Value} {T:Nat} {FT:Nat→Prop} {nx:Value} {S:List Bool} {V:Nat} {C T2:Nat} {FT2 KB G:Nat→Prop} {rt:List UInt8} {bv:Value} {S2:List Bool} {D:List Blk}
  (h:fM w P d ek mk s ks T FT nx S V C T2 FT2 KB G rt bv S2 D) (ha:s.at_=s.n+1) (hT:Hm.Tab w) (hNT:∀ k,FT2 k→k≠0) :
  Calls Tryz.prog 124 #[PT C] w fun e w'=>e=.returned .nilFunc∧∃ ew S' V',cQ w' P d ek mk ⟨s.n,s.ep+1,1 - s.af,Bk.b7 mk s.next,s.next,[],0,[]⟩ ks T2 ew nx S' V'∧(∀ k,ew k→FT2 k∨w.heap.size≤k)∧Chg (fun k _=>k=P∨k=C∨FT2 k) w w':=by
 have eU:=h.head.n100
 have hkl:=h.head.kl
 have hnl:s.next.length=s.n:=by rw[h.com.ye];omega
 have hLs:s.next++List.replicate (s.n - s.next.length) Mr.Mk.zero=s.next:=by rw[hnl,Nat.sub_self,List.replicate_zero,List.append_nil]
 have htr:=h.com.tree
 rw[hLs] at htr
 have c0:=h.com.at_.cells
 have HR:=ae (Mr.aL.root htr hT hNT (by omega) (Bk.hB s.next.length) (Bk.sD _ (by omega)))
 have h32:=(Mr.aL.len htr).2.2.2
 have HRT:Hid (Bk.b7 mk s.next=Mr.Mk.root mk s.next (Bk.hB s.next.length)):=rfl
 have hrl:(Bk.b7 mk s.next).length=32:=by rw[HRT.out,Mr.Mt.oW mk s.next _ (Bk.sD _ (by omega))];exact Mr.Mt.zD mk s.next h32 _ _
 rw[← HRT.out] at HR
 obtain ⟨root,hroot⟩:∃ r,r=Bk.b7 mk s.next:=⟨_,rfl⟩
 rw[← hroot] at HR hrl ⊢
 obtain ⟨ep1,oK⟩:∃ x,x=s.ep+1:=⟨_,rfl⟩
 obtain ⟨bk1,qc⟩:∃ x,x=1 - s.af:=⟨_,rfl⟩
 obtain ⟨RG,hRG⟩:∃ r,r=dL ep1 bk1 root:=⟨_,rfl⟩
 have HRl:Hid (RG.length=34):=by show _=_;rw[hRG,aW hrl]
 have sP:Hid (RG.toArray.all (·.oneCell')=true):=by
  show _=_
  rw[hRG,dL]
  simp
  exact⟨rfl,rfl,fun _ _=>rfl⟩
 have HU:=ae h
 have hCP:=h.com.CP
 -- behind RO (w1),its store (w2),both Pn of the af (w3,w4)
 have HW1:Hid (∀ w1,Mr.qV Mr.T9 w FT2 w1 T2 mk s.next (List.replicate s.next.length false) (0+Mr.Mt.st (Bk.hB s.next.length) S2)→∀ rs:List Value,Vec 32 root rs →
   w1.there C 3 rs.toArray.size∧∃ ew,(∀ k,ew k→FT2 k∨w.heap.size≤k) ∧
   (∀ W,Chg (fun k _=>k=P) (w1.setCells C 3 rs) W→W.cell? ⟨C,0,none⟩=some (PT P)∧W.rangeAt C 1 RG∧W.cell? ⟨C,37,none⟩=some (PT T2)) ∧
   (∀ W,Chg (fun _ _=>False) (w1.setCells C 3 rs) W→W.there P 49 34∧(W.setCells P 49 RG).cell? ⟨P,83,none⟩=some (PT T)∧(W.setCells P 49 RG).frozen? ⟨P,83,none⟩=false∧Chg (fun k _=>k=P) (w1.setCells C 3 rs) (W.setCells P 49 RG)∧Chg (fun k _=>k=P) (w1.setCells C 3 rs) ((W.setCells P 49 RG).setCell ⟨P,83,none⟩ (PT T2)) ∧
    ∃ S' V',cQ ((W.setCells P 49 RG).setCell ⟨P,83,none⟩ (PT T2)) P d ek mk ⟨s.n,ep1,bk1,root,s.next,[],0,[]⟩ ks T2 ew nx S' V'∧Chg (fun k _=>k=P∨k=C∨FT2 k) w ((W.setCells P 49 RG).setCell ⟨P,83,none⟩ (PT T2)))):=fun w1 ⟨ew,hT1,hF1,hC1⟩ rs hv=>by
  have hvl:=hv.len
  have hrs:rs=root.map V8:=hv.1
  have hc1:=h.com.at_.chg hC1 fun _=>h.com.CF
  have Ib:aj w1 C 1 ([Value.int .u64 ((s.ep+1:Nat):Int),.int .i64 ((1 - s.af:Nat):Int)]++rt.map V8):=hc1.reg
  have hth:w1.there C 3 rs.toArray.size:=by
   have:=Ib.right.2
   rw[List.length_map,h.com.r32] at this
   rw[List.size_toArray,hvl];exact this
  have hc2:=hc1.JY h.com.r32 root hrl
  rw[← hrs] at hc2
  have hC2:Chg (fun k _=>k=C) w1 (w1.setCells C 3 rs):=(Chg.refl _ w1).setCells (fun _ _ _=>rfl) (by rw[List.size_toArray] at hth;exact hth)
  have hh1:=h.head.chg hC1 (fun _=>h.com.PF) fun k _ hk h2=>h.F2 k h2 hk
  have hh2:=hh1.chg hC2 (fun _ e=>hCP e.symm) fun k _ hk e=>h.FC (e ▸ hk)
  have hCl:C<w.heap.size:=h.com.at_.c0.lt (by simp)
  have hPl:P<w.heap.size:=h.head.at_.c0.lt (by simp)
  have hFC:¬ ew C:=fun hk=>(hF1 C hk).elim h.com.CF fun h=>by omega
  have hFP:¬ ew P:=fun hk=>(hF1 P hk).elim h.com.PF fun h=>by omega
  have hT2:=Mr.aL.stay hT1 hC2 fun k _ hk e=>hFC (e ▸ hk)
  refine⟨hth,ew,hF1,fun W hW=>?_,fun W hW=>?_⟩
  ·have hc3:=hc2.chg hW fun _ e=>hCP e
   refine⟨hc3.cells.1,?_,hc3.cells.2.2.2.2.2⟩
   rw[hRG,oK,qc]
   exact hc3.reg.1
  ·have hh3:=hh2.chg hW (fun _ x=>x) fun _ _ _ x=>x
   have Qd:∀ {a b:Nat} {r:List UInt8},r.length=32→(dL a b r).length=34:=fun h=>aW h
   have EG:W.there P 49 34:=by have:=hh3.at_.reg.2;rwa [Qd h.head.r32] at this
   have hh4:=hh3.at_.regs hkl h.head.r32 ep1 bk1 root hrl
   rw[← hRG] at hh4
   have hC4:Chg (fun k _=>k=P) W (W.setCells P 49 RG):=(Chg.refl _ W).setCells (fun _ _ _=>rfl) (by rw[HRl.out];exact EG)
   have hh5:=hh4.Mg hkl hrl T2
   have hs:=iM hh4
   have hC5:Chg (fun k _=>k=P) (W.setCells P 49 RG) ((W.setCells P 49 RG).setCell ⟨P,83,none⟩ (PT T2)):=(Chg.refl _ _).setCell (p:=⟨P,83,none⟩) rfl (fun _=>rfl) hs.1 _
   have hW':Chg (fun k _=>k=P) (w1.setCells C 3 rs) W:=hW.mono fun _ _ _ x=>x.elim
   refine⟨EG,hh4.cells.2.2.2.1,hs.2.2.1,hW'.then hC4,hW'.then (hC4.then hC5),_,_,⟨hh5,h.head.keys,Mr.aL.stay (Mr.aL.stay hT2 hW fun _ _ _ x=>x) (hC4.then hC5) fun k _ hk e=>hFP (e ▸ hk),hnl,h.head.n8,hrl,by show bk1≤1;omega,hFP⟩,?_⟩
   exact(hC1.mono fun _ _ _ hk=>.inr (.inr hk)).then ((hC2.mono fun _ _ _ hk=>.inr (.inl hk)).then ((hW'.then (hC4.then hC5)).mono fun _ _ _ hk=>.inl hk))
 have Qu:=c0.2.2.2.2.2
 have hi2:(Tryz.prog.info? 41).map (·.size)=some RG.length:=by rw[HRl.out];kernel_rfl
 have HE1:=ae oK
 have HB1:=ae qc
 rw[← HE1.out,← HB1.out]
 clear h ha hT hNT eU hkl hnl hLs htr h32 HRT hrl hRG oK qc hCP c0 hroot
 go_enter Tryz.func124,Tryz.ntmps124
 go_wp2_with fail
 refine HR.out.mono ?_
 rintro e w1 ⟨rs,⟨Hrs,rfl⟩,hA⟩
 have Hsz:Hid (rs.toArray.size=32):=Hrs.out.size
 have aN:Hid (rs.toArray.all (·.oneCell')=true):=Hrs.out.one
 obtain ⟨hth,ew,hF2,hS,hP⟩:=HW1.out w1 hA rs Hrs.out
 have HTh:=ae hth
 have HF2:=ae hF2
 have HS:=ae hS
 have HP:=ae hP
 clear HW1 HR hA hth hF2 hS hP Qu
 go_wp2_with (refine wpList_store_mid rfl 27 (.tmp 11) (.tmp 8) rfl C 3 rs.toArray rfl rfl HTh.out (by rw[Hsz.out];kernel_rfl) aN.out ?_;rw[List.toList_toArray])
 generalize w1.setCells C 3 rs=w2 at *
 have HDr:Hid (Chg (fun _ _=>False) w2 w2.drew):=(Chg.refl _ w2).drew
 have HDp:Hid (Chg (fun k _=>k=P) w2 w2.drew):=(Chg.refl _ w2).drew
 refine wp_region_held_drew (S:=(fun W=>W.cell? ⟨C,0,none⟩=some (PT P)∧W.rangeAt C 1 RG∧W.cell? ⟨C,37,none⟩=some (PT T2))) (by kernel_rfl) (HS.out _ HDp.out) (fun aa=>?_)
 generalize w2.drew=w2d at *
 refine tkq 0 12 aa ?_
 try go_frame
 refine tkq 1 13 aa ?_
 try go_frame
 refine tkq 2 14 aa ?_
 try go_frame
 refine tkh 3 15 rfl aa ?_ (Or.inl ⟨by rfl,by intro w hSw;have hc:=hSw.1;go_simp;with_reducible rfl⟩)
 try go_frame
 refine tkq 4 16 aa ?_
 try go_frame
 refine tkq 5 17 aa ?_
 try go_frame
 refine tkq 6 18 aa ?_
 try go_frame
 refine tkh 7 19 rfl aa ?_ (Or.inl ⟨by rfl,by intro w hSw;have hc:=hSw.1;go_simp;with_reducible rfl⟩)
 try go_frame
 refine tkq 8 20 aa ?_
 try go_frame
 refine tkq 9 21 aa ?_
 try go_frame
 refine tkq 10 22 aa ?_
 try go_frame
 refine tkh 11 23 (v:=.agg (RG).toArray) rfl aa ?_ (yieldsIf_load_mid (by rfl) 41 (.tmp 22) rfl (C) 1 rfl (RG) _ (fun W h=>h.2.1) Tryz.underlying41 rfl hi2)
 try go_frame
 refine tkq 12 24 aa ?_
 try go_frame
 refine tkq 13 25 aa ?_
 try go_frame
 refine tkq 14 26 aa ?_
 try go_frame
 refine tkh 15 27 rfl aa ?_ (Or.inl ⟨by rfl,by intro w hSw;have hc:=hSw.2.2;go_simp;with_reducible rfl⟩)
 try go_frame
 refine tkq 16 28 aa ?_
 try go_frame
 refine tkq 17 29 aa ?_
 try go_frame
 refine rdn 18 fun K hK=>?_
 rw[if_pos (by rfl)]
 obtain ⟨EG,Ii,RE,hC4,hC5,S',V',hH,hCh⟩:=HP.out _ HDr.out
 have eT:=ae (And.intro hH hCh)
 clear hH hCh HP
 refine Go.wp_store_mid 41 (.tmp 29) (.tmp 23) rfl P 49 RG.toArray rfl rfl (by rw[List.size_toArray,HRl.out];exact EG) (by rw[List.size_toArray];exact hi2) sP.out ?_
 rw[List.toList_toArray]
 refine hK.out _ _ (HS.out _ hC4) (fun aa=>?_)
 clear hK K EG
 generalize w2d.setCells P 49 RG=w3 at *
 try go_frame
 refine tkq 19 30 aa ?_
 try go_frame
 refine tkq 20 31 aa ?_
 try go_frame
 refine rdn 21 fun K hK=>?_
 go_simp
 refine hK.out _ _ (HS.out _ hC5) (fun aa=>?_)
 clear hK K
 try go_frame
 refine wpAnyH_done (by kernel_rfl) ?_ _
 clear aa hC4 hC5
 go_wp2
 go_ret
 exact⟨rfl,ew,S',V',eT.out.1,HF2.out,eT.out.2⟩
theorem FH {w:World} {P C:Nat} {Q:World→Prop} (hnx:w.cell? ⟨P,84,none⟩=some (wrV C)) (hf:Calls Tryz.prog 51 #[PT C] w fun e w'=>e=.returned (wrV C)∧w'.cell? ⟨P,84,none⟩=some (wrV C)∧w'.frozen? ⟨P,84,none⟩=false∧Q w') :
  Calls Tryz.prog 19 #[PT P] w fun e w''=>e=.returned (.tuple #[.bool false,.int .i64 0])∧∃ w',Q w'∧w''=w'.setCell ⟨P,84,none⟩ (wrV C):=by
 have HB:=ae (gI hnx)
 have HF:=ae hf
 have HB2:Hid (∀ W:World,W.cell? ⟨P,84,none⟩=some (wrV C)→Calls Tryz.prog 29 #[PT P] W fun e w'=>e=.returned (.bool true)∧w'=W):=fun W hW=>gI hW
 clear hf
 go_enter Tryz.func19,Tryz.ntmps19
 go_wp2_with fail
 refine HB.out.mono ?_
 rintro e w0 ⟨rfl,hw⟩
 rw[hw]
 clear hw w0 HB
 go_wp2_with fail
 refine HF.out.mono ?_
 rintro e w1 ⟨rfl,hc,hz,hQ⟩
 have HQ:=ae hQ
 have HS:Hid ((w1.setCell ⟨P,84,none⟩ (wrV C)).cell? ⟨P,84,none⟩=some (wrV C)):=World.cell?_setCell_same _ _ _ hc
 clear HF hQ hnx
 go_wp2_with fail
 refine(HB2.out _ HS.out).mono ?_
 rintro e w2 ⟨rfl,hw⟩
 rw[hw]
 clear hw w2 HB2
 go_wp2
 go_ret2
 exact⟨rfl,w1,HQ.out,rfl⟩
theorem FI {w:World} {P C:Nat} {Q:World→Prop} (hnx:w.cell? ⟨P,84,none⟩=some (wrV C)) (hf:Calls Tryz.prog 51 #[PT C] w fun e w'=>e=.returned (flV C)∧w'.cell? ⟨P,84,none⟩=some (wrV C)∧w'.frozen? ⟨P,84,none⟩=false∧Q w') :
  Calls Tryz.prog 19 #[PT P] w fun e w''=>e=.returned (.tuple #[.bool false,.int .i64 0])∧∃ w',Q w'∧w''=w'.setCell ⟨P,84,none⟩ (flV C):=by
 have HB:=ae (gI hnx)
 have HF:=ae hf
 have HB2:Hid (∀ W:World,W.cell? ⟨P,84,none⟩=some (flV C)→Calls Tryz.prog 29 #[PT P] W fun e w'=>e=.returned (.bool true)∧w'=W):=fun W hW=>gI hW
 clear hf
 go_enter Tryz.func19,Tryz.ntmps19
 go_wp2_with fail
 refine HB.out.mono ?_
 rintro e w0 ⟨rfl,hw⟩
 rw[hw]
 clear hw w0 HB
 go_wp2_with fail
 refine HF.out.mono ?_
 rintro e w1 ⟨rfl,hc,hz,hQ⟩
 have HQ:=ae hQ
 have HS:Hid ((w1.setCell ⟨P,84,none⟩ (flV C)).cell? ⟨P,84,none⟩=some (flV C)):=World.cell?_setCell_same _ _ _ hc
 clear HF hQ hnx
 go_wp2_with fail
 refine(HB2.out _ HS.out).mono ?_
 rintro e w2 ⟨rfl,hw⟩
 rw[hw]
 clear hw w2 HB2
 go_wp2
 go_ret2
 exact⟨rfl,w1,HQ.out,rfl⟩
theorem FL {w:World} {P C:Nat} {Q:World→Prop} (hnx:w.cell? ⟨P,84,none⟩=some (flV C)) (hf:Calls Tryz.prog 92 #[PT C] w fun e w'=>e=.returned (fiV C)∧w'.cell? ⟨P,84,none⟩=some (flV C)∧w'.frozen? ⟨P,84,none⟩=false∧Q w') :
  Calls Tryz.prog 19 #[PT P] w fun e w''=>e=.returned (.tuple #[.bool false,.int .i64 0])∧∃ w',Q w'∧w''=w'.setCell ⟨P,84,none⟩ (fiV C):=by
 have HB:=ae (gI hnx)
 have HF:=ae hf
 have HB2:Hid (∀ W:World,W.cell? ⟨P,84,none⟩=some (fiV C)→Calls Tryz.prog 29 #[PT P] W fun e w'=>e=.returned (.bool true)∧w'=W):=fun W hW=>gI hW
 clear hf
 go_enter Tryz.func19,Tryz.ntmps19
 go_wp2_with fail
 refine HB.out.mono ?_
 rintro e w0 ⟨rfl,hw⟩
 rw[hw]
 clear hw w0 HB
 go_wp2_with fail
 refine HF.out.mono ?_
 rintro e w1 ⟨rfl,hc,hz,hQ⟩
 have HQ:=ae hQ
 have HS:Hid ((w1.setCell ⟨P,84,none⟩ (fiV C)).cell? ⟨P,84,none⟩=some (fiV C)):=World.cell?_setCell_same _ _ _ hc
 clear HF hQ hnx
 go_wp2_with fail
 refine(HB2.out _ HS.out).mono ?_
 rintro e w2 ⟨rfl,hw⟩
 rw[hw]
 clear hw w2 HB2
 go_wp2
 go_ret2
 exact⟨rfl,w1,HQ.out,rfl⟩
theorem FJ {w:World} {P C:Nat} {Q:World→Prop} (hnx:w.cell? ⟨P,84,none⟩=some (fiV C)) (hf:Calls Tryz.prog 124 #[PT C] w fun e w'=>e=.returned (Value.nilFunc)∧w'.cell? ⟨P,84,none⟩=some (fiV C)∧w'.frozen? ⟨P,84,none⟩=false∧Q w') :
  Calls Tryz.prog 19 #[PT P] w fun e w''=>e=.returned (.tuple #[.bool true,.int .i64 0])∧∃ w',Q w'∧w''=w'.setCell ⟨P,84,none⟩ (Value.nilFunc):=by
 have HB:=ae (gI hnx)
 have HF:=ae hf
 have HB2:Hid (∀ W:World,W.cell? ⟨P,84,none⟩=some (Value.nilFunc)→Calls Tryz.prog 29 #[PT P] W fun e w'=>e=.returned (.bool false)∧w'=W):=fun W hW=>k8 hW
 clear hf
 go_enter Tryz.func19,Tryz.ntmps19
 go_wp2_with fail
 refine HB.out.mono ?_
 rintro e w0 ⟨rfl,hw⟩
 rw[hw]
 clear hw w0 HB
 go_wp2_with fail
 refine HF.out.mono ?_
 rintro e w1 ⟨rfl,hc,hz,hQ⟩
 have HQ:=ae hQ
 have HS:Hid ((w1.setCell ⟨P,84,none⟩ (Value.nilFunc)).cell? ⟨P,84,none⟩=some (Value.nilFunc)):=World.cell?_setCell_same _ _ _ hc
 clear HF hQ hnx
 go_wp2_with fail
 refine(HB2.out _ HS.out).mono ?_
 rintro e w2 ⟨rfl,hw⟩
 rw[hw]
 clear hw w2 HB2
 go_wp2
 go_ret2
 exact⟨rfl,w1,HQ.out,rfl⟩
theorem zb {w:World} {P:Nat} (hnx:w.cell? ⟨P,84,none⟩=some .nilFunc):Calls Tryz.prog 19 #[PT P] w fun e w'=>e=.returned (.tuple #[.bool false,.int .i64 2])∧w'=w:=by
 have HB:=ae (k8 hnx)
 clear hnx
 go_enter Tryz.func19,Tryz.ntmps19
 go_wp2_with fail
 refine HB.out.mono ?_
 rintro e w0 ⟨rfl,hw⟩
 rw[hw]
 clear hw w0 HB
 go_wp2
 go_ret2
 exact⟨rfl,rfl⟩
set_option maxRecDepth 512
theorem cQ.step {w:World} {P d:Nat} {ek mk:List UInt8} {s:Bk.Bn} {ks:List Value} {T:Nat} {FT:Nat→Prop} {nx:Value} {S:List Bool} {V:Nat} (h:cQ w P d ek mk s ks T FT nx S V) (v:Value) :
  cQ (w.setCell ⟨P,84,none⟩ v) P d ek mk s ks T FT v S V∧Chg (fun k _=>k=P) w (w.setCell ⟨P,84,none⟩ v):=by
 have hc:Chg (fun k _=>k=P) w (w.setCell ⟨P,84,none⟩ v):=(Chg.refl _ w).setCell (p:=⟨P,84,none⟩) rfl (fun _=>rfl) (iM h.at_).2.1 _
 exact⟨⟨h.at_.next h.kl h.r32 v,h.keys,Mr.aL.stay h.tree hc fun k _ hk e=>h.PF (e ▸ hk),h.tl,h.n8,h.r32,h.b1,h.PF⟩,hc⟩
theorem nQ {w:World} {F G:Nat→Prop} {P d:Nat} {ek mk:List UInt8} {s:Bk.Bn} {D:List Blk} (h:BL w F P d ek mk s) (hD:aG w G d D) (hFG:∀ k,F k→¬ G k) (hl:D.length=2*s.n) (hep:s.ep≤1000000) (hT:Hm.Tab w) (hNF:sL F) :
  Calls Tryz.prog 19 #[PT P] w fun e w'=>e=.returned (.tuple #[.bool (Bk.step ek mk s D).2.1,.int .i64 ((Bk.step ek mk s D).2.2:Int)])∧ji BL w F G w' P d ek mk (Bk.step ek mk s D).1.1 (Bk.step ek mk s D).1.2:=by
 have h0:=h
 obtain ⟨ks,T,FT,nx,S,V,hH,hFP,hFT,hFl,hb⟩:=h
 rcases hb with ⟨hL,rfl⟩ | ⟨C,T2,FT2,KB,rt,bv,S2,hC,rfl,hFC,hF2,hC1,hC2,hC3⟩
 ·have e:Bk.step ek mk s D=((s,D),false,2):=by rw[Bk.step,if_pos hL]
  rw[e]
  refine(zb hH.at_.cells.2.2.2.2).mono ?_
  rintro e w' ⟨rfl,rfl⟩
  exact⟨rfl,F,G,h0,hD,hFG,fun _ hk=>.inl hk,fun _ hk=>.inl hk,Chg.refl _ _⟩
 ·have hL:s.L≠[]:=hC.busy hH.n8
  have hU:fM w P d ek mk s ks T FT (b8 s C) S V C T2 FT2 KB G rt bv S2 D:=⟨hH,hC,hD,hl,hFC,hF2,hFG P hFP,hFG C hC1,fun k hk=>hFG k (hFT k hk),fun k hk=>hFG k (hC2 k hk),fun k hk=>hFG k (hC3 k hk),fun k hk=>hFl k (hC3 k hk)⟩
  -- still under way: the af as it PX behind the write of its next step
  have still:∀ {s':Bk.Bn} {D':List Blk} {w':World} {ew G':Nat→Prop} {S2':List Bool},fM w' P d ek mk s' ks T FT (b8 s C) S V C T2 ew KB G' rt bv S2' D'→(∀ k,ew k→FT2 k∨w.heap.size≤k)→(∀ k,G' k→G k∨w.heap.size≤k)→Chg (fun k _=>F k∨G k) w w' →
    ji BL w F G (w'.setCell ⟨P,84,none⟩ (b8 s' C)) P d ek mk s' D':=fun {s' D' w' ew G' S2'} hu hf hg hc=>by
   obtain ⟨hh,hcp⟩:=hu.head.step (b8 s' C)
   have hsz:(w'.setCell ⟨P,84,none⟩ (b8 s' C)).heap.size=w'.heap.size:=by simp [World.setCell]
   have E2:∀ k,ew k→k<w'.heap.size:=Mr.aL.lt hu.com.tree
   refine⟨fun k=>F k∨ew k,G',⟨ks,T,FT,_,S,V,hh,.inl hFP,fun k hk=>.inl (hFT k hk),fun k hk=>?_,.inr ⟨C,T2,ew,KB,rt,bv,S2',hu.com.chg hcp (fun _ e=>hu.com.CP e) (fun k _ hk e=>hu.com.PF (e ▸ hk)) (fun k _ hk e=>hu.com.KP (e ▸ hk)),rfl,hu.FC,hu.F2,.inl hC1,fun k hk=>.inr hk,fun k hk=>.inl (hC3 k hk)⟩⟩,hu.dN.stay hcp fun k _ hk e=>hu.GP (e ▸ hk),fun k hk hk2=>?_,fun k hk=>?_,hg,hc.then (hcp.mono fun k _ _ e=>.inl (e ▸ hFP))⟩
   ·rw[hsz]
    exact hk.elim (fun h=>Nat.lt_of_lt_of_le (hFl k h) hc.size) (E2 k)
   ·rcases hk with hk | hk
    ·exact(hg k hk2).elim (hFG k hk) fun h=>by have:=hFl k hk;omega
    ·exact hu.G2 k hk hk2
   ·exact hk.elim .inl fun h=>(hf k h).elim (fun h=>.inl (hC2 k h)) .inr
  have c84:=hH.at_.cells.2.2.2.2
  have keep:∀ {w':World} {s':Bk.Bn} {T':Nat} {FT':Nat→Prop} {S':List Bool} {V':Nat},cQ w' P d ek mk s' ks T' FT' (b8 s C) S' V'→w'.cell? ⟨P,84,none⟩=some (b8 s C)∧w'.frozen? ⟨P,84,none⟩=false:=fun hh=>⟨hh.at_.cells.2.2.2.2,(iM hh.at_).2.2.2⟩
  by_cases ha:s.at_<s.n
  ·have hv:b8 s C=wrV C:=by unfold b8;rw[if_pos ha]
   have hst:(Bk.step ek mk s D).2=(false,0):=by rw[Bk.step,if_neg hL,if_pos ha]
   have ha':(Bk.step ek mk s D).1.1.at_=s.at_+1∧(Bk.step ek mk s D).1.1.n=s.n:=by rw[Bk.step,if_neg hL,if_pos ha];exact⟨rfl,rfl⟩
   rw[hst]
   have hw:=(y9 hU ha hep hT).mono (R':=fun e w'=>e=.returned (b8 (Bk.step ek mk s D).1.1 C)∧w'.cell? ⟨P,84,none⟩=some (wrV C)∧w'.frozen? ⟨P,84,none⟩=false∧ji BL w F G (w'.setCell ⟨P,84,none⟩ (b8 (Bk.step ek mk s D).1.1 C)) P d ek mk (Bk.step ek mk s D).1.1 (Bk.step ek mk s D).1.2) (by
    rintro e w' ⟨rfl,ew,G',S2',hu,hf,hg,hc⟩
    have:=keep hu.head
    rw[hv] at this
    exact⟨rfl,this.1,this.2,still hu hf hg (hc.mono fun k _ _ hk=>hk.elim (fun e=>.inl (e ▸ hC1)) fun h=>h.imp (hC2 k) id)⟩)
   rw[hv] at c84
   by_cases h1:s.at_+1<s.n
   ·have hv':b8 (Bk.step ek mk s D).1.1 C=wrV C:=by unfold b8;rw[ha'.1,ha'.2,if_pos h1]
    rw[hv'] at hw
    refine(FH c84 hw).mono ?_
    rintro e w'' ⟨rfl,w',hA,rfl⟩
    exact⟨rfl,hA⟩
   ·have hv':b8 (Bk.step ek mk s D).1.1 C=flV C:=by unfold b8;rw[ha'.1,ha'.2,if_neg h1,if_pos (by omega)]
    rw[hv'] at hw
    refine(FI c84 hw).mono ?_
    rintro e w'' ⟨rfl,w',hA,rfl⟩
    exact⟨rfl,hA⟩
  ·by_cases hb:s.at_=s.n
   ·have hv:b8 s C=flV C:=by unfold b8;rw[if_neg ha,if_pos hb]
    have hst:(Bk.step ek mk s D).2=(false,0):=by rw[Bk.step,if_neg hL,if_neg ha,if_pos hb]
    have hv':b8 (Bk.step ek mk s D).1.1 C=fiV C:=by
     rw[Bk.step,if_neg hL,if_neg ha,if_pos hb]
     unfold b8
     show (if s.at_+1<s.n then _ else if s.at_+1=s.n then _ else _)=_
     rw[if_neg (by omega),if_neg (by omega)]
    rw[hst]
    have hw:=(zf hU hb).mono (R':=fun e w'=>e=.returned (fiV C)∧w'.cell? ⟨P,84,none⟩=some (flV C)∧w'.frozen? ⟨P,84,none⟩=false∧ji BL w F G (w'.setCell ⟨P,84,none⟩ (fiV C)) P d ek mk (Bk.step ek mk s D).1.1 (Bk.step ek mk s D).1.2) (by
     rintro e w' ⟨rfl,G',hu,hg,hc⟩
     have:=keep hu.head
     rw[hv] at this
     have hs:=still hu (fun _ hk=>.inl hk) hg (hc.mono fun k _ _ hk=>.inr hk)
     rw[hv'] at hs
     exact⟨congrArg Ending.returned hv',this.1,this.2,hs⟩)
    rw[hv] at c84
    refine(FL c84 hw).mono ?_
    rintro e w'' ⟨rfl,w',hA,rfl⟩
    exact⟨rfl,hA⟩
   ·have hat:=hC.atn
    have hv:b8 s C=fiV C:=by unfold b8;rw[if_neg ha,if_neg hb]
    have hst:Bk.step ek mk s D=((⟨s.n,s.ep+1,1 - s.af,Bk.b7 mk s.next,s.next,[],0,[]⟩,D),true,0):=by rw[Bk.step,if_neg hL,if_neg ha,if_neg hb]
    rw[hst]
    have hw:=(wW hU (by omega) hT fun k hk=>hNF k (hC2 k hk)).mono (R':=fun e w'=>e=.returned .nilFunc∧w'.cell? ⟨P,84,none⟩=some (fiV C)∧w'.frozen? ⟨P,84,none⟩=false∧ji BL w F G (w'.setCell ⟨P,84,none⟩ .nilFunc) P d ek mk ⟨s.n,s.ep+1,1 - s.af,Bk.b7 mk s.next,s.next,[],0,[]⟩ D) (by
     rintro e w' ⟨rfl,ew,S',V',hh,hf,hc⟩
     have hk:=keep hh
     rw[hv] at hk
     obtain ⟨hh2,hcp⟩:=hh.step .nilFunc
     have hcF:Chg (fun k _=>F k) w w':=hc.mono fun k _ _ hk=>hk.elim (fun e=>e ▸ hFP) fun h=>h.elim (fun e=>e ▸ hC1) (hC2 k)
     have hsz:(w'.setCell ⟨P,84,none⟩ Value.nilFunc).heap.size=w'.heap.size:=by simp [World.setCell]
     have E2:∀ k,ew k→k<w'.heap.size:=Mr.aL.lt hh.tree
     refine⟨rfl,hk.1,hk.2,fun k=>F k∨ew k,G,⟨ks,T2,ew,_,S',V',hh2,.inl hFP,fun k hk=>.inr hk,fun k hk=>?_,.inl ⟨rfl,rfl⟩⟩,(hD.stay hcF fun k _ hk hf=>hFG k hf hk).stay hcp fun k _ hk e=>hFG P hFP (e ▸ hk),fun k hk hk2=>?_,fun k hk=>?_,fun _ hk=>.inl hk,(hcF.mono fun k _ _ hk=>.inl hk).then (hcp.mono fun k _ _ e=>.inl (e ▸ hFP))⟩
     ·rw[hsz]
      exact hk.elim (fun h=>Nat.lt_of_lt_of_le (hFl k h) hcF.size) (E2 k)
     ·rcases hk with hk | hk
      ·exact hFG k hk hk2
      ·exact(hf k hk).elim (fun h=>hFG k (hC2 k h) hk2) fun h=>by have:=hD.lt k hk2;omega
     ·exact hk.elim .inl fun h=>(hf k h).elim (fun h=>.inl (hC2 k h)) .inr)
    rw[hv] at c84
    refine(FJ c84 hw).mono ?_
    rintro e w'' ⟨rfl,w',hA,rfl⟩
    exact⟨rfl,hA⟩
end Go.Proofs.YthbmknpbcgnabaaGreatDoor
