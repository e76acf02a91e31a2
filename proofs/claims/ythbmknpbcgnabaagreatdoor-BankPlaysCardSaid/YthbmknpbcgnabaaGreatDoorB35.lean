/- Of the walk. -/
import Derived.Test.YthbmknpbcgnabaaGreatDoorB34
set_option maxHeartbeats 40000000
namespace Go.Proofs.YthbmknpbcgnabaaGreatDoor
open Go.RowKit Aes Ctr Sl Dsk
theorem aG.lt {w:World} {F:Nat→Prop} {D:Nat} {L:List Blk} (h:aG w F D L):∀ k,F k→k<w.heap.size:=by
 obtain ⟨g,ps,h⟩:=h
 exact h.lt
theorem Ls {w:World} {g o n c:Nat} {bs:List UInt8} (h:Arg w (.slice (some ⟨g,o,none⟩) n c) bs) (hp:0<bs.length):g<w.heap.size:=by
 rcases h with ⟨A,e,hn⟩ | ⟨b,o',c',e,hb,_⟩
 ·rw[hn] at hp;simp at hp
 ·injection e with e1 _ _
  injection e1 with e1
  injection e1 with e1 _ _
  rw[e1];exact hb
theorem nmN (i:Nat) (h:i<2 ^ 32):nm (i:Int)=i:=by unfold nm;omega
structure fM (w:World) (P d:Nat) (ek mk:List UInt8) (s:Bk.Bn) (ks:List Value) (T:Nat) (FT:Nat→Prop) (nx:Value) (S:List Bool) (V:Nat) (C T2:Nat) (FT2 KB G:Nat→Prop) (rt:List UInt8) (bv:Value) (S2:List Bool) (D:List Blk):Prop where
 head:cQ w P d ek mk s ks T FT nx S V
 com:oQ w P mk s C T2 FT2 KB rt bv S2
 dN:aG w G d D
 dl:D.length=2*s.n
 FC:¬ FT C
 F2:∀ k,FT2 k→¬ FT k
 GP:¬ G P
 GC:¬ G C
 GF:∀ k,FT k→¬ G k
 G2:∀ k,FT2 k→¬ G k
 GK:∀ k,KB k→¬ G k
 KL:∀ k,KB k→k<w.heap.size
theorem fM.below {w w':World} {P d:Nat} {ek mk:List UInt8} {s:Bk.Bn} {ks:List Value} {T:Nat} {FT:Nat→Prop} {nx:Value} {S:List Bool} {V:Nat} {C T2:Nat} {FT2 KB G:Nat→Prop} {rt:List UInt8} {bv:Value} {S2:List Bool} {D:List Blk}
  (h:fM w P d ek mk s ks T FT nx S V C T2 FT2 KB G rt bv S2 D) (hb:Below w.heap.size w w'):fM w' P d ek mk s ks T FT nx S V C T2 FT2 KB G rt bv S2 D :=
 ⟨h.head.below hb,h.com.below hb,h.dN.below hb,h.dl,h.FC,h.F2,h.GP,h.GC,h.GF,h.G2,h.GK,fun k hk=>Nat.lt_of_lt_of_le (h.KL k hk) hb.size⟩
theorem fM.Ay {w:World} {P d:Nat} {ek mk:List UInt8} {s:Bk.Bn} {ks:List Value} {T:Nat} {FT:Nat→Prop} {nx:Value} {S:List Bool} {V:Nat} {C T2:Nat} {FT2 KB G:Nat→Prop} {rt:List UInt8} {bv:Value} {S2:List Bool} {D:List Blk}
  (h:fM w P d ek mk s ks T FT nx S V C T2 FT2 KB G rt bv S2 D) (n:Nat):fM (w.drewN n) P d ek mk s ks T FT nx S V C T2 FT2 KB G rt bv S2 D:=h.below (below_drewN (Below.refl _ _) n)
set_option maxRecDepth 100000
theorem y9 {w:World} {P d:Nat} {ek mk:List UInt8} {s:Bk.Bn} {ks:List Value} {T:Nat} {FT:Nat→Prop} {nx:Value} {S:List Bool} {V:Nat} {C T2:Nat} {FT2 KB G:Nat→Prop} {rt:List UInt8} {bv:Value} {S2:List Bool} {D:List Blk}
  (h:fM w P d ek mk s ks T FT nx S V C T2 FT2 KB G rt bv S2 D) (ha:s.at_<s.n) (hep:s.ep≤1000000) (hT:Hm.Tab w) :
  Calls Tryz.prog 51 #[PT C] w fun e w'=>e=.returned (b8 (Bk.step ek mk s D).1.1 C)∧∃ ew G' S2',fM w' P d ek mk (Bk.step ek mk s D).1.1 ks T FT nx S V C T2 ew KB G' rt bv S2' (Bk.step ek mk s D).1.2∧(∀ k,ew k→FT2 k∨w.heap.size≤k)∧(∀ k,G' k→G k∨w.heap.size≤k)∧Chg (fun k _=>k=C∨FT2 k∨G k) w w':=by
 have eU:=h.head.n100
 have h8:=h.head.n8
 have hb1:=h.head.b1
 have hkl:=h.head.kl
 have hL:s.L≠[]:=h.com.busy h8
 have hst:Bk.step ek mk s D=(({ s with at_:=s.at_+1,next:=s.next++[(Bk.put ek mk s.n (1 - s.af) s.at_ (s.ep+1) (s.L.getD s.at_ []) D).2] },(Bk.put ek mk s.n (1 - s.af) s.at_ (s.ep+1) (s.L.getD s.at_ []) D).1),false,0):=by rw[Bk.step,if_neg hL,if_pos ha]
 rw[hst]
 clear hst
 obtain ⟨Ab,cv,hbv⟩:=h.com.parts.form
 rw[h.com.len] at hbv
 obtain ⟨bb,ob,hAb,hbl,hKb,hcell⟩:=(hbv ▸ h.com.parts:aI w KB (.slice Ab s.n cv) s.L).at_ h.com.len (by omega)
 obtain ⟨A1,c1,hc1,Al⟩:=hcell s.at_ ha
 have EL:(s.L.getD s.at_ []).length=64:=h.com.l64 _ (by rw[List.getD_eq_getElem?_getD,List.getElem?_eq_getElem (by rw[h.com.len];exact ha)];exact List.getElem_mem _)
 rw[EL] at hc1 Al
 rw[hAb] at hbv
 obtain ⟨pl,hpl⟩:∃ x,x=s.L.getD s.at_ []:=⟨_,rfl⟩
 rw[← hpl] at EL Al ⊢
 obtain ⟨n,hn⟩:∃ x,x=s.n:=⟨_,rfl⟩
 obtain ⟨i,hi⟩:∃ x,x=s.at_:=⟨_,rfl⟩
 obtain ⟨i1,KH⟩:∃ x,x=i+1:=⟨_,rfl⟩
 obtain ⟨ep1,oK⟩:∃ x,x=s.ep+1:=⟨_,rfl⟩
 obtain ⟨bk1,qc⟩:∃ x,x=1 - s.af:=⟨_,rfl⟩
 obtain ⟨k,hk⟩:∃ x,x=bk1*n+i:=⟨_,rfl⟩
 obtain ⟨raw,ik⟩:∃ r,r=rw_ ek i ep1 pl:=⟨_,rfl⟩
 obtain ⟨tag,rh⟩:∃ r,r=tg mk i raw:=⟨_,rfl⟩
 have hput:Bk.put ek mk s.n (1 - s.af) s.at_ (s.ep+1) pl D=(bU D (k:Int) raw,tag):=by rw[rh,ik,hk,hn,hi,oK,qc];rfl
 rw[hput]
 have hrl:raw.length=72:=by rw[ik,kS,EL]
 have vV:min s.at_ s.n=i:=by rw[hi];omega
 have hcc:=h.com.at_.cells
 have HBV:=ae hbv
 have HU:=ae h
 have HS2:Hid (∀ W,Below w.heap.size w W→W.cell? ⟨C,0,none⟩=some (PT P)∧W.rangeAt P 1 ks∧W.cell? ⟨C,1,none⟩=some (.int .u64 (ep1:Int))∧W.cell? ⟨C,35,none⟩=some (.slice (some ⟨bb,ob,none⟩) n cv)∧W.cell? ⟨bb,ob+i,none⟩=some (.slice A1 64 c1)):=fun W hW=>by
  have hc:=(h.com.below hW).at_.cells
  refine⟨hc.1,(h.head.below hW).at_.ks.1,by rw[oK];exact hc.2.1,by rw[hn,← hbv];exact hc.2.2.2.1,?_⟩
  rw[hi]
  exact(World.cell?_of_block (w:=w) (hW.block bb hbl)).trans hc1
 have HCl:Hid (∀ W,Below w.heap.size w W→Calls Tryz.prog 90 #[.agg ks.toArray,IV i,.int .u64 (ep1:Int),.slice A1 64 c1] W fun e w'=>∃ g cap rs,e=.returned (.tuple #[.slice (some ⟨g,0,none⟩) 72 cap,.agg (List.toArray rs),.int .i64 0])∧W.heap.size≤g∧Arg w' (.slice (some ⟨g,0,none⟩) 72 cap) raw∧Hid (Vec 32 tag rs)∧Below W.heap.size W w'):=fun W hW=>by
  have:=Cx ek mk ks h.head.keys (i:Int) ep1 (by omega) pl EL _ W (hT.below hW) (Al.arg.below hW)
  rw[nmN i (by omega),← ik,← rh] at this
  refine this.mono ?_
  rintro e w' ⟨g,cap,rs,he,_,hg,hA,hV,hb⟩
  exact⟨g,cap,rs,he,hg,hA,hV,hb⟩
 have HCT:=ae hcc.2.2.2.2.1
 rw[vV] at HCT
 have HIn:Hid ((i:Int)<(n:Int)):=by show _<_;omega
 have HM1:Hid (IntKind.i64.wrap ((bk1:Int)*(n:Int))=((bk1*n:Nat):Int)):=by
  show _=_
  have:bk1*n≤100:=Nat.le_trans (Nat.mul_le_mul_right _ (show bk1≤1 by omega)) (by omega)
  rw[show (bk1:Int)*(n:Int)=((bk1*n:Nat):Int) by simp,IntWalk.i64_in _ (by omega)]
 have HM2:Hid (IntKind.i64.wrap (((bk1*n:Nat):Int)+(i:Int))=(k:Int)):=by
  show _=_
  have:bk1*n≤100:=Nat.le_trans (Nat.mul_le_mul_right _ (show bk1≤1 by omega)) (by omega)
  rw[IntWalk.i64_in _ (by omega),hk];simp
 have HM3:Hid (IntKind.i64.wrap ((i:Int)+1)=(i1:Int)):=by show _=_;rw[IntWalk.i64_in _ (by omega),KH];simp
 have HI1:=ae KH
 have HRl:=ae hrl
 have hi1:(Tryz.prog.info? 29).map (·.size)=some ks.length:=by rw[hkl];kernel_rfl
 have HTl:Hid (tag.length=32):=by show _=_;rw[rh,jk]
 have HNi:Hid (i<n∧n≤100):=⟨by omega,by omega⟩
 have HN:=ae hn
 have HI:=ae hi
 have HE1:=ae oK
 have HB1:=ae qc
 have hz:=Hm.eM
 generalize bk1*n=bn at HM1 HM2
 clear h ha hep hT eU h8 hb1 hkl hL hbv hAb hbl hKb hcell hc1 Al EL hpl hn hi KH oK qc hk ik rh hput hrl vV hcc
 go_enter Tryz.func51,Tryz.ntmps51
 have hct:=HCT.out
 go_wp2_with fail
 clear hct HCT
 have ai:=HS2
 have hC:Below w.heap.size w w.drew:=below_drewN (Below.refl _ _) 1
 refine wp_region_held_drew (S:=(fun W=>W.cell? ⟨C,0,none⟩=some (PT P)∧W.rangeAt P 1 ks∧W.cell? ⟨C,1,none⟩=some (.int .u64 (ep1:Int))∧W.cell? ⟨C,35,none⟩=some (.slice (some ⟨bb,ob,none⟩) n cv)∧W.cell? ⟨bb,ob+i,none⟩=some (.slice A1 64 c1))) (by kernel_rfl) (ai.out _ hC) (fun aa=>?_)
 generalize w.drew=wd at *
 refine tkq 0 12 aa ?_
 try go_frame
 refine tkq 1 13 aa ?_
 try go_frame
 refine tkq 2 14 aa ?_
 try go_frame
 refine tkh 3 15 rfl aa ?_ (Or.inl ⟨by rfl,by intro w hSw;have hc:=hSw.1;go_simp;with_reducible rfl⟩)
 try go_frame
 refine tkq 4 16 aa ?_
 try go_frame
 refine tkq 5 17 aa ?_
 try go_frame
 refine tkh 6 18 (v:=.agg (ks).toArray) rfl aa ?_ (yieldsIf_load_mid (by rfl) 29 (.tmp 17) rfl (P) 1 rfl (ks) _ (fun W h=>h.2.1) Tryz.underlying29 rfl hi1)
 try go_frame
 refine tkq 7 19 aa ?_
 try go_frame
 refine tkq 8 20 aa ?_
 try go_frame
 refine tkq 9 21 aa ?_
 try go_frame
 refine tkq 10 22 aa ?_
 try go_frame
 refine tkq 11 23 aa ?_
 try go_frame
 refine tkh 12 24 rfl aa ?_ (Or.inl ⟨by rfl,by intro w hSw;have hc:=hSw.2.2.1;go_simp;with_reducible rfl⟩)
 try go_frame
 refine tkq 13 25 aa ?_
 try go_frame
 refine tkq 14 26 aa ?_
 try go_frame
 refine tkq 15 27 aa ?_
 try go_frame
 refine tkh 16 28 rfl aa ?_ (Or.inl ⟨by rfl,by intro w hSw;have hc:=hSw.2.2.2.1;go_simp;with_reducible rfl⟩)
 try go_frame
 refine tkq 17 29 aa ?_
 try go_frame
 refine tkh 18 30 rfl aa ?_ (Or.inl ⟨by rfl,by intro w hSw;have hc:=HIn.out;go_simp;with_reducible rfl⟩)
 try go_frame
 refine tkh 19 31 rfl aa ?_ (Or.inl ⟨by rfl,by intro w hSw;have hc:=hSw.2.2.2.2;go_simp;with_reducible rfl⟩)
 try go_frame
 refine wpAnyH_ready (rs:=[20,25]) (by kernel_rfl) (by simp) ?_
 refine AllReadyH.cons (o:=⟨some 32,_,_,_,_,_⟩) rfl (fun K hK=>?_) ?_
 ·skip
  go_simp
  go_at_call 90
  refine(HCl.out wd hC).mono ?_
  rintro e lj ⟨yw,cap,rs,rfl,NQ,hAr,Hrs,hb⟩
  have j7:Hid (Arg lj (.slice (some ⟨yw,0,none⟩) 72 cap) raw):=hAr
  replace hC:=hC.trans (hb.mono hC.size)
  refine hK.out _ _ (ai.out _ hC) (fun aa=>?_)
  clear hK K hb 
  have Hsz:Hid (rs.toArray.size=32):=Hrs.out.size
  have aN:Hid (rs.toArray.all (·.oneCell')=true):=Hrs.out.one
  clear hAr
  try go_frame
  refine tkq 21 11 aa ?_
  try go_frame
  refine tkq 22 33 aa ?_
  try go_frame
  refine tkq 23 34 aa ?_
  try go_frame
  refine tkq 24 35 aa ?_
  try go_frame
  refine rdq 25 5 fun K hK=>?_
  go_simp
  have hb:Below lj.heap.size lj (lj.alloc (.cells Hm.Z32.toArray 27)):=Joins.below_alloc1 _ _
  have vW:=hC.size
  obtain ⟨fB,oB⟩:∃ g,Hid (g=lj.heap.size):=⟨_,rfl⟩
  have jZ:Hid (Row (lj.alloc (.cells Hm.Z32.toArray 27)) lj.heap.size 27 Hm.Z32):=Row.new lj 27 _
  have HNE:Hid (yw≠lj.heap.size):=by have:=Ls j7.out (by rw[HRl.out];omega);show _≠_;omega
  replace hC:=hC.trans (hb.mono hC.size)
  replace j7:=ae (j7.out.below hb)
  refine hK.out _ _ (ai.out _ hC) (fun aa=>?_)
  clear hK K hb
  generalize (lj.alloc (.cells Hm.Z32.toArray 27))=C0 at *
  rw[← oB.out] at vW ⊢
  rw[← oB.out] at jZ
  rw[← oB.out] at HNE
  clear oB
  try go_frame
  refine tkq 26 4 aa ?_
  try go_frame
  refine rdn 27 fun K hK=>?_
  rw[if_pos (by rfl)]
  refine Go.wp_store_row 27 (.tmp 5) (.tmp 34) rfl fB rs.toArray rfl rfl 27 _ jZ.out (by rw[Hsz.out];kernel_rfl) (by rw[Hsz.out];rfl) aN.out ?_
  replace jZ:=ae (jZ.out.whole rs)
  replace hC:=ag hC (k:=fB) vW rs.toArray
  replace j7:=ae (j7.out.off HNE.out rs.toArray)
  refine hK.out _ _ (ai.out _ hC) (fun aa=>?_)
  clear hK K
  generalize (C0.setRow fB rs.toArray)=nW at *
  try go_frame
  refine tkq 28 6 aa ?_
  try go_frame
  refine wpAnyH_done (by kernel_rfl) ?_ _
  clear aa ai HNE hz HCl
  have HBw:=ae hC
  have HGT:Hid (¬ G fB):=fun hg=>by have:=HU.out.dN.lt _ hg;omega
  have HT6:Hid (∀ k,FT2 k→k≠fB):=fun k hk e=>by have:=Mr.aL.lt HU.out.com.tree k hk;omega
  have HU2:Hid (fM nW P d ek mk s ks T FT nx S V C T2 FT2 KB G rt bv S2 D):=⟨HU.out.head.below hC,HU.out.com.below hC,HU.out.dN.below hC,HU.out.dl,HU.out.FC,HU.out.F2,HU.out.GP,HU.out.GC,HU.out.GF,HU.out.G2,HU.out.GK,fun k hk=>Nat.lt_of_lt_of_le (HU.out.KL k hk) hC.size⟩
  clear hC HU
  generalize nW=w5 at *
  go_wp2_with fail
  have HS3:Hid (∀ W,Chg (fun k _=>G k) w5 W→(fun W=>W.cell? ⟨C,0,none⟩=some (PT P)∧W.cell? ⟨P,0,none⟩=some (PT d)∧W.cell? ⟨C,2,none⟩=some (IV bk1)∧W.cell? ⟨C,35,none⟩=some (.slice (some ⟨bb,ob,none⟩) n cv)) W):=fun W hW=>by
   have hc:=(HU2.out.com.chg hW (fun _=>HU2.out.GC) (fun k _ hk=>HU2.out.G2 k hk) (fun k _ hk=>HU2.out.GK k hk)).at_.cells
   have hp:=(HU2.out.head.chg hW (fun _=>HU2.out.GP) (fun k _ hk=>HU2.out.GF k hk)).at_.cells
   exact⟨hc.1,hp.1,by rw[HB1.out];exact hc.2.2.1,by rw[HN.out,← HBV.out];exact hc.2.2.2.1⟩
  have HDr:Hid (Chg (fun k _=>G k) w5 w5.drew):=(Chg.refl _ w5).drew
  have HDk:Hid (aG w5.drew G d D):=HU2.out.dN.below (below_drewN (Below.refl _ _) 1)
  have HAr:Hid (Arg w5.drew (.slice (some ⟨yw,0,none⟩) 72 cap) raw):=j7.out.below (below_drewN (Below.refl _ _) 1)
  refine wp_region_held_drew (S:=(fun W=>W.cell? ⟨C,0,none⟩=some (PT P)∧W.cell? ⟨P,0,none⟩=some (PT d)∧W.cell? ⟨C,2,none⟩=some (IV bk1)∧W.cell? ⟨C,35,none⟩=some (.slice (some ⟨bb,ob,none⟩) n cv))) (by kernel_rfl) (HS3.out _ HDr.out) (fun aa=>?_)
  generalize w5.drew=w5d at *
  refine tkq 0 36 aa ?_
  try go_frame
  refine tkq 1 37 aa ?_
  try go_frame
  refine tkq 2 38 aa ?_
  try go_frame
  refine tkh 3 39 rfl aa ?_ (Or.inl ⟨by rfl,by intro w hSw;have hc:=hSw.1;go_simp;with_reducible rfl⟩)
  try go_frame
  refine tkq 4 40 aa ?_
  try go_frame
  refine tkq 5 41 aa ?_
  try go_frame
  refine tkh 6 42 rfl aa ?_ (Or.inl ⟨by rfl,by intro w hSw;have hc:=hSw.2.1;go_simp;with_reducible rfl⟩)
  try go_frame
  refine tkq 7 43 aa ?_
  try go_frame
  refine tkq 8 44 aa ?_
  try go_frame
  refine tkq 9 45 aa ?_
  try go_frame
  refine tkq 10 46 aa ?_
  try go_frame
  refine tkh 11 47 rfl aa ?_ (Or.inl ⟨by rfl,by intro w hSw;have hc:=hSw.2.2.1;go_simp;with_reducible rfl⟩)
  try go_frame
  refine tkq 12 48 aa ?_
  try go_frame
  refine tkq 13 49 aa ?_
  try go_frame
  refine tkq 14 50 aa ?_
  try go_frame
  refine tkh 15 51 rfl aa ?_ (Or.inl ⟨by rfl,by intro w hSw;have hc:=hSw.2.2.2;go_simp;with_reducible rfl⟩)
  try go_frame
  refine tkq 16 52 aa ?_
  try go_frame
  refine tkh 17 53 rfl aa ?_ (Or.inl ⟨by rfl,by intro w hSw;have hm:=HM1.out;go_simp;with_reducible rfl⟩)
  try go_frame
  refine tkq 18 54 aa ?_
  try go_frame
  refine tkh 19 55 rfl aa ?_ (Or.inl ⟨by rfl,by intro w hSw;have hm:=HM2.out;go_simp;with_reducible rfl⟩)
  try go_frame
  refine tkq 20 56 aa ?_
  try go_frame
  refine rdq 21 57 fun K hK=>?_
  go_simp
  go_at_call 91
  refine(qT HDk.out (k:Int) _ raw HAr.out).mono ?_
  rintro e w6 ⟨rfl,G',hD6,hG6,hC6⟩
  have HD6:=ae hD6
  have HG6:Hid (∀ k,G' k→G k∨w5.heap.size≤k):=fun k hk=>(hG6 k hk).imp id (Nat.le_trans HDr.out.size)
  have HC6:Hid (Chg (fun k _=>G k) w5 w6):=HDr.out.then hC6
  clear hD6 hG6 hC6
  refine hK.out _ _ (HS3.out _ HC6.out) (fun aa=>?_)
  clear hK K
  try go_frame
  refine wpAnyH_done (by kernel_rfl) ?_ _
  clear aa HDr HDk HAr HS3
  have HGx:Hid (∀ k,G k→k<w5.heap.size):=HU2.out.dN.lt
  have HX:Hid (cQ w6 P d ek mk s ks T FT nx S V∧oQ w6 P mk s C T2 FT2 KB rt bv S2):=⟨HU2.out.head.chg HC6.out (fun _=>HU2.out.GP) (fun k _ hk=>HU2.out.GF k hk),HU2.out.com.chg HC6.out (fun _=>HU2.out.GC) (fun k _ hk=>HU2.out.G2 k hk) (fun k _ hk=>HU2.out.GK k hk)⟩
  have HR6:Hid (Row w6 fB 27 rs):=jZ.out.same (HC6.out.block fB jZ.out.lt fun _ hg=>HGT.out hg)
  clear j7 jZ
  have HS4:Hid (∀ W,Chg (fun k _=>FT2 k) w6 W→(fun W=>W.cell? ⟨C,37,none⟩=some (PT T2)∧W.rangeAt fB 0 rs) W):=fun W hW=>⟨(HX.out.2.at_.chg hW fun _=>HX.out.2.CF).cells.2.2.2.2.2,(HR6.out.here.chg hW fun j _ hk=>HT6.out _ hk rfl).1⟩
  have HDr:Hid (Chg (fun k _=>FT2 k) w6 w6.drew):=(Chg.refl _ w6).drew
  have HTr:Hid (Mr.T9 w6.drew FT2 T2 mk (s.next++List.replicate (s.n - s.next.length) Mr.Mk.zero) S2 0):=Mr.aL.stay HX.out.2.tree (Chg.below (below_drewN (Below.refl _ _) 1) fun _ _=>False) fun _ _ _ x=>x
  have HLt:Hid (i<(s.next++List.replicate (s.n - s.next.length) Mr.Mk.zero).length):=by
   have h1:=HX.out.2.ye
   have h2:=HNi.out.1
   have h3:=HN.out
   have h4:=HI.out
   show _<_
   rw[List.length_append,List.length_replicate,h1]
   omega
  have hi2:(Tryz.prog.info? 27).map (·.size)=some rs.length:=by rw[← List.size_toArray,Hsz.out];kernel_rfl
  go_wp2_with fail
  refine wp_region_held_drew (S:=(fun W=>W.cell? ⟨C,37,none⟩=some (PT T2)∧W.rangeAt fB 0 rs)) (by kernel_rfl) (HS4.out _ HDr.out) (fun aa=>?_)
  generalize w6.drew=w6d at *
  refine tkq 0 58 aa ?_
  try go_frame
  refine tkq 1 59 aa ?_
  try go_frame
  refine tkq 2 60 aa ?_
  try go_frame
  refine tkh 3 61 rfl aa ?_ (Or.inl ⟨by rfl,by intro w hSw;have hc:=hSw.1;go_simp;with_reducible rfl⟩)
  try go_frame
  refine tkq 4 62 aa ?_
  try go_frame
  refine tkh 5 63 (v:=.agg (rs).toArray) rfl aa ?_ (yieldsIf_load_mid (by rfl) 27 (.tmp 5) rfl (fB) 0 rfl (rs) _ (fun W h=>h.2) Tryz.underlying27 rfl hi2)
  try go_frame
  refine rdq 6 64 fun K hK=>?_
  go_simp
  go_at_call 35
  refine(Mr.aL.zL HTr.out i tag rs HLt.out Hrs.out).mono ?_
  rintro e w7 ⟨rfl,ew,hT7,hF7,hC7⟩
  have HT7:=ae hT7
  have HF7:Hid (∀ k,ew k→FT2 k∨w6.heap.size≤k):=fun k hk=>(hF7 k hk).imp id (Nat.le_trans HDr.out.size)
  have HC7:Hid (Chg (fun k _=>FT2 k) w6 w7):=HDr.out.then hC7
  clear hT7 hF7 hC7
  refine hK.out _ _ (HS4.out _ HC7.out) (fun aa=>?_)
  clear hK K
  try go_frame
  refine wpAnyH_done (by kernel_rfl) ?_ _
  clear aa HDr HTr HLt HS4 HR6 hi2
  have HN5:Hid (Below w.heap.size w w5):=HBw.out
  have rB:Hid (w7.cell? ⟨C,36,none⟩=some (IV i)∧w7.frozen? ⟨C,36,none⟩=false∧(w7.setCell ⟨C,36,none⟩ (IV i1)).cell? ⟨C,36,none⟩=some (IV i1)∧(w7.setCell ⟨C,36,none⟩ (IV i1)).cell? ⟨C,35,none⟩=some (.slice (some ⟨bb,ob,none⟩) n cv)
    ∧ fM (w7.setCell ⟨C,36,none⟩ (IV i1)) P d ek mk { s with at_:=s.at_+1,next:=s.next++[tag] } ks T FT nx S V C T2 ew KB G' rt bv (S2.set i true) (bU D (k:Int) raw)∧(∀ k,ew k→FT2 k∨w.heap.size≤k)∧(∀ k,G' k→G k∨w.heap.size≤k)∧Chg (fun k _=>k=C∨FT2 k∨G k) w (w7.setCell ⟨C,36,none⟩ (IV i1))):=by
   have hi:=HI.out
   have hn:=HN.out
   have hin:=HNi.out.1
   have hs5:=HN5.out.size
   have hs6:=HC6.out.size
   have vV:min s.at_ s.n=i:=by omega
   have hH7:=HX.out.1.chg HC7.out (fun _=>HX.out.2.PF) (fun k _ hk h2=>HU2.out.F2 k h2 hk)
   have hc7:=HX.out.2.at_.chg HC7.out fun _=>HX.out.2.CF
   rw[vV] at hc7
   have hp7:=HX.out.2.parts.chg HC7.out fun k _ hk h2=>HX.out.2.KF k hk h2
   have hFl:∀ k,FT2 k→k<w5.heap.size:=Mr.aL.lt HU2.out.com.tree
   have hG5:∀ k,G' k→¬ FT2 k:=fun k hk h2=>(HG6.out k hk).elim (fun hg=>HU2.out.G2 k h2 hg) fun hl=>by have:=hFl k h2;omega
   have hd7:=HD6.out.stay HC7.out fun k _ hk h2=>hG5 k hk h2
   have hCl:C<w5.heap.size:=HU2.out.com.at_.c0.lt (by simp)
   have hPl:P<w5.heap.size:=HU2.out.head.at_.c0.lt (by simp)
   have yq:∀ k,FT k→k<w5.heap.size:=Mr.aL.lt HU2.out.head.tree
   have hFP:∀ k,ew k→FT2 k∨w6.heap.size≤k:=HF7.out
   have hcw:=hc7.wrote HX.out.2.r32 i1
   have hc8:Chg (fun k _=>k=C) w7 (w7.setCell ⟨C,36,none⟩ (IV i1)):=(Chg.refl _ w7).setCell (p:=⟨C,36,none⟩) rfl (fun _=>rfl) (by rw[bX hc7.c36];rfl) _
   have hnl:s.next.length=i:=by rw[HX.out.2.ye,vV]
   have vT:(s.next++List.replicate (s.n - s.next.length) Mr.Mk.zero).set i tag=(s.next++[tag])++List.replicate (s.n - (s.next++[tag]).length) Mr.Mk.zero:=by
    rw[List.length_append,hnl,List.length_singleton,show s.n - i=(s.n - (i+1))+1 by omega,List.replicate_succ,List.append_assoc,List.singleton_append,← hnl]
    simp
   have hKl:∀ k,KB k→k≠C:=fun k hk e=>HX.out.2.KC (e ▸ hk)
   have hT8:=Mr.aL.stay HT7.out hc8 fun k _ hk e=>by
    subst e
    exact(hFP k hk).elim HX.out.2.CF fun hl=>by omega
   rw[vT] at hT8
   refine⟨bX hc7.c36,by have:=hc7.c36.free (j:=0) (by simp);rwa [Nat.add_zero] at this,bX hcw.c36,by rw[bX hcw.c35,HBV.out,hn],⟨?_,?_,?_,?_,HU2.out.FC,fun k hk h2=>?_,fun hk=>?_,fun hk=>?_,fun k h2 hk=>?_,fun k h2 hk=>?_,fun k h2 hk=>?_,fun k hk=>Nat.lt_of_lt_of_le (HU2.out.KL k hk) (Nat.le_trans hs6 (Nat.le_trans HC7.out.size hc8.size))⟩,fun k hk=>(hFP k hk).imp id fun h=>by omega,fun k hk=>(HG6.out k hk).imp id fun h=>by omega,?_⟩
   ·have hx:=hH7.chg hc8 (fun _ e=>HX.out.2.CP e.symm) fun k _ hk e=>HU2.out.FC (e ▸ hk)
    exact⟨hx.at_,hx.keys,hx.tree,hx.tl,hx.n8,hx.r32,hx.b1,hx.PF⟩
   ·refine⟨?_,HX.out.2.r32,hT8,hp7.chg hc8 fun k _ hk e=>hKl k hk e,HX.out.2.len,HX.out.2.l64,by show s.at_+1≤s.n+1;omega,?_,fun hk=>(hFP C hk).elim HX.out.2.CF fun h=>by omega,fun hk=>(hFP P hk).elim HX.out.2.PF fun h=>by omega,fun k hk h2=>?_,HX.out.2.KC,HX.out.2.KP,HX.out.2.CP⟩
    ·show gJ _ C P (s.ep+1) (1 - s.af) rt bv (min (s.at_+1) s.n) T2
     rw[show min (s.at_+1) s.n=i1 by rw[HI1.out];omega]
     exact hcw
    ·show (s.next++[tag]).length=min (s.at_+1) s.n
     rw[List.length_append,hnl,List.length_singleton];omega
    ·rcases hFP k h2 with h | h
     ·exact HX.out.2.KF k hk h
     ·have:=HU2.out.KL k hk;omega
   ·exact hd7.stay hc8 fun k _ hk e=>by
     subst e
     exact(HG6.out k hk).elim HU2.out.GC fun h=>by omega
   ·rw[← HU2.out.dl]
    unfold bU
    split
    ·exact gv _ _ _
    ·rfl
   ·rcases hFP k hk with h | h
    ·exact HU2.out.F2 k h h2
    ·have:=yq k h2;omega
   ·exact(HG6.out P hk).elim HU2.out.GP fun h=>by omega
   ·exact(HG6.out C hk).elim HU2.out.GC fun h=>by omega
   ·exact(HG6.out k hk).elim (HU2.out.GF k h2) fun h=>by have:=yq k h2;omega
   ·rcases hFP k h2 with h | h
    ·exact hG5 k hk h
    ·have:=HD6.out.lt k hk;omega
   ·rcases HG6.out k hk with h | h
    ·exact HU2.out.GK k h2 h
    ·have:=HU2.out.KL k h2;omega
   ·refine((Chg.below HN5.out _).then ((HC6.out.mono fun k _ _ hk=>.inr (.inr hk)).then ((HC7.out.mono fun k _ _ hk=>.inr (.inl hk)).then (hc8.mono fun k _ _ hk=>.inl hk))))
  have HD8:Hid (b8 { s with at_:=s.at_+1,next:=s.next++[tag] } C=if i1<n then wrV C else flV C):=by
   show _=_
   have hi:=HI.out
   have hn:=HN.out
   have Qj:=HI1.out
   have hin:=HNi.out.1
   unfold b8
   show (if s.at_+1<s.n then _ else if s.at_+1=s.n then _ else _)=_
   by_cases h:i1<n
   ·rw[if_pos h,if_pos (by omega)]
   ·rw[if_neg h,if_neg (by omega),if_pos (by omega)]
  obtain ⟨c36,f36,QI,QJ,HFn⟩:=rB.out
  have kP:=ae HFn
  have hm3:=HM3.out
  clear rB HFn HX HC6 HC7 HD6 HG6 HT7 HF7 HU2 HBw HN5 HGx
  by_cases hlt:i1<n
  ·go_wp2_with fail
   generalize w7.setCell ⟨C,36,none⟩ (IV i1)=w8 at *
   go_quiet (fail)
   go_wp2
   go_ret
   exact⟨congrArg Ending.returned (HD8.out.trans (if_pos hlt)).symm,_,_,_,kP.out.1.Ay _,kP.out.2.1,kP.out.2.2.1,kP.out.2.2.2.drewN _⟩
  ·go_wp2_with fail
   generalize w7.setCell ⟨C,36,none⟩ (IV i1)=w8 at *
   go_quiet (fail)
   go_wp2
   go_ret
   exact⟨congrArg Ending.returned (HD8.out.trans (if_neg hlt)).symm,_,_,_,kP.out.1.Ay _,kP.out.2.1,kP.out.2.2.1,kP.out.2.2.2.drewN _⟩
 refine AllReadyH.cons (o:=⟨some 5,_,_,_,_,_⟩) rfl (fun K hK=>?_) ?_
 ·skip
  go_simp
  have hb:Below wd.heap.size wd (wd.alloc (.cells Hm.Z32.toArray 27)):=Joins.below_alloc1 _ _
  have vW:=hC.size
  obtain ⟨fB,oB⟩:∃ g,Hid (g=wd.heap.size):=⟨_,rfl⟩
  have jZ:Hid (Row (wd.alloc (.cells Hm.Z32.toArray 27)) wd.heap.size 27 Hm.Z32):=Row.new wd 27 _
  replace hC:=hC.trans (hb.mono hC.size)
  refine hK.out _ _ (ai.out _ hC) (fun aa=>?_)
  clear hK K hb
  generalize (wd.alloc (.cells Hm.Z32.toArray 27))=L6 at *
  rw[← oB.out] at vW ⊢
  rw[← oB.out] at jZ
  clear oB
  try go_frame
  refine rdq 20 32 fun K hK=>?_
  go_simp
  go_at_call 90
  refine(HCl.out L6 hC).mono ?_
  rintro e u2 ⟨yw,cap,rs,rfl,NQ,hAr,Hrs,hb⟩
  have j7:Hid (Arg u2 (.slice (some ⟨yw,0,none⟩) 72 cap) raw):=hAr
  have HNE:Hid (yw≠fB):=by have:=jZ.out.lt;show _≠_;omega
  replace hC:=hC.trans (hb.mono hC.size)
  replace jZ:=ae (jZ.out.below hb jZ.out.lt)
  refine hK.out _ _ (ai.out _ hC) (fun aa=>?_)
  clear hK K hb 
  have Hsz:Hid (rs.toArray.size=32):=Hrs.out.size
  have aN:Hid (rs.toArray.all (·.oneCell')=true):=Hrs.out.one
  clear hAr
  try go_frame
  refine tkq 21 11 aa ?_
  try go_frame
  refine tkq 22 33 aa ?_
  try go_frame
  refine tkq 23 34 aa ?_
  try go_frame
  refine tkq 24 35 aa ?_
  try go_frame
  refine tkq 26 4 aa ?_
  try go_frame
  refine rdn 27 fun K hK=>?_
  rw[if_pos (by rfl)]
  refine Go.wp_store_row 27 (.tmp 5) (.tmp 34) rfl fB rs.toArray rfl rfl 27 _ jZ.out (by rw[Hsz.out];kernel_rfl) (by rw[Hsz.out];rfl) aN.out ?_
  replace jZ:=ae (jZ.out.whole rs)
  replace hC:=ag hC (k:=fB) vW rs.toArray
  replace j7:=ae (j7.out.off HNE.out rs.toArray)
  refine hK.out _ _ (ai.out _ hC) (fun aa=>?_)
  clear hK K
  generalize (u2.setRow fB rs.toArray)=nV at *
  try go_frame
  refine tkq 28 6 aa ?_
  try go_frame
  refine wpAnyH_done (by kernel_rfl) ?_ _
  clear aa ai HNE hz HCl
  have HBw:=ae hC
  have HGT:Hid (¬ G fB):=fun hg=>by have:=HU.out.dN.lt _ hg;omega
  have HT6:Hid (∀ k,FT2 k→k≠fB):=fun k hk e=>by have:=Mr.aL.lt HU.out.com.tree k hk;omega
  have HU2:Hid (fM nV P d ek mk s ks T FT nx S V C T2 FT2 KB G rt bv S2 D):=⟨HU.out.head.below hC,HU.out.com.below hC,HU.out.dN.below hC,HU.out.dl,HU.out.FC,HU.out.F2,HU.out.GP,HU.out.GC,HU.out.GF,HU.out.G2,HU.out.GK,fun k hk=>Nat.lt_of_lt_of_le (HU.out.KL k hk) hC.size⟩
  clear hC HU
  generalize nV=w5 at *
  go_wp2_with fail
  have HS3:Hid (∀ W,Chg (fun k _=>G k) w5 W→(fun W=>W.cell? ⟨C,0,none⟩=some (PT P)∧W.cell? ⟨P,0,none⟩=some (PT d)∧W.cell? ⟨C,2,none⟩=some (IV bk1)∧W.cell? ⟨C,35,none⟩=some (.slice (some ⟨bb,ob,none⟩) n cv)) W):=fun W hW=>by
   have hc:=(HU2.out.com.chg hW (fun _=>HU2.out.GC) (fun k _ hk=>HU2.out.G2 k hk) (fun k _ hk=>HU2.out.GK k hk)).at_.cells
   have hp:=(HU2.out.head.chg hW (fun _=>HU2.out.GP) (fun k _ hk=>HU2.out.GF k hk)).at_.cells
   exact⟨hc.1,hp.1,by rw[HB1.out];exact hc.2.2.1,by rw[HN.out,← HBV.out];exact hc.2.2.2.1⟩
  have HDr:Hid (Chg (fun k _=>G k) w5 w5.drew):=(Chg.refl _ w5).drew
  have HDk:Hid (aG w5.drew G d D):=HU2.out.dN.below (below_drewN (Below.refl _ _) 1)
  have HAr:Hid (Arg w5.drew (.slice (some ⟨yw,0,none⟩) 72 cap) raw):=j7.out.below (below_drewN (Below.refl _ _) 1)
  refine wp_region_held_drew (S:=(fun W=>W.cell? ⟨C,0,none⟩=some (PT P)∧W.cell? ⟨P,0,none⟩=some (PT d)∧W.cell? ⟨C,2,none⟩=some (IV bk1)∧W.cell? ⟨C,35,none⟩=some (.slice (some ⟨bb,ob,none⟩) n cv))) (by kernel_rfl) (HS3.out _ HDr.out) (fun aa=>?_)
  generalize w5.drew=w5d at *
  refine tkq 0 36 aa ?_
  try go_frame
  refine tkq 1 37 aa ?_
  try go_frame
  refine tkq 2 38 aa ?_
  try go_frame
  refine tkh 3 39 rfl aa ?_ (Or.inl ⟨by rfl,by intro w hSw;have hc:=hSw.1;go_simp;with_reducible rfl⟩)
  try go_frame
  refine tkq 4 40 aa ?_
  try go_frame
  refine tkq 5 41 aa ?_
  try go_frame
  refine tkh 6 42 rfl aa ?_ (Or.inl ⟨by rfl,by intro w hSw;have hc:=hSw.2.1;go_simp;with_reducible rfl⟩)
  try go_frame
  refine tkq 7 43 aa ?_
  try go_frame
  refine tkq 8 44 aa ?_
  try go_frame
  refine tkq 9 45 aa ?_
  try go_frame
  refine tkq 10 46 aa ?_
  try go_frame
  refine tkh 11 47 rfl aa ?_ (Or.inl ⟨by rfl,by intro w hSw;have hc:=hSw.2.2.1;go_simp;with_reducible rfl⟩)
  try go_frame
  refine tkq 12 48 aa ?_
  try go_frame
  refine tkq 13 49 aa ?_
  try go_frame
  refine tkq 14 50 aa ?_
  try go_frame
  refine tkh 15 51 rfl aa ?_ (Or.inl ⟨by rfl,by intro w hSw;have hc:=hSw.2.2.2;go_simp;with_reducible rfl⟩)
  try go_frame
  refine tkq 16 52 aa ?_
  try go_frame
  refine tkh 17 53 rfl aa ?_ (Or.inl ⟨by rfl,by intro w hSw;have hm:=HM1.out;go_simp;with_reducible rfl⟩)
  try go_frame
  refine tkq 18 54 aa ?_
  try go_frame
  refine tkh 19 55 rfl aa ?_ (Or.inl ⟨by rfl,by intro w hSw;have hm:=HM2.out;go_simp;with_reducible rfl⟩)
  try go_frame
  refine tkq 20 56 aa ?_
  try go_frame
  refine rdq 21 57 fun K hK=>?_
  go_simp
  go_at_call 91
  refine(qT HDk.out (k:Int) _ raw HAr.out).mono ?_
  rintro e w6 ⟨rfl,G',hD6,hG6,hC6⟩
  have HD6:=ae hD6
  have HG6:Hid (∀ k,G' k→G k∨w5.heap.size≤k):=fun k hk=>(hG6 k hk).imp id (Nat.le_trans HDr.out.size)
  have HC6:Hid (Chg (fun k _=>G k) w5 w6):=HDr.out.then hC6
  clear hD6 hG6 hC6
  refine hK.out _ _ (HS3.out _ HC6.out) (fun aa=>?_)
  clear hK K
  try go_frame
  refine wpAnyH_done (by kernel_rfl) ?_ _
  clear aa HDr HDk HAr HS3
  have HGx:Hid (∀ k,G k→k<w5.heap.size):=HU2.out.dN.lt
  have HX:Hid (cQ w6 P d ek mk s ks T FT nx S V∧oQ w6 P mk s C T2 FT2 KB rt bv S2):=⟨HU2.out.head.chg HC6.out (fun _=>HU2.out.GP) (fun k _ hk=>HU2.out.GF k hk),HU2.out.com.chg HC6.out (fun _=>HU2.out.GC) (fun k _ hk=>HU2.out.G2 k hk) (fun k _ hk=>HU2.out.GK k hk)⟩
  have HR6:Hid (Row w6 fB 27 rs):=jZ.out.same (HC6.out.block fB jZ.out.lt fun _ hg=>HGT.out hg)
  clear j7 jZ
  have HS4:Hid (∀ W,Chg (fun k _=>FT2 k) w6 W→(fun W=>W.cell? ⟨C,37,none⟩=some (PT T2)∧W.rangeAt fB 0 rs) W):=fun W hW=>⟨(HX.out.2.at_.chg hW fun _=>HX.out.2.CF).cells.2.2.2.2.2,(HR6.out.here.chg hW fun j _ hk=>HT6.out _ hk rfl).1⟩
  have HDr:Hid (Chg (fun k _=>FT2 k) w6 w6.drew):=(Chg.refl _ w6).drew
  have HTr:Hid (Mr.T9 w6.drew FT2 T2 mk (s.next++List.replicate (s.n - s.next.length) Mr.Mk.zero) S2 0):=Mr.aL.stay HX.out.2.tree (Chg.below (below_drewN (Below.refl _ _) 1) fun _ _=>False) fun _ _ _ x=>x
  have HLt:Hid (i<(s.next++List.replicate (s.n - s.next.length) Mr.Mk.zero).length):=by
   have h1:=HX.out.2.ye
   have h2:=HNi.out.1
   have h3:=HN.out
   have h4:=HI.out
   show _<_
   rw[List.length_append,List.length_replicate,h1]
   omega
  have hi2:(Tryz.prog.info? 27).map (·.size)=some rs.length:=by rw[← List.size_toArray,Hsz.out];kernel_rfl
  go_wp2_with fail
  refine wp_region_held_drew (S:=(fun W=>W.cell? ⟨C,37,none⟩=some (PT T2)∧W.rangeAt fB 0 rs)) (by kernel_rfl) (HS4.out _ HDr.out) (fun aa=>?_)
  generalize w6.drew=w6d at *
  refine tkq 0 58 aa ?_
  try go_frame
  refine tkq 1 59 aa ?_
  try go_frame
  refine tkq 2 60 aa ?_
  try go_frame
  refine tkh 3 61 rfl aa ?_ (Or.inl ⟨by rfl,by intro w hSw;have hc:=hSw.1;go_simp;with_reducible rfl⟩)
  try go_frame
  refine tkq 4 62 aa ?_
  try go_frame
  refine tkh 5 63 (v:=.agg (rs).toArray) rfl aa ?_ (yieldsIf_load_mid (by rfl) 27 (.tmp 5) rfl (fB) 0 rfl (rs) _ (fun W h=>h.2) Tryz.underlying27 rfl hi2)
  try go_frame
  refine rdq 6 64 fun K hK=>?_
  go_simp
  go_at_call 35
  refine(Mr.aL.zL HTr.out i tag rs HLt.out Hrs.out).mono ?_
  rintro e w7 ⟨rfl,ew,hT7,hF7,hC7⟩
  have HT7:=ae hT7
  have HF7:Hid (∀ k,ew k→FT2 k∨w6.heap.size≤k):=fun k hk=>(hF7 k hk).imp id (Nat.le_trans HDr.out.size)
  have HC7:Hid (Chg (fun k _=>FT2 k) w6 w7):=HDr.out.then hC7
  clear hT7 hF7 hC7
  refine hK.out _ _ (HS4.out _ HC7.out) (fun aa=>?_)
  clear hK K
  try go_frame
  refine wpAnyH_done (by kernel_rfl) ?_ _
  clear aa HDr HTr HLt HS4 HR6 hi2
  have HN5:Hid (Below w.heap.size w w5):=HBw.out
  have rB:Hid (w7.cell? ⟨C,36,none⟩=some (IV i)∧w7.frozen? ⟨C,36,none⟩=false∧(w7.setCell ⟨C,36,none⟩ (IV i1)).cell? ⟨C,36,none⟩=some (IV i1)∧(w7.setCell ⟨C,36,none⟩ (IV i1)).cell? ⟨C,35,none⟩=some (.slice (some ⟨bb,ob,none⟩) n cv)
    ∧ fM (w7.setCell ⟨C,36,none⟩ (IV i1)) P d ek mk { s with at_:=s.at_+1,next:=s.next++[tag] } ks T FT nx S V C T2 ew KB G' rt bv (S2.set i true) (bU D (k:Int) raw)∧(∀ k,ew k→FT2 k∨w.heap.size≤k)∧(∀ k,G' k→G k∨w.heap.size≤k)∧Chg (fun k _=>k=C∨FT2 k∨G k) w (w7.setCell ⟨C,36,none⟩ (IV i1))):=by
   have hi:=HI.out
   have hn:=HN.out
   have hin:=HNi.out.1
   have hs5:=HN5.out.size
   have hs6:=HC6.out.size
   have vV:min s.at_ s.n=i:=by omega
   have hH7:=HX.out.1.chg HC7.out (fun _=>HX.out.2.PF) (fun k _ hk h2=>HU2.out.F2 k h2 hk)
   have hc7:=HX.out.2.at_.chg HC7.out fun _=>HX.out.2.CF
   rw[vV] at hc7
   have hp7:=HX.out.2.parts.chg HC7.out fun k _ hk h2=>HX.out.2.KF k hk h2
   have hFl:∀ k,FT2 k→k<w5.heap.size:=Mr.aL.lt HU2.out.com.tree
   have hG5:∀ k,G' k→¬ FT2 k:=fun k hk h2=>(HG6.out k hk).elim (fun hg=>HU2.out.G2 k h2 hg) fun hl=>by have:=hFl k h2;omega
   have hd7:=HD6.out.stay HC7.out fun k _ hk h2=>hG5 k hk h2
   have hCl:C<w5.heap.size:=HU2.out.com.at_.c0.lt (by simp)
   have hPl:P<w5.heap.size:=HU2.out.head.at_.c0.lt (by simp)
   have yq:∀ k,FT k→k<w5.heap.size:=Mr.aL.lt HU2.out.head.tree
   have hFP:∀ k,ew k→FT2 k∨w6.heap.size≤k:=HF7.out
   have hcw:=hc7.wrote HX.out.2.r32 i1
   have hc8:Chg (fun k _=>k=C) w7 (w7.setCell ⟨C,36,none⟩ (IV i1)):=(Chg.refl _ w7).setCell (p:=⟨C,36,none⟩) rfl (fun _=>rfl) (by rw[bX hc7.c36];rfl) _
   have hnl:s.next.length=i:=by rw[HX.out.2.ye,vV]
   have vT:(s.next++List.replicate (s.n - s.next.length) Mr.Mk.zero).set i tag=(s.next++[tag])++List.replicate (s.n - (s.next++[tag]).length) Mr.Mk.zero:=by
    rw[List.length_append,hnl,List.length_singleton,show s.n - i=(s.n - (i+1))+1 by omega,List.replicate_succ,List.append_assoc,List.singleton_append,← hnl]
    simp
   have hKl:∀ k,KB k→k≠C:=fun k hk e=>HX.out.2.KC (e ▸ hk)
   have hT8:=Mr.aL.stay HT7.out hc8 fun k _ hk e=>by
    subst e
    exact(hFP k hk).elim HX.out.2.CF fun hl=>by omega
   rw[vT] at hT8
   refine⟨bX hc7.c36,by have:=hc7.c36.free (j:=0) (by simp);rwa [Nat.add_zero] at this,bX hcw.c36,by rw[bX hcw.c35,HBV.out,hn],⟨?_,?_,?_,?_,HU2.out.FC,fun k hk h2=>?_,fun hk=>?_,fun hk=>?_,fun k h2 hk=>?_,fun k h2 hk=>?_,fun k h2 hk=>?_,fun k hk=>Nat.lt_of_lt_of_le (HU2.out.KL k hk) (Nat.le_trans hs6 (Nat.le_trans HC7.out.size hc8.size))⟩,fun k hk=>(hFP k hk).imp id fun h=>by omega,fun k hk=>(HG6.out k hk).imp id fun h=>by omega,?_⟩
   ·have hx:=hH7.chg hc8 (fun _ e=>HX.out.2.CP e.symm) fun k _ hk e=>HU2.out.FC (e ▸ hk)
    exact⟨hx.at_,hx.keys,hx.tree,hx.tl,hx.n8,hx.r32,hx.b1,hx.PF⟩
   ·refine⟨?_,HX.out.2.r32,hT8,hp7.chg hc8 fun k _ hk e=>hKl k hk e,HX.out.2.len,HX.out.2.l64,by show s.at_+1≤s.n+1;omega,?_,fun hk=>(hFP C hk).elim HX.out.2.CF fun h=>by omega,fun hk=>(hFP P hk).elim HX.out.2.PF fun h=>by omega,fun k hk h2=>?_,HX.out.2.KC,HX.out.2.KP,HX.out.2.CP⟩
    ·show gJ _ C P (s.ep+1) (1 - s.af) rt bv (min (s.at_+1) s.n) T2
     rw[show min (s.at_+1) s.n=i1 by rw[HI1.out];omega]
     exact hcw
    ·show (s.next++[tag]).length=min (s.at_+1) s.n
     rw[List.length_append,hnl,List.length_singleton];omega
    ·rcases hFP k h2 with h | h
     ·exact HX.out.2.KF k hk h
     ·have:=HU2.out.KL k hk;omega
   ·exact hd7.stay hc8 fun k _ hk e=>by
     subst e
     exact(HG6.out k hk).elim HU2.out.GC fun h=>by omega
   ·rw[← HU2.out.dl]
    unfold bU
    split
    ·exact gv _ _ _
    ·rfl
   ·rcases hFP k hk with h | h
    ·exact HU2.out.F2 k h h2
    ·have:=yq k h2;omega
   ·exact(HG6.out P hk).elim HU2.out.GP fun h=>by omega
   ·exact(HG6.out C hk).elim HU2.out.GC fun h=>by omega
   ·exact(HG6.out k hk).elim (HU2.out.GF k h2) fun h=>by have:=yq k h2;omega
   ·rcases hFP k h2 with h | h
    ·exact hG5 k hk h
    ·have:=HD6.out.lt k hk;omega
   ·rcases HG6.out k hk with h | h
    ·exact HU2.out.GK k h2 h
    ·have:=HU2.out.KL k h2;omega
   ·refine((Chg.below HN5.out _).then ((HC6.out.mono fun k _ _ hk=>.inr (.inr hk)).then ((HC7.out.mono fun k _ _ hk=>.inr (.inl hk)).then (hc8.mono fun k _ _ hk=>.inl hk))))
  have HD8:Hid (b8 { s with at_:=s.at_+1,next:=s.next++[tag] } C=if i1<n then wrV C else flV C):=by
   show _=_
   have hi:=HI.out
   have hn:=HN.out
   have Qj:=HI1.out
   have hin:=HNi.out.1
   unfold b8
   show (if s.at_+1<s.n then _ else if s.at_+1=s.n then _ else _)=_
   by_cases h:i1<n
   ·rw[if_pos h,if_pos (by omega)]
   ·rw[if_neg h,if_neg (by omega),if_pos (by omega)]
  obtain ⟨c36,f36,QI,QJ,HFn⟩:=rB.out
  have kP:=ae HFn
  have hm3:=HM3.out
  clear rB HFn HX HC6 HC7 HD6 HG6 HT7 HF7 HU2 HBw HN5 HGx
  by_cases hlt:i1<n
  ·go_wp2_with fail
   generalize w7.setCell ⟨C,36,none⟩ (IV i1)=w8 at *
   go_quiet (fail)
   go_wp2
   go_ret
   exact⟨congrArg Ending.returned (HD8.out.trans (if_pos hlt)).symm,_,_,_,kP.out.1.Ay _,kP.out.2.1,kP.out.2.2.1,kP.out.2.2.2.drewN _⟩
  ·go_wp2_with fail
   generalize w7.setCell ⟨C,36,none⟩ (IV i1)=w8 at *
   go_quiet (fail)
   go_wp2
   go_ret
   exact⟨congrArg Ending.returned (HD8.out.trans (if_neg hlt)).symm,_,_,_,kP.out.1.Ay _,kP.out.2.1,kP.out.2.2.1,kP.out.2.2.2.drewN _⟩
 exact AllReadyH.nil
end Go.Proofs.YthbmknpbcgnabaaGreatDoor
