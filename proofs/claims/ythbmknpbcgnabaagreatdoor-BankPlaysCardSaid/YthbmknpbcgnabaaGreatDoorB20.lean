/- Of the walk. -/
import Derived.Laws.Cover3
import Derived.Laws.IdiomArrays
import Derived.Test.YthbmknpbcgnabaaGreatDoorB19
set_option maxHeartbeats 40000000
namespace Go.Proofs.YthbmknpbcgnabaaGreatDoor
open Go.RowKit Aes Ctr Sl
theorem dK {w w':World} {b o:Nat} {vs:List Value} {S:Nat→Nat→Prop} (h:ah w b o vs) (hc:Chg S w w') (hb:b<w.heap.size) (hn:∀ o,¬ S b o):ah w' b o vs:=fun j v hv=>by
 rw[World.cell?_of_block (hc.block b hb hn)];exact h j v hv
def cW (w:World) (K:Nat→Prop) (v:Value) (bs:List UInt8):Prop :=
 (∃ A,v=.slice A 0 0∧bs=[])∨∃ b o cap,v=.slice (some ⟨b,o,none⟩) bs.length cap∧(b<w.heap.size∧K b)∧bs.length≤cap∧ah w b o (bs.map V8)
def iT (w:World) (K:Nat→Prop) (p:Nat) (key:List UInt8):Prop :=
 ∃ ug uc xg xc vs,(K p∧K ug∧K xg)∧p<w.heap.size∧ah w p 0 [.slice (some ⟨ug,0,none⟩) 44 uc,.slice (some ⟨xg,0,none⟩) 256 xc]∧ug<w.heap.size∧ah w ug 0 vs
  ∧ (vs.length=(wkK key 44).length∧∀ (j:Nat) v q,vs[j]? = some v→(wkK key 44)[j]? = some q→cW w K v q)∧xg<w.heap.size∧ah w xg 0 (SBL.map V8)
def fL (w:World) (K:Nat→Prop) (p:Value) (key:List UInt8):Prop :=
 ∃ g kb kc rb rc cb cc,p=.pointer (some ⟨g,0,none⟩)∧(g<w.heap.size∧Hm.ah w g 0 [.slice (some ⟨kb,0,none⟩) 64 kc,.slice (some ⟨rb,0,none⟩) 8 rc,.slice (some ⟨cb,0,none⟩) 64 cc]
  ∧ kb<w.heap.size∧64≤kc∧Hm.ah w kb 0 ((Hm.bf key).map Hm.V8)∧rb<w.heap.size∧Hm.ah w rb 0 (Hm.Sha.R0.list.map Hm.V32)∧cb<w.heap.size∧Hm.ah w cb 0 (Hm.Sha.K0.map Hm.V32))∧K g∧K kb∧K rb∧K cb
def cD (w:World) (K:Nat→Prop) (p:Nat) (ek mk:List UInt8):Prop :=
 ∃ va vb pe pm,K p∧p<w.heap.size∧ah w p 0 [va,vb,.pointer (some ⟨pe,0,none⟩),pm]∧cW w K va ek∧cW w K vb mk∧iT w K pe ek∧fL w K pm mk
section
variable {w w':World} {K K':Nat→Prop} {S:Nat→Nat→Prop} {v:Value} {bs:List UInt8} {p:Nat} {key ek mk:List UInt8}
theorem cW.arg (h:cW w K v bs):Arg w v bs:=by
 rcases h with h | ⟨b,o,cap,e,hb,hl,hs⟩
 ·exact .inl h
 ·exact .inr ⟨b,o,cap,e,hb.1,hl,hs⟩
theorem cW.of (h:Arg w v bs) (hk:∀ b o n c,v=.slice (some ⟨b,o,none⟩) n c→K b):cW w K v bs:=by
 rcases h with h | ⟨b,o,cap,e,hb,hl,hs⟩
 ·exact .inl h
 ·exact .inr ⟨b,o,cap,e,⟨hb,hk _ _ _ _ e⟩,hl,hs⟩
theorem cW.chg (h:cW w K v bs) (hc:Chg S w w') (hn:∀ k o,K k→¬ S k o):cW w' K v bs:=by
 rcases h with h | ⟨b,o,cap,e,hb,hl,hs⟩
 ·exact .inl h
 ·exact .inr ⟨b,o,cap,e,⟨Nat.lt_of_lt_of_le hb.1 hc.size,hb.2⟩,hl,dK hs hc hb.1 fun o'=>hn b o' hb.2⟩
theorem cW.below (h:cW w K v bs) (hb:Below w.heap.size w w'):cW w' K v bs:=h.chg (Chg.below hb fun _ _=>False) fun _ _ _ x=>x
theorem cW.imp (h:cW w K v bs) (hk:∀ k,K k→k<w.heap.size→K' k):cW w K' v bs:=by
 rcases h with h | ⟨b,o,cap,e,hb,hl,hs⟩
 ·exact .inl h
 ·exact .inr ⟨b,o,cap,e,⟨hb.1,hk b hb.2 hb.1⟩,hl,hs⟩
theorem iT.at (h:iT w K p key):ed w p key:=by
 obtain ⟨ug,uc,xg,xc,vs,_,h1,h2,h3,h4,h5,h6,h7⟩:=h
 exact⟨ug,uc,xg,xc,vs,h1,h2,h3,h4,⟨h5.1,fun j v q hv hq=>(h5.2 j v q hv hq).arg⟩,h6,h7⟩
theorem iT.chg (h:iT w K p key) (hc:Chg S w w') (hn:∀ k o,K k→¬ S k o):iT w' K p key:=by
 obtain ⟨ug,uc,xg,xc,vs,⟨k1,k2,k3⟩,h1,h2,h3,h4,h5,h6,h7⟩:=h
 have hs:=hc.size
 exact⟨ug,uc,xg,xc,vs,⟨k1,k2,k3⟩,by omega,dK h2 hc h1 fun o=>hn _ o k1,by omega,dK h4 hc h3 fun o=>hn _ o k2,⟨h5.1,fun j v q hv hq=>(h5.2 j v q hv hq).chg hc hn⟩,by omega,dK h7 hc h6 fun o=>hn _ o k3⟩
theorem iT.imp (h:iT w K p key) (hk:∀ k,K k→k<w.heap.size→K' k):iT w K' p key:=by
 obtain ⟨ug,uc,xg,xc,vs,⟨k1,k2,k3⟩,h1,h2,h3,h4,h5,h6,h7⟩:=h
 exact⟨ug,uc,xg,xc,vs,⟨hk _ k1 h1,hk _ k2 h3,hk _ k3 h6⟩,h1,h2,h3,h4,⟨h5.1,fun j v q hv hq=>(h5.2 j v q hv hq).imp hk⟩,h6,h7⟩
theorem fL.at {p:Value} (h:fL w K p key):Hm.ed w p key:=by
 obtain ⟨g,kb,kc,rb,rc,cb,cc,e,hh,_⟩:=h
 exact⟨g,kb,kc,rb,rc,cb,cc,e,hh⟩
theorem fL.chg {p:Value} (h:fL w K p key) (hc:Chg S w w') (hn:∀ k o,K k→¬ S k o):fL w' K p key:=by
 obtain ⟨g,kb,kc,rb,rc,cb,cc,e,⟨h1,h2,h3,h4,h5,h6,h7,h8,h9⟩,k1,k2,k3,k4⟩:=h
 have hs:=hc.size
 exact⟨g,kb,kc,rb,rc,cb,cc,e,⟨by omega,dK h2 hc h1 fun o=>hn _ o k1,by omega,h4,dK h5 hc h3 fun o=>hn _ o k2,by omega,dK h7 hc h6 fun o=>hn _ o k3,by omega,dK h9 hc h8 fun o=>hn _ o k4⟩,k1,k2,k3,k4⟩
theorem fL.imp {p:Value} (h:fL w K p key) (hk:∀ k,K k→k<w.heap.size→K' k):fL w K' p key:=by
 obtain ⟨g,kb,kc,rb,rc,cb,cc,e,⟨h1,h2,h3,h4,h5,h6,h7,h8,h9⟩,k1,k2,k3,k4⟩:=h
 exact⟨g,kb,kc,rb,rc,cb,cc,e,⟨h1,h2,h3,h4,h5,h6,h7,h8,h9⟩,hk _ k1 h1,hk _ k2 h3,hk _ k3 h6,hk _ k4 h8⟩
theorem fL.of {B:Nat} {p:Value} (h:Hm.j0 w B p key) (hk:∀ k,B≤k→K k):fL w K p key:=by
 obtain ⟨g,kb,kc,rb,rc,cb,cc,e,hh,b1,b2,b3,b4⟩:=h
 exact⟨g,kb,kc,rb,rc,cb,cc,e,hh,hk _ b1,hk _ b2,hk _ b3,hk _ b4⟩
theorem cD.at (h:cD w K p ek mk):lY w p ek mk:=by
 obtain ⟨va,vb,pe,pm,_,h1,h2,h3,h4,h5,h6⟩:=h
 exact⟨va,vb,pe,pm,h1,h2,h3.arg,h4.arg,h5.at,h6.at⟩
theorem cD.chg (h:cD w K p ek mk) (hc:Chg S w w') (hn:∀ k o,K k→¬ S k o):cD w' K p ek mk:=by
 obtain ⟨va,vb,pe,pm,k1,h1,h2,h3,h4,h5,h6⟩:=h
 exact⟨va,vb,pe,pm,k1,Nat.lt_of_lt_of_le h1 hc.size,dK h2 hc h1 fun o=>hn _ o k1,h3.chg hc hn,h4.chg hc hn,h5.chg hc hn,h6.chg hc hn⟩
theorem cD.below (h:cD w K p ek mk) (hb:Below w.heap.size w w'):cD w' K p ek mk:=h.chg (Chg.below hb fun _ _=>False) fun _ _ _ x=>x
theorem cD.imp (h:cD w K p ek mk) (hk:∀ k,K k→k<w.heap.size→K' k):cD w K' p ek mk:=by
 obtain ⟨va,vb,pe,pm,k1,h1,h2,h3,h4,h5,h6⟩:=h
 exact⟨va,vb,pe,pm,hk _ k1 h1,h1,h2,h3.imp hk,h4.imp hk,h5.imp hk,h6.imp hk⟩
theorem aR.De {Lo B:Nat} {W:World} {v:Value} {ps:List (List UInt8)} (h:aR Lo B W v ps) (hp:0<ps.length) (hLo:Lo≤B) :
  ∃ g cap vs,v=.slice (some ⟨g,0,none⟩) ps.length cap∧(g<W.heap.size∧Lo≤g)∧ah W g 0 vs∧vs.length=ps.length∧∀ (j:Nat) v q,vs[j]? = some v→ps[j]? = some q→cW W (fun k=>Lo≤k) v q:=by
 obtain ⟨vs,ho,hl,hw⟩:=h
 obtain ⟨g,cap,e,hB,hg,hs⟩:=ho.form (by omega)
 refine⟨g,cap,vs,by rw[e,hl],⟨hg,by omega⟩,hs,hl,fun j u p hu hq=>?_⟩
 obtain ⟨b,o,c,e1,hc,hlt,_,hs1⟩:=hw j u p hu hq
 exact .inr ⟨b,o,c,e1,hlt,hc,hs1⟩
end
set_option maxRecDepth 100000
theorem IK (Lo kb:Nat) (key:List UInt8) (hk:key.length=16) (w:World) (hkb:kb<w.heap.size) (hks:ah w kb 0 (key.map V8)) (kc:Nat) (hkc:16≤kc) (hl1:Lo≤kb) :
  Calls Tryz.prog 82 #[.slice (some ⟨kb,0,none⟩) 16 kc] w fun e w'=>∃ p,e=.returned (.pointer (some ⟨p,0,none⟩))∧Hid (iT w' (fun k=>Lo≤k) p key)∧Below w.heap.size w w':=by
 have HK:=ae hks
 have HKl:=ae hk
 clear hks hk
 go_enter Tryz.func82,Tryz.ntmps82
 go_wp2_with fail
 refine(I5 w).mono ?_
 rintro e w1 ⟨bv,rfl,OQ,hb1⟩
 have hlen:(SBL.map V8).length=256:=by rw[List.length_map,eF]
 obtain ⟨xg,xc,hxv,hxB,hxl,hxs⟩:=OQ.out.form (by rw[hlen];omega)
 rw[hlen] at hxv
 subst hxv
 have HXs:=ae hxs
 clear hlen hxs OQ
 have hs1:=hb1.size
 go_wp2_with fail
 refine(CT Lo kb xg xc key HKl.out w1 (Nat.lt_of_lt_of_le hkb hb1.size) (HK.out.below hb1 hkb) hxl HXs.out kc hkc hl1 (by omega)).mono ?_
 rintro e w2 ⟨wv,rfl,HRw,hb2⟩
 obtain ⟨ug,uc,vs,huv,hul,hus,lu⟩:=HRw.out.De (by rw[dA];omega) (by omega)
 rw[dA] at huv
 subst huv
 have HUs:=ae hus
 have HVs:=ae lu
 have oL:Below w.heap.size w w2:=hb1.trans (hb2.mono hb1.size)
 have HX2:Hid (ah w2 xg 0 (SBL.map V8)):=HXs.out.below hb2 hxl
 have hx2:xg<w2.heap.size:=Nat.lt_of_lt_of_le hxl hb2.size
 have hs2:=oL.size
 clear hus lu HRw
 go_wp2
 go_ret
 have hal:Below w2.heap.size w2 (w2.alloc (.cells #[.slice (some ⟨ug,0,none⟩) 44 uc,.slice (some ⟨xg,0,none⟩) 256 xc] 205)):=(Below.refl _ _).alloc (Nat.le_refl _) _
 refine⟨_,rfl,⟨ug,uc,xg,xc,vs,⟨by show Lo≤_;omega,hul.2,by show Lo≤_;omega⟩,by simp,(Row.new w2 205 [.slice (some ⟨ug,0,none⟩) 44 uc,.slice (some ⟨xg,0,none⟩) 256 xc]).sees,by simp;omega,HUs.out.below hal hul.1,⟨HVs.out.1,fun j v q hv hq=>(HVs.out.2 j v q hv hq).below hal⟩,by simp;omega,HX2.out.below hal hx2⟩,oL.trans (hal.mono oL.size)⟩
theorem IJ (Lo:Nat) (ek mk:List UInt8) (hek:ek.length=16) (hmk:mk.length≤1000000) (kb kc:Nat) (hkc:16≤kc) (u:Value) (w:World) (h:cW w (fun k=>Lo≤k) (.slice (some ⟨kb,0,none⟩) 16 kc) ek) (hu:cW w (fun k=>Lo≤k) u mk) :
  Calls Tryz.prog 43 #[.slice (some ⟨kb,0,none⟩) 16 kc,u] w fun e w'=>∃ p,e=.returned (.pointer (some ⟨p,0,none⟩))∧Hid (cD w' (fun k=>Lo≤k) p ek mk)∧Below w.heap.size w w':=by
 obtain ⟨A,cap,rfl⟩:=hu.arg.form
 obtain ⟨m,hm⟩:∃ m,m=mk.length:=⟨_,rfl⟩
 rw[← hm] at hu ⊢
 have HMl:=ae hmk
 have HEl:=ae hek
 have HU:=ae hu
 have HE:=ae h
 have HS:Hid ((kb<w.heap.size∧Lo≤kb)∧ah w kb 0 (ek.map V8)):=by
  rcases h with ⟨A',e,hn⟩ | ⟨b',o',c',e,hb,hc,hs⟩
  ·rw[hn] at hek;exact absurd hek (by decide)
  ·injection e with e1 _ _
   injection e1 with e1
   injection e1 with e1 e2 _
   subst e1 e2
   exact⟨hb,hs⟩
 have HLw:Hid (Lo≤w.heap.size):=by have:=HS.out.1;show _≤_;omega
 clear hm hmk hek hu h
 go_enter Tryz.func43,Tryz.ntmps43
 go_wp2_with fail
 refine(IK Lo kb ek HEl.out w HS.out.1.1 HS.out.2 kc hkc HS.out.1.2).mono ?_
 rintro e w1 ⟨pe,rfl,HK1,hb1⟩
 have HU1:=ae (HU.out.below hb1)
 have HE1:=ae (HE.out.below hb1)
 have HL1:Hid (Lo≤w1.heap.size):=Nat.le_trans HLw.out hb1.size
 go_wp2_with fail
 refine(Hm.wU _ mk HMl.out w1 HU1.out.arg).mono ?_
 rintro e w2 ⟨pm,rfl,hk2,hb2⟩
 obtain ⟨g,rb,rc,cb,cc,rfl,hin⟩:=hk2.at.named
 have HM2:Hid (fL w2 (fun k=>Lo≤k) (.pointer (some ⟨g,0,none⟩)) mk):=fL.of hk2 fun k hk=>Nat.le_trans HL1.out hk
 have HK2:Hid (iT w2 (fun k=>Lo≤k) pe ek):=HK1.out.chg (Chg.below hb2 fun _ _=>False) fun _ _ _ x=>x
 have HU2:=ae (HU1.out.below hb2)
 have HE2:=ae (HE1.out.below hb2)
 have HB2:=ae (hb1.trans (hb2.mono hb1.size))
 have HL2:Hid (Lo≤w2.heap.size):=Nat.le_trans HL1.out hb2.size
 clear hin hk2 HK1 HU1 HE1 HU HE HS hb1 hb2
 go_wp2
 go_ret
 have hal:=Joins.below_alloc1 w2 (.cells #[.slice (some ⟨kb,0,none⟩) 16 kc,.slice A m cap,.pointer (some ⟨pe,0,none⟩),.pointer (some ⟨g,0,none⟩)] 110)
 have hcg:=Chg.below hal fun _ _=>False
 exact⟨_,rfl,⟨_,_,pe,_,HL2.out,by simp,(Row.new w2 110 [.slice (some ⟨kb,0,none⟩) 16 kc,.slice A m cap,.pointer (some ⟨pe,0,none⟩),.pointer (some ⟨g,0,none⟩)]).sees,HE2.out.below hal,HU2.out.below hal,HK2.out.chg hcg fun _ _ _ x=>x,HM2.out.chg hcg fun _ _ _ x=>x⟩,HB2.out.trans (hal.mono HB2.out.size)⟩
set_option maxRecDepth 512
theorem J9 {Lo B:Nat} {w:World} {v:Value} {bs:List UInt8} (h:Own w B 5 v (bs.map V8)) (hB:Lo≤B) (hp:0<bs.length):cW w (fun k=>Lo≤k) v bs:=by
 obtain ⟨g,cap,e,hb,hg,hc,hs⟩:=h.cM (by rw[List.length_map];exact hp)
 rw[List.length_map] at e hc
 exact .inr ⟨g,0,cap,e,⟨hg,by show Lo≤g;omega⟩,hc,hs⟩
theorem Arg.Iq {Lo:Nat} {w:World} {b o c n:Nat} {bs:List UInt8} (h:Arg w (.slice (some ⟨b,o,none⟩) n c) bs) (m:Nat) (hm:m≤n) (hl:bs.length=n) (hp:0<n) (hb:Lo≤b):cW w (fun k=>Lo≤k) (.slice (some ⟨b,o,none⟩) m c) (bs.take m) :=
 cW.of (h.first m hm hl hp) fun b' o' n' c' e=>by injection e with e1 _ _;injection e1 with e1;injection e1 with e1 _ _;show Lo≤b';omega
set_option maxRecDepth 100000
theorem wL (s:List UInt8) (hs:s.length≤1000000) (x:Value) (w:World) (h:Arg w x s) :
  Calls Tryz.prog 12 #[x] w fun e w'=>∃ p,e=.returned (.pointer (some ⟨p,0,none⟩))∧Hid (cD w' (fun k=>w.heap.size≤k) p (kE s) (mE s))∧Below w.heap.size w w':=by
 obtain ⟨A,cap,rfl⟩:=h.form
 obtain ⟨n,hnl⟩:∃ n,n=s.length:=⟨_,rfl⟩
 rw[← hnl] at h ⊢
 have HSl:=ae hs
 have HA:=ae h
 clear h hs hnl
 go_enter Tryz.func12,Tryz.ntmps12
 go_wp2_with fail
 refine(Hm.IL _ s HSl.out w HA.out).mono ?_
 rintro e w1 ⟨pm,rfl,hk1,hb1⟩
 obtain ⟨g,rb,rc,cb,cc,rfl,hin⟩:=hk1.named
 have HK1:=ae hk1
 have HB1:=ae hb1
 clear hin hk1 hb1 HA
 have hc1:=Joins.run_convert_bytes_const_at (P:=Tryz.prog) w1 22 5 #[.int .u8 101,.int .u8 110,.int .u8 99] 3 3 w1.heap.size rfl Tryz.underlying22 Tryz.underlying5
 go_wp2_with fail
 refine(Hm.gp _ _ _ [wh] Dv _ (Ng w1 _ wh rfl 3 rfl)).mono ?_
 rintro e w2 ⟨jv,rfl,aC,hb2⟩
 have KQ:=(pU w1 (.cells #[.int .u8 101,.int .u8 110,.int .u8 99] 5 (3,4)) (.cells #[.slice (some ⟨w1.heap.size,0,none⟩) 3 3] 22)).trans (hb2.mono (by simp;omega))
 have HK2:=ae (HK1.out.below KQ)
 have HB2:=ae (HB1.out.trans (KQ.mono HB1.out.size))
 have HJ2:=ae (iK.1 (Hm.Own.arg aC))
 clear hc1 aC hb2 KQ HK1 HB1
 go_wp2_with fail
 refine(Hm.jF _ s _ (Hm.joined [wh]) (by decide) w2 HK2.out HJ2.out).mono ?_
 rintro e w3 ⟨sv,rfl,aF,hb3⟩
 obtain ⟨g3,c3,rfl,hg3,hl3,hc3,hs3⟩:=Hm.Own.cM aF (by rw[List.length_map,Hm.eD];omega)
 rw[List.length_map,Hm.eD] at hc3 ⊢
 have HE3:Hid (Arg w3 (.slice (some ⟨g3,0,none⟩) 32 c3) (Hm.mac s (Hm.joined [wh]))):=by
  have:=Hm.Own.arg aF
  rw[List.length_map,Hm.eD] at this
  exact this
 have HK3:=ae (HK2.out.below hb3)
 have HB3:=ae (HB2.out.trans (hb3.mono HB2.out.size))
 have HE4:Hid (cW w3 (fun k=>w.heap.size≤k) (.slice (some ⟨g3,0,none⟩) 16 c3) (kE s)):=HE3.out.Iq 16 (by omega) (Hm.eD _ _) (by omega) (by have:=HB2.out.size;omega)
 clear aF hs3 hb3 HE3 HK2 HB2 HJ2
 have hc1:=Joins.run_convert_bytes_const_at (P:=Tryz.prog) w3 22 5 #[.int .u8 109,.int .u8 97,.int .u8 99] 3 3 w3.heap.size rfl Tryz.underlying22 Tryz.underlying5
 go_wp2_with fail
 refine(Hm.gp _ _ _ [nh] Du _ (Ng w3 _ nh rfl 3 rfl)).mono ?_
 rintro e w4 ⟨jv2,rfl,ia,hb4⟩
 have Ij:=(pU w3 (.cells #[.int .u8 109,.int .u8 97,.int .u8 99] 5 (3,4)) (.cells #[.slice (some ⟨w3.heap.size,0,none⟩) 3 3] 22)).trans (hb4.mono (by simp;omega))
 have HK4:=ae (HK3.out.below Ij)
 have HB4:=ae (HB3.out.trans (Ij.mono HB3.out.size))
 have HJ4:=ae (iK.1 (Hm.Own.arg ia))
 have HE5:=ae (HE4.out.below Ij)
 clear hc1 ia hb4 Ij HK3 HB3 HE4
 go_wp2_with fail
 refine(Hm.jF _ s _ (Hm.joined [nh]) (by decide) w4 HK4.out HJ4.out).mono ?_
 rintro e w5 ⟨sv2,rfl,cT,hb5⟩
 have HM5:Hid (cW w5 (fun k=>w.heap.size≤k) sv2 (mE s)):=J9 cT HB4.out.size (by rw[kz];omega)
 have HE6:=ae (HE5.out.below hb5)
 have HB5:=ae (HB4.out.trans (hb5.mono HB4.out.size))
 clear cT hb5 HK4 HB4 HJ4 HE5
 go_wp2_with fail
 refine(IJ w.heap.size (kE s) (mE s) (iZ s) (by rw[kz];omega) g3 c3 (by omega) _ w5 HE6.out HM5.out).mono ?_
 rintro e w6 ⟨p,rfl,HM,hb6⟩
 go_wp2
 go_ret
 exact⟨p,rfl,HM,HB5.out.trans (hb6.mono HB5.out.size)⟩
end Go.Proofs.YthbmknpbcgnabaaGreatDoor
namespace Go.Proofs.YthbmknpbcgnabaaGreatDoor
open Go.RowKit Dsk
theorem dO {b:Blk} (h:b.ok):(b.cur.map V8).length=72:=bQ _ 72 h.cur
set_option maxRecDepth 100000
theorem qT {w:World} {F:Nat→Prop} {D:Nat} {L:List Blk} (h:aG w F D L) (i:Int) (v:Value) (bs:List UInt8) (hv:Arg w v bs) :
  Calls Tryz.prog 91 #[.pointer (some ⟨D,0,none⟩),.int .i64 i,v] w fun e w'=>e=.returned (.int .i64 (QD (okW L i bs)))∧After w F w' D (bU L i bs):=by
 have HA0:=ae h.after
 obtain ⟨g,ps,hD⟩:=h
 obtain ⟨A,cap,rfl⟩:=hv.form
 have HV:=ae hv
 clear hv
 cases hg:eQ L i with
 | none =>
  have Hok:Hid (okW L i bs=false):=by show _=_;rw[okW,hg];rfl
  have Hw:Hid (bU L i bs=L):=by show _=_;rw[bU,Hok.out];rfl
  have HAt:=ae (o7 hD i (jy hg))
  rw[Hok.out,Hw.out]
  generalize bs.length=n at *
  clear hD hg Hok Hw HV
  go_enter Tryz.func91,Tryz.ntmps91
  go_wp2_with fail
  refine HAt.out.mono ?_
  rintro e w1 ⟨rfl,rfl⟩
  go_wp2
  go_ret
  exact⟨rfl,HA0.out⟩
 | some b =>
  obtain ⟨i,rfl,hb⟩:=dM hg
  have hi:=(List.getElem?_eq_some_iff.1 hb).1
  have HAt:=ae (kQ hD i hi)
  by_cases h72:bs.length=72
  ·have Hok:Hid (okW L i bs=true):=by show _=_;rw[okW,hg,h72];rfl
   have Hw:Hid (bU L i bs=L.set i (b.write bs)):=by show _=_;rw[bU,Hok.out,if_pos rfl,fP hb]
   rw[Hok.out,Hw.out]
   have EV:=hD.ok i b hb
   obtain ⟨ad,hA,cd⟩:=HV.out.src (by omega)
   subst hA
   obtain ⟨sb,so,rfl⟩:∃ sb so,ad=⟨sb,so,none⟩:=by
    rcases HV.out with ⟨A',e,e2⟩ | ⟨b',o',c',e,_⟩
    ·rw[e2] at h72;simp at h72
    ·injection e with e1 _ _;injection e1 with e1;exact⟨b',o',e1⟩
   have Hrg:Hid (w.rangeAt sb so (bs.map V8)):=fun j u hu=>by have:=cd j u hu;rwa [bD] at this
   rw[h72]
   have har:(Instr.arrayAt 131 (.slice (some ⟨sb,so,none⟩) 72 cap)).run Tryz.prog w=.ok (.pointer (some ⟨sb,so,none⟩)) w:=run_arrayAt w _ 5 72 _ _ _ Tryz.underlying131 (Nat.le_refl _)
   have Hi:Hid ((Tryz.prog.info? 131).map (·.size)=some (bs.map V8).length):=tZ (bQ _ 72 h72)
   have Hwr:=ae (xm g (i*145) b.aK (ps i) (aq g ps i b).block (aq g ps i b).off (by unfold aq;split <;> rfl) (b.cur.map V8) (bs.map V8) (b.past.map V8) w (hD.ptr hb) (hD.cur hb) (hD.past hb) (dO EV) (bQ _ 72 EV.past) (ku _))
   have HF:Hid (∀ w',aj w' w.heap.size 0 (bs.map V8)→aj w' g (i*145+72) [.pointer (some ⟨w.heap.size,0,none⟩)]→aj w' g (i*145+73) (b.cur.map V8)→Chg (fun b j=>b=g∧i*145+72≤j∧j<i*145+145) w w'→After w F w' D (L.set i (b.write bs))):=by
    intro w' h1 h2 h3 h4
    refine⟨fun k=>F k∨k=w.heap.size,⟨g,_,hD.one h4 i hb w.heap.size ?_ (Blk.uW EV h72) ?_ ?_ (fun k hk=>.inl hk) ?_⟩,fun k hk=>?_,h4.mono ?_⟩
    ·rintro k o ⟨rfl,h5,h6⟩;exact .inl ⟨rfl,by omega,by omega⟩
    ·show aj w' g (i*145) (b.dur.map V8++([.pointer (some ⟨w.heap.size,0,none⟩)]++b.cur.map V8))
     have e1:(b.dur.map V8).length=72:=bQ _ 72 EV.dur
     refine aj.append ((hD.dur hb).chg h4 fun j hj hs=>?_) ?_
     ·rw[e1] at hj;omega
     ·rw[e1];exact h2.append h3
    ·intro _;exact⟨h1,.inr ⟨Nat.le_refl _,.inr rfl⟩⟩
    ·rintro k (hk | rfl)
     ·exact Nat.lt_of_lt_of_le (hD.lt k hk) h4.size
     ·exact h1.lt (by rw[bQ _ 72 h72];omega)
    ·rcases hk with h | rfl
     ·exact .inl h
     ·exact .inr (Nat.le_refl _)
    ·rintro b' o _ ⟨rfl,_⟩;exact hD.fg
   generalize bs.map V8=rs at *
   clear hD hg Hok Hw HV cd HA0 EV
   go_enter Tryz.func91,Tryz.ntmps91
   go_wp2_with fail
   refine HAt.out.mono ?_
   rintro e w1 ⟨rfl,rfl⟩
   clear HAt
   go_wp2_with (refine wpList_load_mid rfl 131 (.tmp 20) rfl sb so rfl rs _ Hrg.out Tryz.underlying131 rfl Hi.out ?_)
   refine Hwr.out.mono ?_
   rintro e w2 ⟨rfl,h1,h2,h3,h4⟩
   have HE:=ae (HF.out w2 h1 h2 h3 h4)
   clear h1 h2 h3 h4 HF Hwr Hrg Hi
   go_wp2
   go_ret
   exact⟨rfl,HE.out⟩
  ·have Hok:Hid (okW L i bs=false):=by show _=_;rw[okW,hg,decide_eq_false h72];rfl
   have Hw:Hid (bU L i bs=L):=by show _=_;rw[bU,Hok.out];rfl
   rw[Hok.out,Hw.out]
   generalize bs.length=n at *
   clear hD hg Hok Hw HV
   go_enter Tryz.func91,Tryz.ntmps91
   go_wp2_with fail
   refine HAt.out.mono ?_
   rintro e w1 ⟨rfl,rfl⟩
   go_wp2
   go_ret
   exact⟨rfl,HA0.out⟩
set_option maxRecDepth 512
def Z72:List Value:=List.replicate 72 (.int .u8 0)
theorem JK (w:World):(zeroValue 131).run Tryz.prog w=.ok (.agg Z72.toArray) w:=by kernel_rfl
theorem below_setCells {a:World} {B g:Nat} (hg:B≤g):∀ (ds:List Value) (o:Nat) (w:World),Below B a w→Below B a (w.setCells g o ds)
 | [],_,_,h=>h
 | v::r,o,w,h=>by rw[World.setCells];exact below_setCells hg r (o+1) _ (h.setCell hg v)
set_option maxRecDepth 100000
theorem xq {w:World} {F:Nat→Prop} {D:Nat} {L:List Blk} (h:aG w F D L) (i:Int) (b:Blk) (hg:eQ L i=some b) :
  Calls Tryz.prog 27 #[.pointer (some ⟨D,0,none⟩),.int .i64 i] w fun e w'=>e=.returned (.tuple #[.slice (some ⟨w.heap.size,0,none⟩) 72 72,.int .i64 0])∧aj w' w.heap.size 0 (b.cur.map V8)∧Below w.heap.size w w':=by
 obtain ⟨g,ps,hD⟩:=h
 obtain ⟨i,rfl,hb⟩:=dM hg
 have hi:=(List.getElem?_eq_some_iff.1 hb).1
 have HAt:=ae (kQ hD i hi)
 have hpc:=(hD.ptr hb).cell (j:=0) rfl
 rw[Nat.add_zero] at hpc
 have yt:=mS g (i*145) b.aK (ps i) w hpc
 have hc:=hD.cur hb
 have l1:=dO (hD.ok i b hb)
 have c1:=ku b.cur
 rw[show (if b.aK=true then (⟨ps i,0,none⟩:Addr) else ⟨g,i*145,none⟩)=⟨(aq g ps i b).block,(aq g ps i b).off,none⟩ from by unfold aq;split <;> rfl] at yt
 have qL:=ae yt
 generalize b.cur.map V8=cs at *
 generalize (aq g ps i b).block=cb at *
 generalize (aq g ps i b).off=co at *
 have Hc:=ae hc.1
 have Hi:=ae (tZ l1)
 have Hj:=ae (tY l1)
 have C1:=ae c1
 have hN:aj (w.alloc (.cells Z72.toArray 131)) w.heap.size 0 Z72:=(Row.new w 131 Z72).here
 have HT:Hid ((w.alloc (.cells Z72.toArray 131)).there w.heap.size 0 cs.toArray.size):=by show World.there _ _ _ _;rw[show cs.toArray.size=Z72.length from by rw[List.size_toArray,l1];rfl];exact hN.2
 have HE:Hid (aj ((w.alloc (.cells Z72.toArray 131)).setCells w.heap.size 0 cs) w.heap.size 0 cs∧Below w.heap.size w ((w.alloc (.cells Z72.toArray 131)).setCells w.heap.size 0 cs)) :=
  ⟨hN.set cs l1,below_setCells (Nat.le_refl _) _ _ _ ((Below.refl _ _).alloc (Nat.le_refl _) _)⟩
 have hz:=JK
 clear hD hg hb hpc yt hc l1 c1 hN
 go_enter Tryz.func27,Tryz.ntmps27
 go_wp2_with fail
 refine HAt.out.mono ?_
 rintro e w1 ⟨rfl,rfl⟩
 clear HAt
 go_wp2_with fail
 refine qL.out.mono ?_
 rintro e w1 ⟨rfl,rfl⟩
 clear qL
 obtain ⟨w3,hw3⟩:∃ w3,w3=(w1.alloc (.cells Z72.toArray 131)).setCells w1.heap.size 0 cs:=⟨_,rfl⟩
 rw[← hw3] at HE
 have HW3:=ae hw3
 clear hw3
 go_wp2_with (first
  | (refine wpList_load_mid rfl 131 (.tmp 15) rfl cb co rfl cs _ Hc.out Tryz.underlying131 rfl Hi.out ?_)
  | (refine wpList_store_mid rfl 131 (.tmp 7) (.tmp 16) rfl w1.heap.size 0 cs.toArray rfl rfl HT.out Hj.out C1.out ?_;rw[List.toList_toArray,← HW3.out];clear HT HW3 Hc hz))
 go_ret2
 exact⟨rfl,HE.out⟩
namespace Dsk
set_option maxRecDepth 512
def Blk.a7 (b:Blk) (c p:List UInt8):Blk:=match b.wr with
 | some _=>⟨b.dur,some c,p⟩
 | none=>⟨c,none,p⟩
theorem Blk.eB (b:Blk) (c:List UInt8):b.setCur c=b.a7 c b.past:=by unfold Blk.setCur Blk.a7;cases b.wr <;> rfl
theorem Blk.sG (b:Blk):b.back=b.a7 b.past b.cur:=by unfold Blk.back Blk.a7;cases b.wr <;> rfl
theorem Blk.vB (b:Blk) (c p:List UInt8):(b.a7 c p).cur=c:=by unfold Blk.a7 Blk.cur;cases b.wr <;> rfl
theorem Blk.ml (b:Blk) (c p:List UInt8):(b.a7 c p).past=p:=by unfold Blk.a7;cases b.wr <;> rfl
theorem Blk.dB (b:Blk) (c p:List UInt8):(b.a7 c p).aK=b.aK:=by unfold Blk.a7 Blk.aK;cases h:b.wr <;> rfl
theorem Blk.jO {b:Blk} (h:b.ok) {c p:List UInt8} (hc:c.length=72) (hp:p.length=72):(b.a7 c p).ok:=by
 unfold Blk.a7
 cases hw:b.wr with
 | none=>exact⟨hc,hp,fun c hc=>by cases hc⟩
 | some d=>exact⟨h.dur,hp,fun c' e=>by injection e with e;rw[← e];exact hc⟩
theorem Blk.vA {b:Blk} (c p:List UInt8):(b.a7 c p).dur=if b.aK then b.dur else c:=by unfold Blk.a7 Blk.aK;cases b.wr <;> rfl
def okA (L:List Blk) (i j:Int) (x:UInt8):Bool:=(eQ L i).isSome && (decide (0≤j) && (decide (j<72) && decide (x≠0)))
def Lv (j:Nat) (x:UInt8) (b:Blk):Blk:=b.setCur (b.cur.set j (b.cur.getD j 0 ^^^ x))
def bR (L:List Blk) (i j:Int) (x:UInt8):List Blk:=if okA L i j x then s7 L i (Lv j.toNat x) else L
def okB (L:List Blk) (i:Int):Bool:=(eQ L i).isSome
def fK (L:List Blk) (i:Int):List Blk:=s7 L i Blk.back
def okS (L:List Blk) (i k:Int):Bool:=(eQ L i).isSome && ((eQ L k).isSome && decide (i≠k))
def cF (L:List Blk) (i k:Int):List Blk:=match eQ L i,eQ L k with
 | some b,some c=>if i=k then L else (L.set i.toNat (b.setCur c.cur)).set k.toNat (c.setCur b.cur)
 | _,_=>L
end Dsk
section
variable {w w':World} {F F':Nat→Prop} {D g:Nat} {ps:Nat→Nat} {L:List Blk} {S:Nat→Nat→Prop}
set_option maxRecDepth 512
theorem bM.tH (h:bM w F D g ps L) (hc:Chg S w w') {i:Nat} {b:Blk} (hb:L[i]? = some b) (c' p':List UInt8)
  (hS:¬ S g (i*145+72)) (hS2:b.aK=true→∀ o,o<72→¬ S g (i*145+o))
  (l1:c'.length=72) (h1:aj w' (aq g ps i b).block (aq g ps i b).off (c'.map V8)) (h2:aj w' g (i*145+73) (p'.map V8)) :
  aj w' g (i*145) (gW (b.a7 c' p') (ps i))∧((b.a7 c' p').aK=true→aj w' (ps i) 0 ((b.a7 c' p').cur.map V8)):=by
 have hok:=h.ok i b hb
 constructor
 ·unfold gW
  rw[Blk.dB,Blk.ml,Blk.vA]
  have e1:((if b.aK=true then b.dur else c').map V8).length=72:=by split <;> exact bQ _ 72 (by first | exact hok.dur | exact l1)
  refine aj.append ?_ ?_
  ·by_cases hd:b.aK=true
   ·rw[if_pos hd]
    refine(h.dur hb).chg hc fun j hj=>hS2 hd j ?_
    rwa [bQ _ 72 hok.dur] at hj
   ·rw[if_neg hd]
    unfold aq at h1
    rw[if_neg hd] at h1
    exact h1
  ·rw[e1]
   have h3:aj w' g (i*145+72) [.pointer (if b.aK then some ⟨ps i,0,none⟩ else none)]:=(h.ptr hb).chg hc fun j hj=>by
    have:j=0:=by simpa using hj
    rw[this,Nat.add_zero];exact hS
   exact h3.append h2
 ·intro hd
  rw[Blk.dB] at hd
  rw[Blk.vB]
  unfold aq at h1
  rw[if_pos hd] at h1
  exact h1
theorem bM.both (h:bM w F D g ps L) (hc:Chg S w w') {i:Nat} {b:Blk} (hb:L[i]? = some b) (c' p':List UInt8)
  (hS:∀ k o,S k o→(k=(aq g ps i b).block∧(aq g ps i b).off≤o∧o<(aq g ps i b).off+72)∨(k=g∧i*145+73≤o∧o<i*145+145))
  (l1:c'.length=72) (l2:p'.length=72) (h1:aj w' (aq g ps i b).block (aq g ps i b).off (c'.map V8)) (h2:aj w' g (i*145+73) (p'.map V8)) :
  After w F w' D (L.set i (b.a7 c' p')):=by
 have hok:=h.ok i b hb
 have hd1:∀ k o,S k o→(b.aK=true∧k=ps i)∨(b.aK=false∧k=g∧i*145≤o∧o<i*145+72)∨(k=g∧i*145+73≤o∧o<i*145+145):=fun k o hs=>by
  rcases hS k o hs with ⟨e,h3,h4⟩ | h3
  ·unfold aq at e h3 h4
   by_cases hd:b.aK=true
   ·rw[if_pos hd] at e;exact .inl ⟨hd,e⟩
   ·rw[if_neg hd] at e h3 h4
    exact .inr (.inl ⟨by simpa using hd,e,h3,h4⟩)
  ·exact .inr (.inr h3)
 obtain ⟨r1,r2⟩:=h.tH hc hb c' p' (fun hs=>by
   rcases hd1 _ _ hs with ⟨hd,e⟩ | ⟨_,_,h3,h4⟩ | ⟨_,h3,h4⟩
   ·exact(h.apart i b hb hd).2.1 e.symm
   ·omega
   ·omega) (fun hd o ho hs=>by
   rcases hd1 _ _ hs with ⟨hd,e⟩ | ⟨hd',_⟩ | ⟨_,h3,h4⟩
   ·exact(h.apart i b hb hd).2.1 e.symm
   ·rw[hd] at hd';cases hd'
   ·omega) l1 h1 h2
 refine⟨F,⟨g,_,h.one hc i hb (ps i) (fun k o hs=>?_) (Blk.jO hok l1 l2) r1 (fun hd=>⟨r2 hd,.inl ⟨rfl,by rw[Blk.dB] at hd;exact hd⟩⟩) (fun _ hk=>hk) (fun k hk=>Nat.lt_of_lt_of_le (h.lt k hk) hc.size)⟩,fun k hk=>.inl hk,hc.mono fun k o _ hs=>?_⟩
 ·rcases hd1 _ _ hs with ⟨hd,e⟩ | ⟨_,e,h3,h4⟩ | ⟨e,h3,h4⟩
  ·exact .inr ⟨hd,e⟩
  ·exact .inl ⟨e,by omega,by omega⟩
  ·exact .inl ⟨e,by omega,by omega⟩
 ·rcases hd1 _ _ hs with ⟨hd,e⟩ | ⟨_,e,_⟩ | ⟨e,_⟩
  ·rw[e];exact(h.apart i b hb hd).2.2
  ·rw[e];exact h.fg
  ·rw[e];exact h.fg
end
theorem zx {w:World} {F:Nat→Prop} {D:Nat} {L:List Blk} (h:aG w F D L) (i j:Int) (x:UInt8) :
  Calls Tryz.prog 57 #[.pointer (some ⟨D,0,none⟩),.int .i64 i,.int .i64 j,.int .u8 x.toNat] w fun e w'=>e=.returned (.bool (okA L i j x))∧After w F w' D (bR L i j x):=by
 have HA0:=ae h.after
 obtain ⟨g,ps,hD⟩:=h
 have j3:okA L i j x=false→Hid (After w F w D (bR L i j x)):=fun hk=>by
  show After w F w D (bR L i j x)
  rw[bR,hk];exact HA0.out
 cases hg:eQ L i with
 | none =>
  have hok:okA L i j x=false:=by rw[okA,hg];rfl
  have HE:=j3 hok
  rw[hok]
  generalize bR L i j x=L' at *
  have HAt:=ae (o7 hD i (jy hg))
  clear hD hg hok HA0 j3
  go_enter Tryz.func57,Tryz.ntmps57
  go_wp2_with fail
  refine HAt.out.mono ?_
  rintro e w1 ⟨rfl,rfl⟩
  go_wp2
  go_ret
  exact⟨rfl,HE.out⟩
 | some b =>
  obtain ⟨i,rfl,hb⟩:=dM hg
  have hi:=(List.getElem?_eq_some_iff.1 hb).1
  have HAt:=ae (kQ hD i hi)
  have hx8:=lt8 x
  by_cases hj0:j<0
  ·have hok:okA L i j x=false:=by rw[okA,hg,decide_eq_false (p:=0≤j) (by omega)];rfl
   have HE:=j3 hok
   rw[hok]
   generalize bR L i j x=L' at *
   clear hD hg hok HA0 j3 hb hi
   go_enter Tryz.func57,Tryz.ntmps57
   go_wp2_with fail
   refine HAt.out.mono ?_
   rintro e w1 ⟨rfl,rfl⟩
   go_wp2
   go_ret
   exact⟨rfl,HE.out⟩
  ·by_cases hj1:72≤j
   ·have hok:okA L i j x=false:=by rw[okA,hg,decide_eq_false (p:=j<72) (by omega)];simp
    have HE:=j3 hok
    rw[hok]
    generalize bR L i j x=L' at *
    clear hD hg hok HA0 j3 hb hi
    go_enter Tryz.func57,Tryz.ntmps57
    go_wp2_with fail
    refine HAt.out.mono ?_
    rintro e w1 ⟨rfl,rfl⟩
    go_wp2
    go_ret
    exact⟨rfl,HE.out⟩
   ·obtain ⟨j,rfl⟩:∃ n:Nat,j=n:=⟨j.toNat,by omega⟩
    by_cases hx:x=0
    ·have hok:okA L i j x=false:=by rw[okA,hg,decide_eq_false (p:=x≠0) (by simp [hx])];simp
     have HE:=j3 hok
     rw[hok]
     have hx0:(x.toNat:Int)=0:=by rw[hx];rfl
     generalize bR L i j x=L' at *
     clear hD hg hok HA0 j3 hb hi hx
     go_enter Tryz.func57,Tryz.ntmps57
     go_wp2_with fail
     refine HAt.out.mono ?_
     rintro e w1 ⟨rfl,rfl⟩
     go_wp2
     go_ret
     exact⟨rfl,HE.out⟩
    ·have hok:okA L i j x=true:=by rw[okA,hg,decide_eq_true (p:=(0:Int)≤j) (by omega),decide_eq_true (p:=(j:Int)<72) (by omega),decide_eq_true hx];rfl
     have Hw:Hid (bR L i j x=L.set i (b.a7 (b.cur.set j (b.cur.getD j 0 ^^^ x)) b.past)):=by
      show _=_
      rw[bR,hok,if_pos rfl,fP hb,Lv,Blk.eB];rfl
     rw[hok,Hw.out]
     have iJ:=hD.ok i b hb
     have hpc:=(hD.ptr hb).cell (j:=0) rfl
     rw[Nat.add_zero] at hpc
     have yt:=mS g (i*145) b.aK (ps i) w.drew hpc
     rw[show (if b.aK=true then (⟨ps i,0,none⟩:Addr) else ⟨g,i*145,none⟩)=⟨(aq g ps i b).block,(aq g ps i b).off,none⟩ from by unfold aq;split <;> rfl] at yt
     have qL:=ae yt
     have Rz:(j:Int)<72:=by omega
     have hc:=hD.cur hb
     have hat:(b.cur.map V8)[j]? = some (.int .u8 (b.cur.getD j 0).toNat):=by
      rw[List.getElem?_map,List.getElem?_eq_getElem (by rw[iJ.cur];omega),List.getD_eq_getElem?_getD,List.getElem?_eq_getElem (by rw[iJ.cur];omega)];rfl
     have hcell:=hc.cell hat
     have hfree:=hc.free (j:=j) (by rw[dO iJ];omega)
     have hxx:(x.toNat:Int)≠0:=fun e=>hx (UInt8.toNat_inj.1 (by rw[UInt8.toNat_zero];omega))
     have hxb:((x.toNat:Int) == 0)=false:=by simpa using hxx
     have HF:Hid (∀ W,W=w.drew.setCell ⟨(aq g ps i b).block,(aq g ps i b).off+j,none⟩ (.int .u8 (b.cur.getD j 0 ^^^ x).toNat)→After w F W D (L.set i (b.a7 (b.cur.set j (b.cur.getD j 0 ^^^ x)) b.past))):=by
      rintro W rfl
      have hx:Chg (fun k o=>k=(aq g ps i b).block∧(aq g ps i b).off≤o∧o<(aq g ps i b).off+72) w (w.drew.setCell ⟨(aq g ps i b).block,(aq g ps i b).off+j,none⟩ (.int .u8 (b.cur.getD j 0 ^^^ x).toNat)) :=
       (Chg.refl _ w).drew.setCell rfl (fun _=>⟨rfl,by simp,by simp;omega⟩) (by show (w.cell? _).isSome=true;rw[hcell];rfl) _
      refine hD.both hx hb _ _ (fun k o hs=>.inl hs) (by rw[List.length_set,iJ.cur]) iJ.past ?_ ?_
      ·have h1:aj w.drew (aq g ps i b).block (aq g ps i b).off (b.cur.map V8):=hc
       have:=h1.put j (by rw[dO iJ];omega) (V8 (b.cur.getD j 0 ^^^ x))
       rwa [← List.map_set] at this
      ·refine(hD.past hb).chg hx fun k hk hs=>?_
       rw[bQ _ 72 iJ.past] at hk
       obtain ⟨e,h1,h2⟩:=hs
       unfold aq at e h1 h2
       by_cases hd:b.aK=true
       ·rw[if_pos hd] at e;exact(hD.apart i b hb hd).2.1 e.symm
       ·rw[if_neg hd] at h1 h2;dsimp only at h1 h2;omega
     have HX:Hid (bits .xor .u8 ((b.cur.getD j 0).toNat:Int) x.toNat=((b.cur.getD j 0 ^^^ x).toNat:Int)):=dV _ _
     generalize L.set i (b.a7 (b.cur.set j (b.cur.getD j 0 ^^^ x)) b.past)=L' at *
     generalize (b.cur.getD j 0 ^^^ x).toNat=z at *
     have hy8:=lt8 (b.cur.getD j 0)
     generalize (b.cur.getD j 0).toNat=y at *
     generalize (aq g ps i b).block=cb at *
     generalize (aq g ps i b).off=co at *
     clear hD hg hok HA0 j3 hb hi hx iJ Hw hpc yt hc hat
     go_enter Tryz.func57,Tryz.ntmps57
     go_wp2_with fail
     refine HAt.out.mono ?_
     rintro e w1 ⟨rfl,rfl⟩
     go_wp2
     refine wp_region_still_tail 10 (by kernel_rfl) (by kernel_rfl) ?_
     simp only [List.take_succ_cons,List.take_zero,List.drop_succ_cons,List.drop_zero]
     repeat (first
      | still_step
      | (refine wpStill_step (fun K hK=>?_);go_simp;(with_reducible refine⟨_,qL.out,hK _ ?_⟩);clear hK K))
     refine wpStill_nil ?_
     change wpList _ _ _ _ _ w1.drew
     go_wp2
     go_ret
     refine⟨rfl,?_⟩
     have:=HF.out _ rfl
     rw[← HX.out] at this
     exact this
end Go.Proofs.YthbmknpbcgnabaaGreatDoor
