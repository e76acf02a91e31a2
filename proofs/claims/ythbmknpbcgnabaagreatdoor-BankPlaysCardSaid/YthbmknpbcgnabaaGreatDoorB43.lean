/- Of the walk. -/
import Derived.Test.YthbmknpbcgnabaaGreatDoorB42
set_option maxHeartbeats 40000000
namespace Go.Proofs.YthbmknpbcgnabaaGreatDoor
open Go.RowKit Aes Ctr Sl Dsk
def Bk.fh (mk:List UInt8) (n af:Nat) (D:List Blk) (i:Nat):List (List UInt8):=(List.range i).map fun j=>tg mk j (Bk.aq D (af*n+j))
theorem Bk.vr (mk:List UInt8) (n af:Nat) (D:List Blk) (i:Nat):Bk.fh mk n af D (i+1)=Bk.fh mk n af D i++[tg mk i (Bk.aq D (af*n+i))]:=by
 unfold Bk.fh
 rw[List.range_succ,List.map_append];rfl
theorem Bk.lq (mk:List UInt8) (n af:Nat) (D:List Blk) (i:Nat):(Bk.fh mk n af D i).length=i:=by unfold Bk.fh;simp
set_option maxRecDepth 100000
theorem wQ {w:World} {G K:Nat→Prop} {M kp n ep af wb wc:Nat} {root ek mk:List UInt8} {D:List Blk} {ws:List (List UInt8)} (hR:bL w G M D) (hK:cD w K kp ek mk) (hek:ek.length=16) (hKl:∀ k,K k→k<w.heap.size∧k≠wb∧¬ G k) (hGb:¬ G wb)
  (hW:aj w wb 0 (ws.map VS)) (hwl:ws.length=2*n) (h8:8≤n) (mI:n≤100) (hD:D.length=2*n) (hb1:af≤1) :
  Calls Tryz.prog 25 #[PT M,PT kp,IV n,.int .u64 (ep:Int),IV af,VS root,.slice (some ⟨wb,0,none⟩) (2*n) wc] w fun e w'=>∃ Q F,e=.returned (.tuple #[PT Q,.bool (decide (Bk.b7 mk (Bk.b9 mk n af D)=root))])
   ∧ RB w' F G K Q M kp wb ek mk ⟨n,ep,af,root,Bk.b9 mk n af D,[],0,[]⟩ D ws∧(∀ k,F k→k=wb∨w.heap.size≤k)∧Below w.heap.size w w':=by
 have HEk:=ae hek
 have hGl:∀ k,G k→k<w.heap.size:=by
  obtain ⟨_,_,_,_,_,_,hX⟩:=hR
  exact hX.lt
 have h72:∀ k,k<2*n→(D.getD k Blk.zero).cur.length=72:=fun k hk=>by
  obtain ⟨_,_,_,_,_,_,hX⟩:=hR
  exact(hX.ok k _ (by rw[List.getD_eq_getElem?_getD,List.getElem?_eq_getElem (by omega)];rfl)).cur
 have H72:=ae h72
 have P5:wb<w.heap.size:=hW.lt (by rw[List.length_map];omega)
 have hbn:af*n≤1000:=Nat.le_trans (Nat.mul_le_mul_right _ hb1) (by omega)
 have RI:af*n+n≤2*n:=by
  rcases(show af=0∨af=1 by omega) with e | e <;> rw[e] <;> simp <;> omega
 have hmul:(af:Int)*(n:Int)=((af*n:Nat):Int):=by simp
 have hm1:IntKind.i64.wrap ((af:Int)*(n:Int))=((af*n:Nat):Int):=by rw[hmul,IntWalk.i64_in _ (by omega)]
 have HDl:=ae hD
 have HWl:=ae hwl
 obtain ⟨n2,hn2⟩:∃ x,x=2*n:=⟨_,rfl⟩
 have Hn2:=ae hn2
 obtain ⟨P,hP⟩:∃ x,x=w.heap.size:=⟨_,rfl⟩
 obtain ⟨B,hB⟩:∃ x,x=w.heap.size+1:=⟨_,rfl⟩
 obtain ⟨srt,ua⟩:∃ x,x=aw root:=⟨_,rfl⟩
 have xe:Hid (VS root=.string srt):=by show VS root=_;rw[VS,← ua]
 have Jl:=ae ua
 obtain ⟨JT,hT⟩:∃ x,x=Bk.b9 mk n af D:=⟨_,rfl⟩
 rw[← hT]
 obtain ⟨res,hres⟩:∃ b,b=decide (Bk.b7 mk JT=root):=⟨_,rfl⟩
 rw[← hres]
 have HTf:Hid (Bk.fh mk n af D n=JT):=hT.symm
 have rA:=ae hres
 clear hT hres
 rw[xe.out,← hn2]
 obtain ⟨w2,hw2⟩:∃ W,W=w.alloc (.cells #[PT M,PT kp,IV n,.int .u64 (ep:Int),IV af,.string srt,.slice none 0 0,.slice none 0 0,.int .i64 0,.slice none 0 0,.slice (some ⟨wb,0,none⟩) n2 wc,.bool false] 73):=⟨_,rfl⟩
 have hb2:Below w.heap.size w w2:=by rw[hw2];exact(Below.refl _ _).alloc (Nat.le_refl _) _
 have HL0:Hid (Lay w2 G K P M kp wb wc B n ep af root (.slice none 0 0) (Bk.fh mk n af D 0) false ek mk D ws):=by
  refine⟨hR.below hb2,hK.below hb2,?_,Own.nil _ _ _,hW.stay hb2,⟨by omega,by omega,by rw[hw2];simp;omega,by omega⟩,fun k hk=>?_,fun k hk=>?_⟩
  ·have:=(Row.new w 73 [PT M,PT kp,IV n,.int .u64 (ep:Int),IV af,.string srt,.slice none 0 0,.slice none 0 0,.int .i64 0,.slice none 0 0,.slice (some ⟨wb,0,none⟩) n2 wc,.bool false]).here
   rw[hw2,hP]
   unfold cU
   rw[← hn2,xe.out]
   exact this
  ·have:=hGl k hk;exact⟨by omega,by omega,fun e=>hGb (e ▸ hk)⟩
  ·have:=hKl k hk;exact⟨by omega,by omega,this.2.1,this.2.2⟩
 have HC0:Hid (Chg (fun k _=>G k∧False∨w.heap.size≤k) w w2):=Chg.below hb2 _
 have HBd:Hid (w.heap.size≤P∧w.heap.size≤B):=by show _∧_;omega
 clear hR hK hek hKl hGl hGb hW hwl hD hb2 h72 P5 hB ua hmul hn2
 go_enter Tryz.func25,Tryz.ntmps25
 go_wp2_with fail
 rw[← hP,← hw2]
 clear hw2 hP
 go_loopw [17,18] (fun ii _ wr=>∃ (i:Nat) (tv:Value) (al:Bool),i≤n∧ii=.int .i64 i∧Hid (Lay wr G K P M kp wb wc B n ep af root tv (Bk.fh mk n af D i) al ek mk D ws)∧Hid (Chg (fun k _=>G k∧False∨w.heap.size≤k) w wr)) (fun ii _ _=>n - (RowKit.intOf ii).toNat)
 case atStart=>exact⟨0,_,_,by omega,rfl,HL0,HC0⟩
 case round =>
  obtain ⟨i,tv,al,hi,rfl,HL,HC⟩:=hrel
  clear HL0 HC0
  by_cases hlt:i<n
  ·have HLn:Hid (((Bk.fh mk n af D i).map VS).length+1≤1000000):=by show _≤_;rw[List.length_map,Bk.lq];omega
   obtain ⟨kk,hkk⟩:∃ x,x=af*n+i:=⟨_,rfl⟩
   have hm2:IntKind.i64.wrap (((af*n:Nat):Int)+(i:Int))=(kk:Int):=by rw[IntWalk.i64_in _ (by omega),hkk];simp
   have hkl:kk<2*n:=by omega
   have hTs:=Bk.vr mk n af D i
   rw[← hkk] at hTs
   obtain ⟨raw,ik⟩:∃ r,r=(D.getD kk Blk.zero).cur:=⟨_,rfl⟩
   have HRl:Hid (raw.length=72):=by show _=_;rw[ik];exact H72.out kk hkl
   have hRd:Hid (∀ W,W.heap=wr.heap→Calls Tryz.prog 28 #[PT M,IV kk] W fun e w'=>e=.returned (.string (aw raw))∧w'=W):=fun W hW=>by
    have:=eG HL.out.ref kk _ (by rw[List.getD_eq_getElem?_getD,List.getElem?_eq_getElem (by rw[HDl.out];exact hkl)];rfl:D[kk]? = some (D.getD kk Blk.zero)) W hW
    rw[← ik] at this
    exact this
   rw[Bk.aq,← ik] at hTs
   obtain ⟨st,hst⟩:∃ x,x=aw (tg mk i raw):=⟨_,rfl⟩
   have HTg:Hid (∀ (x:Value) (W:World) tv' tg' al',Lay W G K P M kp wb wc B n ep af root tv' tg' al' ek mk D ws→Arg W x raw→Calls Tryz.prog 54 #[PT kp,IV i,x] W fun e w'=>e=.returned (.string st)∧Below W.heap.size W w'):=fun x W _ _ _ hL hx=>by
    have:=nN kp ek mk (i:Int) raw (by rw[HRl.out];omega) x W hL.key.at hx
    rw[pR i (by omega),← hst] at this
    exact this
   have VSt:Hid (VS (tg mk i raw)=.string st):=by show VS (tg mk i raw)=_;rw[VS,← hst]
   obtain ⟨sr,hsr⟩:∃ x,x=aw raw:=⟨_,rfl⟩
   rw[← hsr] at hRd
   have Hsr:=ae hsr
   have HQ:Hid (Bk.fh mk n af D (i+1)=Bk.fh mk n af D i++[tg mk i raw]):=hTs
   obtain ⟨sw,hsw⟩:∃ x,x=aw (ws.getD kk []):=⟨_,rfl⟩
   have HSw:Hid (∀ W tv' tg' al',Lay W G K P M kp wb wc B n ep af root tv' tg' al' ek mk D ws→W.cell? ⟨wb,kk,none⟩=some (.string sw)):=fun W _ _ _ hL=>by
    rw[hsw]
    exact hL.wrote.head (by rw[List.getElem?_map,List.getElem?_eq_getElem (by rw[HWl.out];exact hkl),List.getD_eq_getElem?_getD,List.getElem?_eq_getElem (by rw[HWl.out];exact hkl)];rfl)
   have ue:(kk:Int)<(n2:Int):=by have:=Hn2.out;omega
   obtain ⟨tj,EH⟩:∃ x,x=Bk.fh mk n af D (i+1):=⟨_,rfl⟩
   have oA:Hid (Bk.fh mk n af D (i+1)=tj):=EH.symm
   rw[← EH] at HQ
   clear EH
   generalize Bk.fh mk n af D i=tgs at *
   generalize tg mk i raw=tg1 at *
   clear hst hsr hsw hTs ik hkk
   obtain ⟨bn,vY⟩:∃ b,b=af*n:=⟨_,rfl⟩
   rw[← vY] at hm1 hm2 hbn
   clear vY
   go_wp2_with fail
   refine(hRd.out _ rfl).mono ?_
   rintro e w3 ⟨rfl,rfl⟩
   have Hm1:=ae hm1
   have Hm2:=ae hm2
   have mR:=ae ue
   clear hRd hm1 hm2 ue
   go_wp2_with fail
   refine wp_region_held_drew (S:=fun _=>True) (by kernel_rfl) trivial (fun aa=>?_)
   have hb0:Below w3.heap.size w3 w3.drew:=below_drewN (Below.refl _ _) 1
   replace HL:=ae (HL.out.stay hb0)
   replace HC:=ae (HC.out.then (Chg.below hb0 _))
   clear hb0
   generalize w3.drew=wrd at *
   refine tkq 0 40 aa ?_
   try go_frame
   refine tkq 1 41 aa ?_
   try go_frame
   refine tkq 2 42 aa ?_
   try go_frame
   refine tkq 3 43 aa ?_
   try go_frame
   refine tkq 5 45 aa ?_
   try go_frame
   refine tkq 6 46 aa ?_
   try go_frame
   refine tkq 7 47 aa ?_
   try go_frame
   refine wpAnyH_ready (rs:=[4,8]) (by kernel_rfl) (by simp) ?_
   refine AllReadyH.cons (o:=⟨some 44,_,_,_,_,_⟩) rfl (fun K hK=>?_) ?_
   ·skip
    have cL:=HL.out.cell (o:=6) rfl
    go_simp
    refine hK.out _ _ (trivial) (fun aa=>?_)
    clear hK K
    try go_frame
    clear cL
    refine rdq 8 48 fun K hK=>?_
    obtain ⟨cap,rF,hcv,hH,hb,hcap⟩:=eV raw wrd
    rw[← Hsr.out] at hcv
    go_simp
    have HA:Hid (Arg rF (.slice (some ⟨wrd.heap.size,0,none⟩) raw.length cap) raw):=.inr ⟨wrd.heap.size,0,cap,rfl,hH.lt (by rw[List.length_map,HRl.out];omega),hcap,hH.1⟩
    replace HL:=ae (HL.out.stay hb)
    replace HC:=ae (HC.out.then (Chg.below hb _))
    clear hcv hH hb hcap
    refine hK.out _ _ (trivial) (fun aa=>?_)
    clear hK K
    try go_frame
    refine rdq 9 49 fun K hK=>?_
    go_simp
    go_at_call 54
    refine(HTg.out _ rF _ _ _ HL.out HA.out).mono ?_
    rintro e aP ⟨rfl,hb⟩
    replace HL:=ae (HL.out.stay hb)
    replace HC:=ae (HC.out.then (Chg.below hb _))
    clear hb HA
    refine hK.out _ _ (trivial) (fun aa=>?_)
    clear hK K
    try go_frame
    refine rdq 10 50 fun K hK=>?_
    go_simp
    have hb:Below aP.heap.size aP (aP.alloc (.cells #[.string st] 9)):=Joins.below_alloc1 _ _
    obtain ⟨gl,Hgl⟩:∃ g,Hid (g=aP.heap.size):=⟨_,rfl⟩
    have HLc:Hid ((aP.alloc (.cells #[.string st] 9)).cell? ⟨aP.heap.size,0,none⟩=some (.string st)):=(Row.new aP 9 [.string st]).cell 0
    replace HL:=ae (HL.out.stay hb)
    replace HC:=ae (HC.out.then (Chg.below hb _))
    refine hK.out _ _ (trivial) (fun aa=>?_)
    clear hK K
    try go_frame
    clear hb
    generalize (aP.alloc (.cells #[.string st] 9))=mV at *
    rw[← Hgl.out] at HLc ⊢
    clear Hgl
    try go_frame
    refine rdq 11 51 fun K hK=>?_
    have hlt:=HL.out.lt.2.2.1
    refine dm rfl (.tmp 44) (.tmp 50) 58 rfl B 9 Tryz.underlying58 aQ rfl (by decide) tv (tgs.map VS) rfl HL.out.tags gl 0 1 (.string st) rfl HLc.out rfl HLn.out hlt ?_
    intro v' ey hown _ _ hch
    obtain ⟨Av,nv,kv,rfl⟩:=ay hown
    rw[← VSt.out] at hown
    obtain ⟨HL2,c6,f6,hc2⟩:=HL.out.app hown hch
    replace HL:=ae HL2
    replace HC:=ae (HC.out.trans hc2 fun k o hk hs=>Or.inr (by have:=HBd.out;omega))
    clear hown hch hlt HL2 hc2 HLc
    refine hK.out _ _ (trivial) (fun aa=>?_)
    clear hK K
    try go_frame
    refine tkq 12 52 aa ?_
    try go_frame
    refine tkq 13 53 aa ?_
    try go_frame
    refine rdn 14 fun K hK=>?_
    go_simp
    refine hK.out _ _ (trivial) (fun aa=>?_)
    clear hK K
    try go_frame
    clear c6 f6
    refine wpAnyH_done (by kernel_rfl) ?_ _
    clear aa
    rw[← HQ.out] at HL
    generalize ey.setCell ⟨P,6,none⟩ (.slice Av nv kv)=w5 at *
    have hm1:=Hm1.out
    have hm2:=Hm2.out
    have ue:=mR.out
    have c11:=HL.out.cell (o:=11) rfl
    have f11:=HL.out.free 11 (by omega)
    have cwb:=HSw.out _ _ _ _ HL.out
    cases al with
    | true =>
     have HE:Hid (Lay (w5.setCell ⟨P,11,none⟩ (.bool true)) G K P M kp wb wc B n ep af root (.slice Av nv kv) tj true ek mk D ws):=HL.out.put (o:=11) (v:=.bool true) (ep':=ep) (root':=root) (tv':=.slice Av nv kv) (al':=true) (by omega) rfl HL.out.tags
     have HCe:=ae (HC.out.trans (HL.out.fJ 11 (by omega) (.bool true)) fun k o hk e=>Or.inr (by have:=HBd.out;omega))
     clear HL HC HTg HSw Hm1 Hm2 mR
     go_wp2
     go_roundw
     case rel=>exact⟨i+1,_,_,by omega,by go_num,by rw[oA.out];exact HE,HCe⟩
     case measure=>simp [RowKit.intOf];omega
    | false =>
     have HE:Hid (Lay (w5.setCell ⟨P,11,none⟩ (.bool (!sr.toList == sw.toList))) G K P M kp wb wc B n ep af root (.slice Av nv kv) tj (!sr.toList == sw.toList) ek mk D ws):=HL.out.put (o:=11) (v:=.bool (!sr.toList == sw.toList)) (ep':=ep) (root':=root) (tv':=.slice Av nv kv) (al':=(!sr.toList == sw.toList)) (by omega) rfl HL.out.tags
     have HCe:=ae (HC.out.trans (HL.out.fJ 11 (by omega) (.bool (!sr.toList == sw.toList))) fun k o hk e=>Or.inr (by have:=HBd.out;omega))
     clear HL HC HTg HSw Hm1 Hm2 mR
     go_wp2
     go_roundw
     case rel=>exact⟨i+1,_,_,by omega,by go_num,by rw[oA.out];exact HE,HCe⟩
     case measure=>simp [RowKit.intOf];omega
   refine AllReadyH.cons (o:=⟨some 48,_,_,_,_,_⟩) rfl (fun K hK=>?_) ?_
   ·skip
    obtain ⟨cap,rF,hcv,hH,hb,hcap⟩:=eV raw wrd
    rw[← Hsr.out] at hcv
    go_simp
    have HA:Hid (Arg rF (.slice (some ⟨wrd.heap.size,0,none⟩) raw.length cap) raw):=.inr ⟨wrd.heap.size,0,cap,rfl,hH.lt (by rw[List.length_map,HRl.out];omega),hcap,hH.1⟩
    replace HL:=ae (HL.out.stay hb)
    replace HC:=ae (HC.out.then (Chg.below hb _))
    clear hcv hH hb hcap
    refine hK.out _ _ (trivial) (fun aa=>?_)
    clear hK K
    try go_frame
    refine wpAnyH_ready (rs:=[4,9]) (by kernel_rfl) (by simp) ?_
    refine AllReadyH.cons (o:=⟨some 44,_,_,_,_,_⟩) rfl (fun K hK=>?_) ?_
    ·skip
     have cL:=HL.out.cell (o:=6) rfl
     go_simp
     refine hK.out _ _ (trivial) (fun aa=>?_)
     clear hK K
     try go_frame
     clear cL
     refine rdq 9 49 fun K hK=>?_
     go_simp
     go_at_call 54
     refine(HTg.out _ rF _ _ _ HL.out HA.out).mono ?_
     rintro e aP ⟨rfl,hb⟩
     replace HL:=ae (HL.out.stay hb)
     replace HC:=ae (HC.out.then (Chg.below hb _))
     clear hb HA
     refine hK.out _ _ (trivial) (fun aa=>?_)
     clear hK K
     try go_frame
     refine rdq 10 50 fun K hK=>?_
     go_simp
     have hb:Below aP.heap.size aP (aP.alloc (.cells #[.string st] 9)):=Joins.below_alloc1 _ _
     obtain ⟨gl,Hgl⟩:∃ g,Hid (g=aP.heap.size):=⟨_,rfl⟩
     have HLc:Hid ((aP.alloc (.cells #[.string st] 9)).cell? ⟨aP.heap.size,0,none⟩=some (.string st)):=(Row.new aP 9 [.string st]).cell 0
     replace HL:=ae (HL.out.stay hb)
     replace HC:=ae (HC.out.then (Chg.below hb _))
     refine hK.out _ _ (trivial) (fun aa=>?_)
     clear hK K
     try go_frame
     clear hb
     generalize (aP.alloc (.cells #[.string st] 9))=mV at *
     rw[← Hgl.out] at HLc ⊢
     clear Hgl
     try go_frame
     refine rdq 11 51 fun K hK=>?_
     have hlt:=HL.out.lt.2.2.1
     refine dm rfl (.tmp 44) (.tmp 50) 58 rfl B 9 Tryz.underlying58 aQ rfl (by decide) tv (tgs.map VS) rfl HL.out.tags gl 0 1 (.string st) rfl HLc.out rfl HLn.out hlt ?_
     intro v' ey hown _ _ hch
     obtain ⟨Av,nv,kv,rfl⟩:=ay hown
     rw[← VSt.out] at hown
     obtain ⟨HL2,c6,f6,hc2⟩:=HL.out.app hown hch
     replace HL:=ae HL2
     replace HC:=ae (HC.out.trans hc2 fun k o hk hs=>Or.inr (by have:=HBd.out;omega))
     clear hown hch hlt HL2 hc2 HLc
     refine hK.out _ _ (trivial) (fun aa=>?_)
     clear hK K
     try go_frame
     refine tkq 12 52 aa ?_
     try go_frame
     refine tkq 13 53 aa ?_
     try go_frame
     refine rdn 14 fun K hK=>?_
     go_simp
     refine hK.out _ _ (trivial) (fun aa=>?_)
     clear hK K
     try go_frame
     clear c6 f6
     refine wpAnyH_done (by kernel_rfl) ?_ _
     clear aa
     rw[← HQ.out] at HL
     generalize ey.setCell ⟨P,6,none⟩ (.slice Av nv kv)=w5 at *
     have hm1:=Hm1.out
     have hm2:=Hm2.out
     have ue:=mR.out
     have c11:=HL.out.cell (o:=11) rfl
     have f11:=HL.out.free 11 (by omega)
     have cwb:=HSw.out _ _ _ _ HL.out
     cases al with
     | true =>
      have HE:Hid (Lay (w5.setCell ⟨P,11,none⟩ (.bool true)) G K P M kp wb wc B n ep af root (.slice Av nv kv) tj true ek mk D ws):=HL.out.put (o:=11) (v:=.bool true) (ep':=ep) (root':=root) (tv':=.slice Av nv kv) (al':=true) (by omega) rfl HL.out.tags
      have HCe:=ae (HC.out.trans (HL.out.fJ 11 (by omega) (.bool true)) fun k o hk e=>Or.inr (by have:=HBd.out;omega))
      clear HL HC HTg HSw Hm1 Hm2 mR
      go_wp2
      go_roundw
      case rel=>exact⟨i+1,_,_,by omega,by go_num,by rw[oA.out];exact HE,HCe⟩
      case measure=>simp [RowKit.intOf];omega
     | false =>
      have HE:Hid (Lay (w5.setCell ⟨P,11,none⟩ (.bool (!sr.toList == sw.toList))) G K P M kp wb wc B n ep af root (.slice Av nv kv) tj (!sr.toList == sw.toList) ek mk D ws):=HL.out.put (o:=11) (v:=.bool (!sr.toList == sw.toList)) (ep':=ep) (root':=root) (tv':=.slice Av nv kv) (al':=(!sr.toList == sw.toList)) (by omega) rfl HL.out.tags
      have HCe:=ae (HC.out.trans (HL.out.fJ 11 (by omega) (.bool (!sr.toList == sw.toList))) fun k o hk e=>Or.inr (by have:=HBd.out;omega))
      clear HL HC HTg HSw Hm1 Hm2 mR
      go_wp2
      go_roundw
      case rel=>exact⟨i+1,_,_,by omega,by go_num,by rw[oA.out];exact HE,HCe⟩
      case measure=>simp [RowKit.intOf];omega
    refine AllReadyH.cons (o:=⟨some 49,_,_,_,_,_⟩) rfl (fun K hK=>?_) ?_
    ·skip
     go_simp
     go_at_call 54
     refine(HTg.out _ rF _ _ _ HL.out HA.out).mono ?_
     rintro e aP ⟨rfl,hb⟩
     replace HL:=ae (HL.out.stay hb)
     replace HC:=ae (HC.out.then (Chg.below hb _))
     clear hb HA
     refine hK.out _ _ (trivial) (fun aa=>?_)
     clear hK K
     try go_frame
     refine wpAnyH_ready (rs:=[4,10]) (by kernel_rfl) (by simp) ?_
     refine AllReadyH.cons (o:=⟨some 44,_,_,_,_,_⟩) rfl (fun K hK=>?_) ?_
     ·skip
      have cL:=HL.out.cell (o:=6) rfl
      go_simp
      refine hK.out _ _ (trivial) (fun aa=>?_)
      clear hK K
      try go_frame
      clear cL
      refine rdq 10 50 fun K hK=>?_
      go_simp
      have hb:Below aP.heap.size aP (aP.alloc (.cells #[.string st] 9)):=Joins.below_alloc1 _ _
      obtain ⟨gl,Hgl⟩:∃ g,Hid (g=aP.heap.size):=⟨_,rfl⟩
      have HLc:Hid ((aP.alloc (.cells #[.string st] 9)).cell? ⟨aP.heap.size,0,none⟩=some (.string st)):=(Row.new aP 9 [.string st]).cell 0
      replace HL:=ae (HL.out.stay hb)
      replace HC:=ae (HC.out.then (Chg.below hb _))
      refine hK.out _ _ (trivial) (fun aa=>?_)
      clear hK K
      try go_frame
      clear hb
      generalize (aP.alloc (.cells #[.string st] 9))=mV at *
      rw[← Hgl.out] at HLc ⊢
      clear Hgl
      try go_frame
      refine rdq 11 51 fun K hK=>?_
      have hlt:=HL.out.lt.2.2.1
      refine dm rfl (.tmp 44) (.tmp 50) 58 rfl B 9 Tryz.underlying58 aQ rfl (by decide) tv (tgs.map VS) rfl HL.out.tags gl 0 1 (.string st) rfl HLc.out rfl HLn.out hlt ?_
      intro v' ey hown _ _ hch
      obtain ⟨Av,nv,kv,rfl⟩:=ay hown
      rw[← VSt.out] at hown
      obtain ⟨HL2,c6,f6,hc2⟩:=HL.out.app hown hch
      replace HL:=ae HL2
      replace HC:=ae (HC.out.trans hc2 fun k o hk hs=>Or.inr (by have:=HBd.out;omega))
      clear hown hch hlt HL2 hc2 HLc
      refine hK.out _ _ (trivial) (fun aa=>?_)
      clear hK K
      try go_frame
      refine tkq 12 52 aa ?_
      try go_frame
      refine tkq 13 53 aa ?_
      try go_frame
      refine rdn 14 fun K hK=>?_
      go_simp
      refine hK.out _ _ (trivial) (fun aa=>?_)
      clear hK K
      try go_frame
      clear c6 f6
      refine wpAnyH_done (by kernel_rfl) ?_ _
      clear aa
      rw[← HQ.out] at HL
      generalize ey.setCell ⟨P,6,none⟩ (.slice Av nv kv)=w5 at *
      have hm1:=Hm1.out
      have hm2:=Hm2.out
      have ue:=mR.out
      have c11:=HL.out.cell (o:=11) rfl
      have f11:=HL.out.free 11 (by omega)
      have cwb:=HSw.out _ _ _ _ HL.out
      cases al with
      | true =>
       have HE:Hid (Lay (w5.setCell ⟨P,11,none⟩ (.bool true)) G K P M kp wb wc B n ep af root (.slice Av nv kv) tj true ek mk D ws):=HL.out.put (o:=11) (v:=.bool true) (ep':=ep) (root':=root) (tv':=.slice Av nv kv) (al':=true) (by omega) rfl HL.out.tags
       have HCe:=ae (HC.out.trans (HL.out.fJ 11 (by omega) (.bool true)) fun k o hk e=>Or.inr (by have:=HBd.out;omega))
       clear HL HC HTg HSw Hm1 Hm2 mR
       go_wp2
       go_roundw
       case rel=>exact⟨i+1,_,_,by omega,by go_num,by rw[oA.out];exact HE,HCe⟩
       case measure=>simp [RowKit.intOf];omega
      | false =>
       have HE:Hid (Lay (w5.setCell ⟨P,11,none⟩ (.bool (!sr.toList == sw.toList))) G K P M kp wb wc B n ep af root (.slice Av nv kv) tj (!sr.toList == sw.toList) ek mk D ws):=HL.out.put (o:=11) (v:=.bool (!sr.toList == sw.toList)) (ep':=ep) (root':=root) (tv':=.slice Av nv kv) (al':=(!sr.toList == sw.toList)) (by omega) rfl HL.out.tags
       have HCe:=ae (HC.out.trans (HL.out.fJ 11 (by omega) (.bool (!sr.toList == sw.toList))) fun k o hk e=>Or.inr (by have:=HBd.out;omega))
       clear HL HC HTg HSw Hm1 Hm2 mR
       go_wp2
       go_roundw
       case rel=>exact⟨i+1,_,_,by omega,by go_num,by rw[oA.out];exact HE,HCe⟩
       case measure=>simp [RowKit.intOf];omega
     refine AllReadyH.cons (o:=⟨some 50,_,_,_,_,_⟩) rfl (fun K hK=>?_) ?_
     ·skip
      go_simp
      have hb:Below aP.heap.size aP (aP.alloc (.cells #[.string st] 9)):=Joins.below_alloc1 _ _
      obtain ⟨gl,Hgl⟩:∃ g,Hid (g=aP.heap.size):=⟨_,rfl⟩
      have HLc:Hid ((aP.alloc (.cells #[.string st] 9)).cell? ⟨aP.heap.size,0,none⟩=some (.string st)):=(Row.new aP 9 [.string st]).cell 0
      replace HL:=ae (HL.out.stay hb)
      replace HC:=ae (HC.out.then (Chg.below hb _))
      refine hK.out _ _ (trivial) (fun aa=>?_)
      clear hK K
      try go_frame
      clear hb
      generalize (aP.alloc (.cells #[.string st] 9))=mV at *
      rw[← Hgl.out] at HLc ⊢
      clear Hgl
      try go_frame
      refine rdq 4 44 fun K hK=>?_
      have cL:=HL.out.cell (o:=6) rfl
      go_simp
      refine hK.out _ _ (trivial) (fun aa=>?_)
      clear hK K
      try go_frame
      clear cL
      refine rdq 11 51 fun K hK=>?_
      have hlt:=HL.out.lt.2.2.1
      refine dm rfl (.tmp 44) (.tmp 50) 58 rfl B 9 Tryz.underlying58 aQ rfl (by decide) tv (tgs.map VS) rfl HL.out.tags gl 0 1 (.string st) rfl HLc.out rfl HLn.out hlt ?_
      intro v' ey hown _ _ hch
      obtain ⟨Av,nv,kv,rfl⟩:=ay hown
      rw[← VSt.out] at hown
      obtain ⟨HL2,c6,f6,hc2⟩:=HL.out.app hown hch
      replace HL:=ae HL2
      replace HC:=ae (HC.out.trans hc2 fun k o hk hs=>Or.inr (by have:=HBd.out;omega))
      clear hown hch hlt HL2 hc2 HLc
      refine hK.out _ _ (trivial) (fun aa=>?_)
      clear hK K
      try go_frame
      refine tkq 12 52 aa ?_
      try go_frame
      refine tkq 13 53 aa ?_
      try go_frame
      refine rdn 14 fun K hK=>?_
      go_simp
      refine hK.out _ _ (trivial) (fun aa=>?_)
      clear hK K
      try go_frame
      clear c6 f6
      refine wpAnyH_done (by kernel_rfl) ?_ _
      clear aa
      rw[← HQ.out] at HL
      generalize ey.setCell ⟨P,6,none⟩ (.slice Av nv kv)=w5 at *
      have hm1:=Hm1.out
      have hm2:=Hm2.out
      have ue:=mR.out
      have c11:=HL.out.cell (o:=11) rfl
      have f11:=HL.out.free 11 (by omega)
      have cwb:=HSw.out _ _ _ _ HL.out
      cases al with
      | true =>
       have HE:Hid (Lay (w5.setCell ⟨P,11,none⟩ (.bool true)) G K P M kp wb wc B n ep af root (.slice Av nv kv) tj true ek mk D ws):=HL.out.put (o:=11) (v:=.bool true) (ep':=ep) (root':=root) (tv':=.slice Av nv kv) (al':=true) (by omega) rfl HL.out.tags
       have HCe:=ae (HC.out.trans (HL.out.fJ 11 (by omega) (.bool true)) fun k o hk e=>Or.inr (by have:=HBd.out;omega))
       clear HL HC HTg HSw Hm1 Hm2 mR
       go_wp2
       go_roundw
       case rel=>exact⟨i+1,_,_,by omega,by go_num,by rw[oA.out];exact HE,HCe⟩
       case measure=>simp [RowKit.intOf];omega
      | false =>
       have HE:Hid (Lay (w5.setCell ⟨P,11,none⟩ (.bool (!sr.toList == sw.toList))) G K P M kp wb wc B n ep af root (.slice Av nv kv) tj (!sr.toList == sw.toList) ek mk D ws):=HL.out.put (o:=11) (v:=.bool (!sr.toList == sw.toList)) (ep':=ep) (root':=root) (tv':=.slice Av nv kv) (al':=(!sr.toList == sw.toList)) (by omega) rfl HL.out.tags
       have HCe:=ae (HC.out.trans (HL.out.fJ 11 (by omega) (.bool (!sr.toList == sw.toList))) fun k o hk e=>Or.inr (by have:=HBd.out;omega))
       clear HL HC HTg HSw Hm1 Hm2 mR
       go_wp2
       go_roundw
       case rel=>exact⟨i+1,_,_,by omega,by go_num,by rw[oA.out];exact HE,HCe⟩
       case measure=>simp [RowKit.intOf];omega
     exact AllReadyH.nil
    exact AllReadyH.nil
   exact AllReadyH.nil
  ·obtain rfl:i=n:=by omega
   have h32:∀ t∈Bk.fh mk i af D i,t.length=32:=Bk.pE
   obtain ⟨pm,hkp,hrt⟩:=HL.out.Je h32 (by rw[Bk.lq];exact mI)
   have HKp:=ae hkp
   clear hkp h32 hm1
   rw[HTf.out] at HL hrt
   clear HTf
   obtain ⟨rt,vU⟩:∃ r,r=Bk.b7 mk JT:=⟨_,rfl⟩
   have hres:=rA.out
   rw[← vU] at hrt hres
   clear vU rA
   obtain ⟨sr2,Kw⟩:∃ s,s=aw rt:=⟨_,rfl⟩
   have Oz:=ae Kw
   rw[VS,← Kw] at hrt
   have HRt:=ae hrt
   have hex:(res=true∧rt=root)∨(res=false∧rt≠root):=by
    by_cases h:rt=root
    ·exact .inl ⟨by rw[hres,decide_eq_true h],h⟩
    ·exact .inr ⟨by rw[hres,decide_eq_false h],h⟩
   clear hrt Kw hres
   rcases hex with ⟨hr,he⟩ | ⟨hr,he⟩
   ·have hss:sr2=srt:=by rw[Oz.out,Jl.out,he]
    subst hr hss
    clear he
    go_wp2_with fail
    have hC:Chg (fun k _=>k=P) wr wr.drew:=(Chg.refl _ _).drew
    replace HL:=ae HL.out.drew
    refine wp_region_held_drew (S:=(fun X=>X.cell? ⟨kp,3,none⟩=some (.pointer (some ⟨pm,0,none⟩))∧X.cell? ⟨P,6,none⟩=some tv)) (by kernel_rfl) ⟨HKp.out _ hC,HL.out.cell (o:=6) rfl⟩ (fun aa=>?_)
    generalize wr.drew=wrd at *
    refine tkq 0 73 aa ?_
    try go_frame
    refine tkq 1 74 aa ?_
    try go_frame
    refine tkq 2 75 aa ?_
    try go_frame
    refine tkq 3 76 aa ?_
    try go_frame
    refine tkh 4 77 rfl aa ?_ (Or.inl ⟨by rfl,by intro w hSw;have hc:=hSw.1;go_simp;with_reducible rfl⟩)
    try go_frame
    refine tkq 5 78 aa ?_
    try go_frame
    refine tkq 6 79 aa ?_
    try go_frame
    refine tkq 7 80 aa ?_
    try go_frame
    refine tkh 8 81 rfl aa ?_ (Or.inl ⟨by rfl,by intro w hSw;have hc:=hSw.2;go_simp;with_reducible rfl⟩)
    try go_frame
    refine tkq 10 83 aa ?_
    try go_frame
    refine rdq 9 82 fun K hK=>?_
    go_simp
    go_at_call 46
    refine(HRt.out wrd hC HL.out.tags).mono ?_
    rintro e L5 ⟨rfl,hb⟩
    replace HL:=ae (HL.out.stay hb)
    replace hC:=hC.then (Chg.below hb _)
    clear hb
    refine hK.out _ _ (⟨HKp.out _ hC,HL.out.cell (o:=6) rfl⟩) (fun aa=>?_)
    clear hK K
    try go_frame
    refine tkq 11 84 aa ?_
    try go_frame
    refine tkq 12 14 aa ?_
    try go_frame
    refine tkq 13 15 aa ?_
    try go_frame
    refine wpAnyH_done (by kernel_rfl) ?_ _
    clear aa
    go_wp2
    go_ret2
    exact⟨P,_,rfl,HL.out.rb HEk.out HWl.out mI hb1,fun k hk=>by have:=HBd.out;omega,((HC.out.trans hC fun k o hk e=>Or.inr (by have:=HBd.out;omega)).toBelow fun k o hk hs=>hs.elim (fun h=>h.2) fun h=>by omega)⟩
   ·have hx:=zG he
    rw[← Oz.out,← Jl.out] at hx
    have Hx:=ae hx
    subst hr
    clear hx he
    go_wp2_with fail
    have hC:Chg (fun k _=>k=P) wr wr.drew:=(Chg.refl _ _).drew
    replace HL:=ae HL.out.drew
    refine wp_region_held_drew (S:=(fun X=>X.cell? ⟨kp,3,none⟩=some (.pointer (some ⟨pm,0,none⟩))∧X.cell? ⟨P,6,none⟩=some tv)) (by kernel_rfl) ⟨HKp.out _ hC,HL.out.cell (o:=6) rfl⟩ (fun aa=>?_)
    generalize wr.drew=wrd at *
    refine tkq 0 73 aa ?_
    try go_frame
    refine tkq 1 74 aa ?_
    try go_frame
    refine tkq 2 75 aa ?_
    try go_frame
    refine tkq 3 76 aa ?_
    try go_frame
    refine tkh 4 77 rfl aa ?_ (Or.inl ⟨by rfl,by intro w hSw;have hc:=hSw.1;go_simp;with_reducible rfl⟩)
    try go_frame
    refine tkq 5 78 aa ?_
    try go_frame
    refine tkq 6 79 aa ?_
    try go_frame
    refine tkq 7 80 aa ?_
    try go_frame
    refine tkh 8 81 rfl aa ?_ (Or.inl ⟨by rfl,by intro w hSw;have hc:=hSw.2;go_simp;with_reducible rfl⟩)
    try go_frame
    refine tkq 10 83 aa ?_
    try go_frame
    refine rdq 9 82 fun K hK=>?_
    go_simp
    go_at_call 46
    refine(HRt.out wrd hC HL.out.tags).mono ?_
    rintro e L5 ⟨rfl,hb⟩
    replace HL:=ae (HL.out.stay hb)
    replace hC:=hC.then (Chg.below hb _)
    clear hb
    refine hK.out _ _ (⟨HKp.out _ hC,HL.out.cell (o:=6) rfl⟩) (fun aa=>?_)
    clear hK K
    try go_frame
    refine tkh 11 84 rfl aa ?_ (Or.inl ⟨by rfl,by intro w hSw;have hx:=Hx.out;go_simp;with_reducible rfl⟩)
    try go_frame
    refine tkq 12 14 aa ?_
    try go_frame
    refine tkq 13 15 aa ?_
    try go_frame
    refine wpAnyH_done (by kernel_rfl) ?_ _
    clear aa
    go_wp2
    go_ret2
    exact⟨P,_,rfl,HL.out.rb HEk.out HWl.out mI hb1,fun k hk=>by have:=HBd.out;omega,((HC.out.trans hC fun k o hk e=>Or.inr (by have:=HBd.out;omega)).toBelow fun k o hk hs=>hs.elim (fun h=>h.2) fun h=>by omega)⟩
end Go.Proofs.YthbmknpbcgnabaaGreatDoor
