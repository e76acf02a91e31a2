/- Of the walk. -/
import Derived.Test.YthbmknpbcgnabaaGreatDoorB33
set_option maxHeartbeats 40000000
namespace Go.Proofs.YthbmknpbcgnabaaGreatDoor
open Go.RowKit Aes Ctr Sl Dsk
set_option maxRecDepth 100000
theorem uH {w:World} {G K:Nat→Prop} {M kp n:Nat} {ek mk:List UInt8} {D:List Blk} (hR:bL w G M D) (hK:cD w K kp ek mk) (hek:ek.length=16) (hKl:∀ k,K k→k<w.heap.size∧¬ G k) (h8:8≤n) (mI:n≤100) (hD:D.length=2*n) :
  Calls Tryz.prog 13 #[PT M,PT kp,IV n] w fun e w'=>∃ Q wb ws F,e=.returned (PT Q)∧RB w' F G K Q M kp wb ek mk (Bk.format ek mk n D).1 (Bk.format ek mk n D).2 ws∧(∀ k,F k→w.heap.size≤k)∧Chg (fun k _=>G k) w w':=by
 have HR:=ae hR
 have HK:=ae hK
 have HEk:=ae hek
 have HKl:=ae hKl
 have hD0:=ae hD
 have hGl:∀ k,G k→k<w.heap.size:=by
  obtain ⟨_,_,_,_,_,_,hX⟩:=hR
  exact hX.lt
 obtain ⟨n2,hn2⟩:∃ x,x=2*n:=⟨_,rfl⟩
 have Hn2:=ae hn2
 have h2n:IntKind.i64.wrap (2*(n:Int))=(n2:Int):=by rw[IntWalk.i64_in _ (by omega)];omega
 have hms:=Es n2 (by omega) w
 obtain ⟨z,hz⟩:∃ z,z=Bk.z64.map V8:=⟨_,rfl⟩
 have HMk:Hid (∀ W:World,(Instr.makeSlice 22 (.int .i64 64) (.int .i64 64)).run Tryz.prog W=.ok (.slice (some ⟨W.heap.size,0,none⟩) 64 64) (W.alloc (.cells z.toArray 5))):=fun W=>by rw[hz,Bk.z64];exact pT 64 (by omega) W
 have HZa:Hid (∀ W:World,Arg (W.alloc (.cells z.toArray 5)) (.slice (some ⟨W.heap.size,0,none⟩) 64 64) Bk.z64):=fun W=>by rw[hz];exact .inr ⟨W.heap.size,0,64,rfl,by simp,by decide,(Row.new W 5 (Bk.z64.map V8)).sees⟩
 obtain ⟨sz,hsz⟩:∃ s,s=aw Bk.z64:=⟨_,rfl⟩
 have Hsz:Hid (aw Bk.z64=sz):=hsz.symm
 obtain ⟨w1,hw1⟩:∃ W,W=w.alloc (.cells ((List.replicate n2 ([]:List UInt8)).map VS).toArray 9):=⟨_,rfl⟩
 have hH1:aj w1 w.heap.size 0 ((List.replicate n2 ([]:List UInt8)).map VS):=by rw[hw1];exact(Row.new w 9 _).here
 have hb1:Below w.heap.size w w1:=by rw[hw1];exact(Below.refl _ _).alloc (Nat.le_refl _) _
 have hs1:w1.heap.size=w.heap.size+1:=by rw[hw1];simp
 obtain ⟨wb,hwb⟩:∃ x,x=w.heap.size:=⟨_,rfl⟩
 obtain ⟨P,hP⟩:∃ x,x=w1.heap.size:=⟨_,rfl⟩
 obtain ⟨B,hB⟩:∃ x,x=w1.heap.size+1:=⟨_,rfl⟩
 obtain ⟨w2,hw2⟩:∃ W,W=w1.alloc (.cells #[PT M,PT kp,IV n,.int .u64 1,.int .i64 0,.string ⟨#[]⟩,.slice none 0 0,.slice none 0 0,.int .i64 0,.slice none 0 0,.slice (some ⟨wb,0,none⟩) n2 n2,.bool false] 73):=⟨_,rfl⟩
 have hb2:Below w1.heap.size w1 w2:=by rw[hw2];exact(Below.refl _ _).alloc (Nat.le_refl _) _
 have oL:Below w.heap.size w w2:=hb1.trans (hb2.mono hb1.size)
 have HL0:Hid (Lay w2 G K P M kp wb n2 B n 1 0 [] (.slice none 0 0) [] false ek mk D (List.replicate n2 ([]:List UInt8))):=by
  refine⟨hR.below oL,hK.below oL,?_,Own.nil _ _ _,?_,⟨by omega,by omega,by rw[hw2];simp;omega,by omega⟩,fun k hk=>?_,fun k hk=>?_⟩
  ·have:=(Row.new w1 73 [PT M,PT kp,IV n,.int .u64 1,.int .i64 0,.string ⟨#[]⟩,.slice none 0 0,.slice none 0 0,.int .i64 0,.slice none 0 0,.slice (some ⟨wb,0,none⟩) n2 n2,.bool false]).here
   rw[hw2,hP]
   unfold cU
   rw[← hn2]
   exact this
  ·rw[hwb];exact hH1.stay hb2
  ·have:=hGl k hk;omega
  ·have:=hKl k hk;exact⟨by omega,by omega,by omega,this.2⟩
 have HC0:Hid (Chg (fun k _=>G k∨w.heap.size≤k) w w2):=Chg.below oL _
 have HBd:Hid (w.heap.size≤P∧w.heap.size≤B):=by show _∧_;omega
 have Hwb:Hid (w.heap.size≤wb):=by show _≤_;omega
 have HW0:Hid ((List.replicate n2 ([]:List UInt8)).length=2*n):=by show _=_;rw[List.length_replicate];exact hn2
 rw[← hw1,← hwb] at hms
 generalize List.replicate n2 ([]:List UInt8)=ws0 at *
 clear hR hK hek hKl hGl hD hn2 hz hsz hb1 hb2 oL hH1 hs1 hB hwb hw1
 go_enter Tryz.func13,Tryz.ntmps13
 go_wp2_with fail
 rw[← hP,← hw2]
 clear hw2 hP hms h2n
 go_loopw [8] (fun ii wr=>∃ (i:Nat) (tv:Value) (ws:List (List UInt8)),i≤n∧ii=.int .i64 i∧Hid (Lay wr G K P M kp wb n2 B n 1 0 [] tv (Bk.bw ek mk n 0 1 (fun _=>Bk.z64) i D).2 false ek mk (Bk.bw ek mk n 0 1 (fun _=>Bk.z64) i D).1 ws)∧Hid (Chg (fun k _=>G k∨w.heap.size≤k) w wr)∧Hid (ws.length=2*n)) (fun ii _=>n - (RowKit.intOf ii).toNat)
 case atStart=>exact⟨0,_,_,by omega,rfl,HL0,HC0,HW0⟩
 case round =>
  obtain ⟨i,tv,ws,hi,rfl,HL,HC,HW⟩:=hrel
  clear HL0 HC0 HW0
  by_cases hlt:i<n
  ·have HLn:Hid (((Bk.bw ek mk n 0 1 (fun _=>Bk.z64) i D).2.map VS).length+1≤1000000):=by show _≤_;rw[List.length_map,(Bk.cC i).2];omega
   have zn:Hid (∀ W,Lay W G K P M kp wb n2 B n 1 0 [] tv (Bk.bw ek mk n 0 1 (fun _=>Bk.z64) i D).2 false ek mk (Bk.bw ek mk n 0 1 (fun _=>Bk.z64) i D).1 ws→_):=fun W h=>h.PQ (bk:=0) (i:=i) (e0:=1) (plain:=Bk.z64) HEk.out HW.out (by omega) hlt mI (by decide) rfl
   have HQ:Hid ((Bk.bw ek mk n 0 1 (fun _=>Bk.z64) (i+1) D).1=(Bk.put ek mk n 0 i 1 Bk.z64 (Bk.bw ek mk n 0 1 (fun _=>Bk.z64) i D).1).1∧(Bk.bw ek mk n 0 1 (fun _=>Bk.z64) (i+1) D).2=(Bk.bw ek mk n 0 1 (fun _=>Bk.z64) i D).2++[(Bk.put ek mk n 0 i 1 Bk.z64 (Bk.bw ek mk n 0 1 (fun _=>Bk.z64) i D).1).2]):=⟨rfl,rfl⟩
   have HW2:Hid ((ws.set (0*n+i) (rw_ ek i 1 Bk.z64)).length=2*n):=by show _=_;rw[List.length_set];exact HW.out
   generalize ws.set (0*n+i) (rw_ ek i 1 Bk.z64)=ws2 at *
   generalize Bk.put ek mk n 0 i 1 Bk.z64 (Bk.bw ek mk n 0 1 (fun _=>Bk.z64) i D).1=pd at *
   obtain ⟨D1,tg1⟩:=pd
   dsimp only at zn HQ
   generalize (Bk.bw ek mk n 0 1 (fun _=>Bk.z64) i D).1=D0 at *
   generalize (Bk.bw ek mk n 0 1 (fun _=>Bk.z64) i D).2=tgs at *
   obtain ⟨st,hst⟩:∃ s,s=aw tg1:=⟨_,rfl⟩
   have VSt:Hid (VS tg1=.string st):=by show VS tg1=_;rw[VS,← hst]
   rw[VSt.out] at zn
   simp only [VS,Hsz.out] at zn
   clear hst
   go_wp2
   refine wp_region_held_drew (S:=fun _=>True) (by kernel_rfl) trivial (fun aa=>?_)
   have hb0:Below wr.heap.size wr wr.drew:=below_drewN (Below.refl _ _) 1
   replace HL:=ae (HL.out.stay hb0)
   replace HC:=ae (HC.out.then (Chg.below hb0 _))
   clear hb0
   generalize wr.drew=wrd at *
   refine tkq 0 22 aa ?_
   try go_frame
   refine tkq 1 23 aa ?_
   try go_frame
   refine tkq 2 24 aa ?_
   try go_frame
   refine tkq 3 25 aa ?_
   try go_frame
   refine tkq 5 27 aa ?_
   try go_frame
   refine tkq 6 28 aa ?_
   try go_frame
   refine wpAnyH_ready (rs:=[4,7]) (by kernel_rfl) (by simp) ?_
   refine AllReadyH.cons (o:=⟨some 26,_,_,_,_,_⟩) rfl (fun K hK=>?_) ?_
   ·skip
    have cL:=HL.out.cell (o:=6) rfl
    go_simp
    refine hK.out _ _ (trivial) (fun aa=>?_)
    clear hK K
    try go_frame
    clear cL
    refine rdq 7 29 fun K hK=>?_
    have hmk:=HMk.out wrd
    go_simp
    clear hmk
    have hb:Below wrd.heap.size wrd (wrd.alloc (.cells z.toArray 5)):=Joins.below_alloc1 _ _
    obtain ⟨gm,Hgm⟩:∃ g,Hid (g=wrd.heap.size):=⟨_,rfl⟩
    have HA:Hid (Arg (wrd.alloc (.cells z.toArray 5)) (.slice (some ⟨wrd.heap.size,0,none⟩) 64 64) Bk.z64):=HZa.out wrd
    replace HL:=ae (HL.out.stay hb)
    replace HC:=ae (HC.out.then (Chg.below hb _))
    refine hK.out _ _ (trivial) (fun aa=>?_)
    clear hK K
    try go_frame
    clear hb
    generalize (wrd.alloc (.cells z.toArray 5))=uX at *
    rw[← Hgm.out] at HA ⊢
    clear Hgm
    try go_frame
    refine rdq 8 30 fun K hK=>?_
    have hcv:=bS HA.out
    rw[Hsz.out] at hcv
    go_simp
    refine hK.out _ _ (trivial) (fun aa=>?_)
    clear hK K
    try go_frame
    clear hcv HA
    refine rdq 9 31 fun K hK=>?_
    go_simp
    go_at_call 44
    refine(zn.out uX HL.out).mono ?_
    rintro e aD ⟨rfl,hL,hc⟩
    replace HL:=ae hL
    replace HC:=ae (HC.out.trans hc fun k o hk hs=>hs.elim .inl fun e=>.inr (by have:=Hwb.out;omega))
    clear hL hc
    refine hK.out _ _ (trivial) (fun aa=>?_)
    clear hK K
    try go_frame
    refine rdq 10 32 fun K hK=>?_
    go_simp
    have hb:Below aD.heap.size aD (aD.alloc (.cells #[.string st] 9)):=Joins.below_alloc1 _ _
    obtain ⟨gl,Hgl⟩:∃ g,Hid (g=aD.heap.size):=⟨_,rfl⟩
    have HLc:Hid ((aD.alloc (.cells #[.string st] 9)).cell? ⟨aD.heap.size,0,none⟩=some (.string st)):=(Row.new aD 9 [.string st]).cell 0
    replace HL:=ae (HL.out.stay hb)
    replace HC:=ae (HC.out.then (Chg.below hb _))
    refine hK.out _ _ (trivial) (fun aa=>?_)
    clear hK K
    try go_frame
    clear hb
    generalize (aD.alloc (.cells #[.string st] 9))=kR at *
    rw[← Hgl.out] at HLc ⊢
    clear Hgl
    try go_frame
    refine rdq 11 33 fun K hK=>?_
    have hlt:=HL.out.lt.2.2.1
    refine dm rfl (.tmp 26) (.tmp 32) 58 rfl B 9 Tryz.underlying58 aQ rfl (by decide) tv (tgs.map VS) rfl HL.out.tags gl 0 1 (.string st) rfl HLc.out rfl HLn.out hlt ?_
    intro v' iV hown _ _ hch
    obtain ⟨Av,nv,kv,rfl⟩:=ay hown
    rw[← VSt.out] at hown
    obtain ⟨HL2,c6,f6,hc2⟩:=HL.out.app hown hch
    replace HL:=ae HL2
    replace HC:=ae (HC.out.trans hc2 fun k o hk hs=>Or.inr (by have:=HBd.out;omega))
    clear hown hch hlt HL2 hc2 HLc
    refine hK.out _ _ (trivial) (fun aa=>?_)
    clear hK K
    try go_frame
    refine tkq 12 34 aa ?_
    try go_frame
    refine tkq 13 35 aa ?_
    try go_frame
    refine rdn 14 fun K hK=>?_
    go_simp
    refine hK.out _ _ (trivial) (fun aa=>?_)
    clear hK K
    try go_frame
    clear c6 f6
    refine wpAnyH_done (by kernel_rfl) ?_ _
    clear aa
    go_wp2
    go_roundw
    case rel=>exact⟨i+1,_,_,by omega,by go_num,by rw[HQ.out.1,HQ.out.2];exact HL,HC,HW2⟩
    case measure=>simp [RowKit.intOf];omega
   refine AllReadyH.cons (o:=⟨some 29,_,_,_,_,_⟩) rfl (fun K hK=>?_) ?_
   ·skip
    have hmk:=HMk.out wrd
    go_simp
    clear hmk
    have hb:Below wrd.heap.size wrd (wrd.alloc (.cells z.toArray 5)):=Joins.below_alloc1 _ _
    obtain ⟨gm,Hgm⟩:∃ g,Hid (g=wrd.heap.size):=⟨_,rfl⟩
    have HA:Hid (Arg (wrd.alloc (.cells z.toArray 5)) (.slice (some ⟨wrd.heap.size,0,none⟩) 64 64) Bk.z64):=HZa.out wrd
    replace HL:=ae (HL.out.stay hb)
    replace HC:=ae (HC.out.then (Chg.below hb _))
    refine hK.out _ _ (trivial) (fun aa=>?_)
    clear hK K
    try go_frame
    clear hb
    generalize (wrd.alloc (.cells z.toArray 5))=uX at *
    rw[← Hgm.out] at HA ⊢
    clear Hgm
    try go_frame
    refine wpAnyH_ready (rs:=[4,8]) (by kernel_rfl) (by simp) ?_
    refine AllReadyH.cons (o:=⟨some 26,_,_,_,_,_⟩) rfl (fun K hK=>?_) ?_
    ·skip
     have cL:=HL.out.cell (o:=6) rfl
     go_simp
     refine hK.out _ _ (trivial) (fun aa=>?_)
     clear hK K
     try go_frame
     clear cL
     refine rdq 8 30 fun K hK=>?_
     have hcv:=bS HA.out
     rw[Hsz.out] at hcv
     go_simp
     refine hK.out _ _ (trivial) (fun aa=>?_)
     clear hK K
     try go_frame
     clear hcv HA
     refine rdq 9 31 fun K hK=>?_
     go_simp
     go_at_call 44
     refine(zn.out uX HL.out).mono ?_
     rintro e aD ⟨rfl,hL,hc⟩
     replace HL:=ae hL
     replace HC:=ae (HC.out.trans hc fun k o hk hs=>hs.elim .inl fun e=>.inr (by have:=Hwb.out;omega))
     clear hL hc
     refine hK.out _ _ (trivial) (fun aa=>?_)
     clear hK K
     try go_frame
     refine rdq 10 32 fun K hK=>?_
     go_simp
     have hb:Below aD.heap.size aD (aD.alloc (.cells #[.string st] 9)):=Joins.below_alloc1 _ _
     obtain ⟨gl,Hgl⟩:∃ g,Hid (g=aD.heap.size):=⟨_,rfl⟩
     have HLc:Hid ((aD.alloc (.cells #[.string st] 9)).cell? ⟨aD.heap.size,0,none⟩=some (.string st)):=(Row.new aD 9 [.string st]).cell 0
     replace HL:=ae (HL.out.stay hb)
     replace HC:=ae (HC.out.then (Chg.below hb _))
     refine hK.out _ _ (trivial) (fun aa=>?_)
     clear hK K
     try go_frame
     clear hb
     generalize (aD.alloc (.cells #[.string st] 9))=kR at *
     rw[← Hgl.out] at HLc ⊢
     clear Hgl
     try go_frame
     refine rdq 11 33 fun K hK=>?_
     have hlt:=HL.out.lt.2.2.1
     refine dm rfl (.tmp 26) (.tmp 32) 58 rfl B 9 Tryz.underlying58 aQ rfl (by decide) tv (tgs.map VS) rfl HL.out.tags gl 0 1 (.string st) rfl HLc.out rfl HLn.out hlt ?_
     intro v' iV hown _ _ hch
     obtain ⟨Av,nv,kv,rfl⟩:=ay hown
     rw[← VSt.out] at hown
     obtain ⟨HL2,c6,f6,hc2⟩:=HL.out.app hown hch
     replace HL:=ae HL2
     replace HC:=ae (HC.out.trans hc2 fun k o hk hs=>Or.inr (by have:=HBd.out;omega))
     clear hown hch hlt HL2 hc2 HLc
     refine hK.out _ _ (trivial) (fun aa=>?_)
     clear hK K
     try go_frame
     refine tkq 12 34 aa ?_
     try go_frame
     refine tkq 13 35 aa ?_
     try go_frame
     refine rdn 14 fun K hK=>?_
     go_simp
     refine hK.out _ _ (trivial) (fun aa=>?_)
     clear hK K
     try go_frame
     clear c6 f6
     refine wpAnyH_done (by kernel_rfl) ?_ _
     clear aa
     go_wp2
     go_roundw
     case rel=>exact⟨i+1,_,_,by omega,by go_num,by rw[HQ.out.1,HQ.out.2];exact HL,HC,HW2⟩
     case measure=>simp [RowKit.intOf];omega
    refine AllReadyH.cons (o:=⟨some 30,_,_,_,_,_⟩) rfl (fun K hK=>?_) ?_
    ·skip
     have hcv:=bS HA.out
     rw[Hsz.out] at hcv
     go_simp
     refine hK.out _ _ (trivial) (fun aa=>?_)
     clear hK K
     try go_frame
     clear hcv HA
     refine wpAnyH_ready (rs:=[4,9]) (by kernel_rfl) (by simp) ?_
     refine AllReadyH.cons (o:=⟨some 26,_,_,_,_,_⟩) rfl (fun K hK=>?_) ?_
     ·skip
      have cL:=HL.out.cell (o:=6) rfl
      go_simp
      refine hK.out _ _ (trivial) (fun aa=>?_)
      clear hK K
      try go_frame
      clear cL
      refine rdq 9 31 fun K hK=>?_
      go_simp
      go_at_call 44
      refine(zn.out uX HL.out).mono ?_
      rintro e aD ⟨rfl,hL,hc⟩
      replace HL:=ae hL
      replace HC:=ae (HC.out.trans hc fun k o hk hs=>hs.elim .inl fun e=>.inr (by have:=Hwb.out;omega))
      clear hL hc
      refine hK.out _ _ (trivial) (fun aa=>?_)
      clear hK K
      try go_frame
      refine rdq 10 32 fun K hK=>?_
      go_simp
      have hb:Below aD.heap.size aD (aD.alloc (.cells #[.string st] 9)):=Joins.below_alloc1 _ _
      obtain ⟨gl,Hgl⟩:∃ g,Hid (g=aD.heap.size):=⟨_,rfl⟩
      have HLc:Hid ((aD.alloc (.cells #[.string st] 9)).cell? ⟨aD.heap.size,0,none⟩=some (.string st)):=(Row.new aD 9 [.string st]).cell 0
      replace HL:=ae (HL.out.stay hb)
      replace HC:=ae (HC.out.then (Chg.below hb _))
      refine hK.out _ _ (trivial) (fun aa=>?_)
      clear hK K
      try go_frame
      clear hb
      generalize (aD.alloc (.cells #[.string st] 9))=kR at *
      rw[← Hgl.out] at HLc ⊢
      clear Hgl
      try go_frame
      refine rdq 11 33 fun K hK=>?_
      have hlt:=HL.out.lt.2.2.1
      refine dm rfl (.tmp 26) (.tmp 32) 58 rfl B 9 Tryz.underlying58 aQ rfl (by decide) tv (tgs.map VS) rfl HL.out.tags gl 0 1 (.string st) rfl HLc.out rfl HLn.out hlt ?_
      intro v' iV hown _ _ hch
      obtain ⟨Av,nv,kv,rfl⟩:=ay hown
      rw[← VSt.out] at hown
      obtain ⟨HL2,c6,f6,hc2⟩:=HL.out.app hown hch
      replace HL:=ae HL2
      replace HC:=ae (HC.out.trans hc2 fun k o hk hs=>Or.inr (by have:=HBd.out;omega))
      clear hown hch hlt HL2 hc2 HLc
      refine hK.out _ _ (trivial) (fun aa=>?_)
      clear hK K
      try go_frame
      refine tkq 12 34 aa ?_
      try go_frame
      refine tkq 13 35 aa ?_
      try go_frame
      refine rdn 14 fun K hK=>?_
      go_simp
      refine hK.out _ _ (trivial) (fun aa=>?_)
      clear hK K
      try go_frame
      clear c6 f6
      refine wpAnyH_done (by kernel_rfl) ?_ _
      clear aa
      go_wp2
      go_roundw
      case rel=>exact⟨i+1,_,_,by omega,by go_num,by rw[HQ.out.1,HQ.out.2];exact HL,HC,HW2⟩
      case measure=>simp [RowKit.intOf];omega
     refine AllReadyH.cons (o:=⟨some 31,_,_,_,_,_⟩) rfl (fun K hK=>?_) ?_
     ·skip
      go_simp
      go_at_call 44
      refine(zn.out uX HL.out).mono ?_
      rintro e aD ⟨rfl,hL,hc⟩
      replace HL:=ae hL
      replace HC:=ae (HC.out.trans hc fun k o hk hs=>hs.elim .inl fun e=>.inr (by have:=Hwb.out;omega))
      clear hL hc
      refine hK.out _ _ (trivial) (fun aa=>?_)
      clear hK K
      try go_frame
      refine wpAnyH_ready (rs:=[4,10]) (by kernel_rfl) (by simp) ?_
      refine AllReadyH.cons (o:=⟨some 26,_,_,_,_,_⟩) rfl (fun K hK=>?_) ?_
      ·skip
       have cL:=HL.out.cell (o:=6) rfl
       go_simp
       refine hK.out _ _ (trivial) (fun aa=>?_)
       clear hK K
       try go_frame
       clear cL
       refine rdq 10 32 fun K hK=>?_
       go_simp
       have hb:Below aD.heap.size aD (aD.alloc (.cells #[.string st] 9)):=Joins.below_alloc1 _ _
       obtain ⟨gl,Hgl⟩:∃ g,Hid (g=aD.heap.size):=⟨_,rfl⟩
       have HLc:Hid ((aD.alloc (.cells #[.string st] 9)).cell? ⟨aD.heap.size,0,none⟩=some (.string st)):=(Row.new aD 9 [.string st]).cell 0
       replace HL:=ae (HL.out.stay hb)
       replace HC:=ae (HC.out.then (Chg.below hb _))
       refine hK.out _ _ (trivial) (fun aa=>?_)
       clear hK K
       try go_frame
       clear hb
       generalize (aD.alloc (.cells #[.string st] 9))=kR at *
       rw[← Hgl.out] at HLc ⊢
       clear Hgl
       try go_frame
       refine rdq 11 33 fun K hK=>?_
       have hlt:=HL.out.lt.2.2.1
       refine dm rfl (.tmp 26) (.tmp 32) 58 rfl B 9 Tryz.underlying58 aQ rfl (by decide) tv (tgs.map VS) rfl HL.out.tags gl 0 1 (.string st) rfl HLc.out rfl HLn.out hlt ?_
       intro v' iV hown _ _ hch
       obtain ⟨Av,nv,kv,rfl⟩:=ay hown
       rw[← VSt.out] at hown
       obtain ⟨HL2,c6,f6,hc2⟩:=HL.out.app hown hch
       replace HL:=ae HL2
       replace HC:=ae (HC.out.trans hc2 fun k o hk hs=>Or.inr (by have:=HBd.out;omega))
       clear hown hch hlt HL2 hc2 HLc
       refine hK.out _ _ (trivial) (fun aa=>?_)
       clear hK K
       try go_frame
       refine tkq 12 34 aa ?_
       try go_frame
       refine tkq 13 35 aa ?_
       try go_frame
       refine rdn 14 fun K hK=>?_
       go_simp
       refine hK.out _ _ (trivial) (fun aa=>?_)
       clear hK K
       try go_frame
       clear c6 f6
       refine wpAnyH_done (by kernel_rfl) ?_ _
       clear aa
       go_wp2
       go_roundw
       case rel=>exact⟨i+1,_,_,by omega,by go_num,by rw[HQ.out.1,HQ.out.2];exact HL,HC,HW2⟩
       case measure=>simp [RowKit.intOf];omega
      refine AllReadyH.cons (o:=⟨some 32,_,_,_,_,_⟩) rfl (fun K hK=>?_) ?_
      ·skip
       go_simp
       have hb:Below aD.heap.size aD (aD.alloc (.cells #[.string st] 9)):=Joins.below_alloc1 _ _
       obtain ⟨gl,Hgl⟩:∃ g,Hid (g=aD.heap.size):=⟨_,rfl⟩
       have HLc:Hid ((aD.alloc (.cells #[.string st] 9)).cell? ⟨aD.heap.size,0,none⟩=some (.string st)):=(Row.new aD 9 [.string st]).cell 0
       replace HL:=ae (HL.out.stay hb)
       replace HC:=ae (HC.out.then (Chg.below hb _))
       refine hK.out _ _ (trivial) (fun aa=>?_)
       clear hK K
       try go_frame
       clear hb
       generalize (aD.alloc (.cells #[.string st] 9))=kR at *
       rw[← Hgl.out] at HLc ⊢
       clear Hgl
       try go_frame
       refine rdq 4 26 fun K hK=>?_
       have cL:=HL.out.cell (o:=6) rfl
       go_simp
       refine hK.out _ _ (trivial) (fun aa=>?_)
       clear hK K
       try go_frame
       clear cL
       refine rdq 11 33 fun K hK=>?_
       have hlt:=HL.out.lt.2.2.1
       refine dm rfl (.tmp 26) (.tmp 32) 58 rfl B 9 Tryz.underlying58 aQ rfl (by decide) tv (tgs.map VS) rfl HL.out.tags gl 0 1 (.string st) rfl HLc.out rfl HLn.out hlt ?_
       intro v' iV hown _ _ hch
       obtain ⟨Av,nv,kv,rfl⟩:=ay hown
       rw[← VSt.out] at hown
       obtain ⟨HL2,c6,f6,hc2⟩:=HL.out.app hown hch
       replace HL:=ae HL2
       replace HC:=ae (HC.out.trans hc2 fun k o hk hs=>Or.inr (by have:=HBd.out;omega))
       clear hown hch hlt HL2 hc2 HLc
       refine hK.out _ _ (trivial) (fun aa=>?_)
       clear hK K
       try go_frame
       refine tkq 12 34 aa ?_
       try go_frame
       refine tkq 13 35 aa ?_
       try go_frame
       refine rdn 14 fun K hK=>?_
       go_simp
       refine hK.out _ _ (trivial) (fun aa=>?_)
       clear hK K
       try go_frame
       clear c6 f6
       refine wpAnyH_done (by kernel_rfl) ?_ _
       clear aa
       go_wp2
       go_roundw
       case rel=>exact⟨i+1,_,_,by omega,by go_num,by rw[HQ.out.1,HQ.out.2];exact HL,HC,HW2⟩
       case measure=>simp [RowKit.intOf];omega
      exact AllReadyH.nil
     exact AllReadyH.nil
    exact AllReadyH.nil
   exact AllReadyH.nil
  ·obtain rfl:i=n:=by omega
   have HD1:Hid (bL wr G M (Bk.bw ek mk i 0 1 (fun _=>Bk.z64) i D).1):=HL.out.ref
   have HCr:=ae (kN HD1.out true none 0 0 [] rfl (Or.inl ⟨none,rfl,rfl⟩) (fun _ _ h _=>by cases h))
   clear HMk HZa Hsz
   go_wp2_with fail
   refine HCr.out.mono ?_
   rintro e w3 ⟨rfl,hR3⟩
   have HL3:=HL.out.tO hR3
   have HC3:Hid (Chg (fun k _=>G k∨w.heap.size≤k) w w3):=HC.out.then (hR3.2.mono fun k _ _ hk=>Or.inl hk)
   have h32:∀ t∈(Bk.bw ek mk i 0 1 (fun _=>Bk.z64) i D).2,t.length=32:=Bk.mA i
   obtain ⟨pm,hkp,hrt⟩:=HL3.Je h32 (by rw[(Bk.cC i).2];exact mI)
   replace HL:=ae HL3
   have HKp:=ae hkp
   have HFm:Hid (Bk.format ek mk i D=(⟨i,1,0,Bk.b7 mk (Bk.bw ek mk i 0 1 (fun _=>Bk.z64) i D).2,(Bk.bw ek mk i 0 1 (fun _=>Bk.z64) i D).2,[],0,[]⟩,cV (fun _=>true) (Bk.bw ek mk i 0 1 (fun _=>Bk.z64) i D).1)):=rfl
   clear HCr HD1 hR3 HL3 hkp h32 HC
   generalize (Bk.bw ek mk i 0 1 (fun _=>Bk.z64) i D).2=tgs at *
   generalize (Bk.bw ek mk i 0 1 (fun _=>Bk.z64) i D).1=D1 at *
   obtain ⟨rt,vU⟩:∃ r,r=Bk.b7 mk tgs:=⟨_,rfl⟩
   rw[← vU] at hrt HFm
   obtain ⟨srt,ua⟩:∃ s,s=aw rt:=⟨_,rfl⟩
   have xe:Hid (VS rt=.string srt):=by show VS rt=_;rw[VS,← ua]
   rw[xe.out] at hrt
   have HRt:=ae hrt
   clear hrt vU ua
   go_wp2_with fail
   have hC:Chg (fun k _=>k=P) w3 w3.drew:=(Chg.refl _ _).drew
   replace HL:=ae HL.out.drew
   refine wp_region_held_drew (S:=(fun X=>X.cell? ⟨kp,3,none⟩=some (.pointer (some ⟨pm,0,none⟩))∧X.cell? ⟨P,6,none⟩=some tv)) (by kernel_rfl) ⟨HKp.out _ hC,HL.out.cell (o:=6) rfl⟩ (fun aa=>?_)
   generalize w3.drew=w3d at *
   refine tkq 0 38 aa ?_
   try go_frame
   refine tkq 1 39 aa ?_
   try go_frame
   refine tkq 2 40 aa ?_
   try go_frame
   refine tkq 3 41 aa ?_
   try go_frame
   refine tkh 4 42 rfl aa ?_ (Or.inl ⟨by rfl,by intro w hSw;have hc:=hSw.1;go_simp;with_reducible rfl⟩)
   try go_frame
   refine tkq 5 43 aa ?_
   try go_frame
   refine tkq 6 44 aa ?_
   try go_frame
   refine tkq 7 45 aa ?_
   try go_frame
   refine tkh 8 46 rfl aa ?_ (Or.inl ⟨by rfl,by intro w hSw;have hc:=hSw.2;go_simp;with_reducible rfl⟩)
   try go_frame
   refine rdq 9 47 fun K hK=>?_
   go_simp
   go_at_call 46
   refine(HRt.out w3d hC HL.out.tags).mono ?_
   rintro e Rf ⟨rfl,hb⟩
   replace HL:=ae (HL.out.stay hb)
   replace hC:=hC.then (Chg.below hb _)
   clear hb
   refine hK.out _ _ (⟨HKp.out _ hC,HL.out.cell (o:=6) rfl⟩) (fun aa=>?_)
   clear hK K
   try go_frame
   refine tkq 10 48 aa ?_
   try go_frame
   refine tkq 11 49 aa ?_
   try go_frame
   refine rdn 12 fun K hK=>?_
   have c5:=HL.out.cell (o:=5) rfl
   have f5:=HL.out.free 5 (by omega)
   have hC5:=hC.then (HL.out.fJ 5 (by omega) (.string srt))
   have HLp:=HL.out.put (o:=5) (v:=.string srt) (ep':=1) (root':=rt) (tv':=tv) (al':=false) (by omega) (by rw[← xe.out];rfl) HL.out.tags
   replace HL:=ae HLp
   clear HLp
   go_simp
   refine hK.out _ _ (⟨HKp.out _ hC5,HL.out.cell (o:=6) rfl⟩) (fun aa=>?_)
   clear hK K
   try go_frame
   clear c5 f5
   refine wpAnyH_done (by kernel_rfl) ?_ _
   clear aa
   go_wp2
   go_ret
   rw[HFm.out]
   exact⟨P,wb,ws,_,rfl,HL.out.rb HEk.out HW.out mI (by omega),fun k hk=>by have:=HBd.out;have:=Hwb.out;omega,(HC3.out.trans hC5 fun k o hk e=>Or.inr (by have:=HBd.out;omega)).mono fun k o hk hs=>hs.elim id fun h=>absurd h (by omega)⟩
end Go.Proofs.YthbmknpbcgnabaaGreatDoor
