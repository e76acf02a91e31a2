/- Of the walk. -/
import Derived.Test.YthbmknpbcgnabaaGreatDoorB14
import Derived.Test.YthbmknpbcgnabaaGreatDoorB16
set_option maxHeartbeats 40000000
namespace Go.Proofs.YthbmknpbcgnabaaGreatDoor
open Go.RowKit Aes
theorem qW (B vb vc ub uc r:Nat) (hr:r≤10) (b:List UInt8) (hbl:b.length=16) (ws:List (List UInt8)) (hwl:ws.length=44) (hw4:∀ x∈ws,x.length=4) (vs:List Value) (w:World) (i:Int) (hi:i=(r:Int)) (hB:B≤w.heap.size)
  (hvl:vb<w.heap.size) (hv:ah w vb 0 (b.map V8)) (hul:ub<w.heap.size) (hus:ah w ub 0 vs) (lu:iQ w vs ws) :
  Calls Tryz.prog 163 #[.slice (some ⟨vb,0,none⟩) 16 vc,.slice (some ⟨ub,0,none⟩) 44 uc,.int .i64 i] w fun e w'=>∃ g cap,e=.returned (.slice (some ⟨g,0,none⟩) 16 cap)∧16≤cap∧B≤g∧g<w'.heap.size∧Hid (ah w' g 0 ((a8 b ((ws.flatten.drop (16*r)).take 16)).map V8))∧Below w.heap.size w w':=by
 subst hi
 refine(CS vb 0 vc ub 0 uc r hr b hbl ws hwl hw4 vs w hvl hv hul hus lu).mono fun e w' ⟨v,he,ho,hb⟩=>?_
 have hl:((a8 b ((ws.flatten.drop (16*r)).take 16)).map V8).length=16:=by
  rw[List.length_map]
  exact dS _ _ 16 hbl (by rw[List.length_take,List.length_drop,eE ws hw4,hwl];omega)
 obtain ⟨g,cap,rfl,h1,h2,hcap,h3⟩:=ho.out.cM (by rw[hl];omega)
 rw[hl] at he hcap
 exact⟨g,cap,he,hcap,by omega,h2,h3,hb⟩
theorem iQ.Fp {w w':World} {vs:List Value} {ps:List (List UInt8)} (h:iQ w vs ps) (hb:Below w.heap.size w w'):iQ w' vs ps:=h.below hb
theorem Kh (W:World):(Instr.makeSlice 22 (.int .i64 16) (.int .i64 16)).run Tryz.prog W=.ok (.slice (some ⟨W.heap.size,0,none⟩) 16 16) (W.alloc (.cells Z16.toArray 5)):=by
 have h:=run_make_row' (P:=Tryz.prog) 22 5 (.int .u8 0) 1 Tryz.underlying22 bK rfl .i64 .i64 16 (by decide) (by decide) W
 rw[show madeCells #[Value.int .u8 0] 16=Z16.toArray from by kernel_rfl] at h
 exact h
theorem Mm (b:List UInt8) (hb:b.length=16) (c n:Nat) (hc:c<4) (hn:n<4):(shR (fR b)).getD (4*c+n) 0=sb (b.getD (4*((c+n) % 4)+n) 0):=by
 rw[Dz _ _ (by omega),show pK (4*c+n)=4*((c+n) % 4)+n by unfold pK;omega,tu b _ (by omega)]
theorem Kg (s:List UInt8) (c n:Nat) (hc:c<4) (hn:n<4):(fV s).getD (4*c+n) 0=dbl (s.getD (4*c+n) 0) ^^^ tpl (s.getD (4*c+(n+1) % 4) 0) ^^^ s.getD (4*c+(n+2) % 4) 0 ^^^ s.getD (4*c+(n+3) % 4) 0:=by
 rw[mD s _ (by omega),z6,show 4*((4*c+n) / 4)=4*c by omega,show (4*c+n+1) % 4=(n+1) % 4 by omega,show (4*c+n+2) % 4=(n+2) % 4 by omega,show (4*c+n+3) % 4=(n+3) % 4 by omega]
def Kf (x:UInt8) (k:Int):UInt8:=if k=2 then dbl x else tpl x
theorem Em (x:UInt8):Kf x 2=dbl x:=rfl
theorem yj (x:UInt8):Kf x 3=tpl x:=rfl
theorem CG (x:UInt8) (k:Int) (h:k=2∨k=3) (w:World):Calls Tryz.prog 139 #[.int .u8 x.toNat,.int .u8 k] w fun e w'=>e=.returned (.int .u8 (Kf x k).toNat)∧w'=w:=by
 rcases h with rfl | rfl
 ·exact(AL x w).mono fun _ _ h=>⟨h.1,h.2.symm⟩
 ·exact(CE x w).mono fun _ _ h=>⟨h.1,h.2.symm⟩
theorem Lf (c n:Nat) (hc:c<4) (hn:n<4):∃ a:Nat,IntKind.i64.wrap (4*(c:Int))=(a:Int)∧∃ q0:Nat,IntKind.i64.wrap ((a:Int)+(n:Int))=(q0:Int) ∧
  ∃ n1:Nat,IntKind.i64.wrap ((n:Int)+1)=(n1:Int)∧∃ n2:Nat,IntKind.i64.wrap ((n:Int)+2)=(n2:Int)∧∃ n3:Nat,IntKind.i64.wrap ((n:Int)+3)=(n3:Int) ∧
  ∃ m1:Nat,(n1:Int).tmod 4=(m1:Int)∧∃ m2:Nat,(n2:Int).tmod 4=(m2:Int)∧∃ m3:Nat,(n3:Int).tmod 4=(m3:Int) ∧
  ∃ q1:Nat,IntKind.i64.wrap ((a:Int)+(m1:Int))=(q1:Int)∧∃ q2:Nat,IntKind.i64.wrap ((a:Int)+(m2:Int))=(q2:Int)∧∃ q3:Nat,IntKind.i64.wrap ((a:Int)+(m3:Int))=(q3:Int) ∧
  q0=4*c+n∧q1=4*c+(n+1) % 4∧q2=4*c+(n+2) % 4∧q3=4*c+(n+3) % 4:=by
 refine⟨4*c,by rw[IntWalk.i64_in _ (by omega)];omega,4*c+n,by rw[IntWalk.i64_in _ (by omega)];omega,n+1,by rw[IntWalk.i64_in _ (by omega)];omega,n+2,by rw[IntWalk.i64_in _ (by omega)];omega,n+3,by rw[IntWalk.i64_in _ (by omega)];omega,
  (n+1) % 4,by rw[Int.tmod_eq_emod_of_nonneg (by omega)];omega,(n+2) % 4,by rw[Int.tmod_eq_emod_of_nonneg (by omega)];omega,(n+3) % 4,by rw[Int.tmod_eq_emod_of_nonneg (by omega)];omega,
  4*c+(n+1) % 4,by rw[IntWalk.i64_in _ (by omega)];omega,4*c+(n+2) % 4,by rw[IntWalk.i64_in _ (by omega)];omega,4*c+(n+3) % 4,by rw[IntWalk.i64_in _ (by omega)];omega,rfl,rfl,rfl,rfl⟩
set_option maxRecDepth 100000
theorem yN (ub uc bb bc xb xc:Nat) (key b:List UInt8) (hk:key.length=16) (hbl:b.length=16) (vs:List Value) (w:World) (hul:ub<w.heap.size) (hus:ah w ub 0 vs) (lu:iQ w vs (wkK key 44))
  (hbb:bb<w.heap.size) (hb:ah w bb 0 (b.map V8)) (hxb:xb<w.heap.size) (hx:ah w xb 0 (SBL.map V8)) :
  Calls Tryz.prog 145 #[.slice (some ⟨ub,0,none⟩) 44 uc,.slice (some ⟨bb,0,none⟩) 16 bc,.slice (some ⟨xb,0,none⟩) 256 xc] w fun e w'=>∃ v,e=.returned v∧Hid (Arg w' v (enc key b))∧Below w.heap.size w w':=by
 have HKL:=ae hk
 have HBl:=ae hbl
 have HU:=ae hus
 have HVa:=ae lu
 have HX:=ae hx
 have HB:=ae hb
 clear hk hbl hus lu hx hb
 go_enter Tryz.func145,Tryz.ntmps145
 go_wp2_with fail
 refine(qW w.heap.size bb bc ub uc 0 (by omega) b HBl.out (wkK key 44) (dA _ _) (l8 key HKL.out 44) vs w 0 rfl (Nat.le_refl _) hbb HB.out hul HU.out HVa.out).mono ?_
 rintro e w1 ⟨g1,QH,rfl,NV,hg1,Ig,Hs1,hb1⟩
 have Hst:Hid (ah w1 g1 0 ((stK key b 0).map V8)):=Hs1
 clear Hs1 HB
 go_wp2
 go_loopw [7,8,9,10,11,12,13] (fun v i _ _ _ _ _ wr=>∃ (r g cap:Nat),r≤10∧i=.int .i64 ((r:Int)+1)∧v=.slice (some ⟨g,0,none⟩) 16 cap∧16≤cap∧w.heap.size≤g∧g<wr.heap.size∧Hid (ah wr g 0 ((stK key b r).map V8))∧Below w.heap.size w wr) (fun _ i _ _ _ _ _ _=>11 - (intOf i).toNat)
 case atStart=>exact⟨0,g1,QH,by omega,rfl,rfl,NV,hg1,Ig,Hst,hb1⟩
 case round =>
  clear Hst Ig hg1 hb1 NV
  obtain ⟨r,g,cap,hr,rfl,rfl,hcap,hg,hgl,Hst,ak⟩:=hrel
  revert hgl Hst ak
  generalize wr=w0
  intro hgl Hst ak
  rcases Nat.lt_or_ge r 10 with hlt | hge
  ·have hmk:=Kh
   obtain ⟨sB,hsB⟩:∃ sB,sB=stK key b r:=⟨_,rfl⟩
   have HsB:=ae hsB
   have Hsl:Hid (sB.length=16):=by rw[hsB];exact rS key b HKL.out HBl.out r (by omega)
   rw[← hsB] at Hst
   clear hsB
   have Hl1:Hid ((List.replicate 16 (0:UInt8)).length=(shR (fR sB)).length):=by show _=_;rw[iG,List.length_replicate]
   have Hl2:Hid ((shR (fR sB)).length=16):=iG _
   go_wp2
   obtain ⟨G,hG⟩:∃ G,G=w0.heap.size:=⟨_,rfl⟩
   have mG:Row (w0.alloc (.cells Z16.toArray 5)) G 5 ((upd (shR (fR sB)) (List.replicate 16 0) 0).map V8):=by rw[fC,← qD];exact Row.newAt _ Z16 hG.symm
   have hbA:Below w0.heap.size w0 (w0.alloc (.cells Z16.toArray 5)):=(Below.refl _ _).alloc (Nat.le_refl _) _
   have hGg:w0.heap.size≤G:=by omega
   rw[← hG]
   clear hG
   have hw0:=ak.size
   go_loopw [10,11] (fun ci _ W=>∃ c:Nat,c≤4∧ci=.int .i64 c∧Row W G 5 ((upd (shR (fR sB)) (List.replicate 16 0) (4*c)).map V8)∧Below w0.heap.size w0 W) (fun ci _ _=>4 - (intOf ci).toNat)
   case atStart=>exact⟨0,by omega,rfl,mG,hbA⟩
   case round =>
    clear mG hbA
    obtain ⟨c,hc,rfl,jt,hbc⟩:=hrel
    by_cases hc4:c<4
    ·clear hmk
     go_wp2
     go_loopw [11] (fun ni W=>∃ n:Nat,n≤4∧ni=.int .i64 n∧Row W G 5 ((upd (shR (fR sB)) (List.replicate 16 0) (4*c+n)).map V8)∧Below w0.heap.size w0 W) (fun ni _=>4 - (intOf ni).toNat)
     case atStart=>exact⟨0,by omega,rfl,jt,hbc⟩
     case round =>
      clear jt hbc
      obtain ⟨n,hn,rfl,j6,hbn⟩:=hrel
      by_cases hn4:n<4
      ·have HN:=ae (Mm sB Hsl.out c n hc4 hn4)
       have c1:wr.cell? ⟨g,4*((c+n) % 4)+n,none⟩=some (.int .u8 (sB.getD (4*((c+n) % 4)+n) 0).toNat):=by
        have:=at8 (Hst.out.below hbn hgl) (4*((c+n) % 4)+n) (by rw[Hsl.out];omega)
        rwa [Nat.zero_add] at this
       generalize sB.getD (4*((c+n) % 4)+n) 0=x at *
       have c2:wr.cell? ⟨xb,x.toNat,none⟩=some (.int .u8 (sb x).toNat):=by
        have:=at8 (HX.out.below (ak.trans (hbn.mono hw0)) hxb) x.toNat (by rw[eF];exact lt8 x)
        rwa [Nat.zero_add,uF] at this
       have hx:=lt8 x
       have c3:wr.cell? ⟨G,4*c+n,none⟩=some (.int .u8 ((List.replicate 16 (0:UInt8)).getD (4*c+n) 0).toNat):=dJ j6 Hl1.out (4*c+n) (Nat.le_refl _) (by rw[Hl2.out];omega)
       have f3:wr.frozen? ⟨G,4*c+n,none⟩=false:=j6.free _
       generalize ((List.replicate 16 (0:UInt8)).getD (4*c+n) 0).toNat=z at *
       have FW:=ae j6
       clear j6
       go_wp2
       go_roundw
       case rel=>exact⟨n+1,by omega,by go_num,eY FW.out Hl1.out (by rw[Hl2.out];omega) (by rw[HN.out]),hbn.setCell hGg _⟩
       case measure=>simp [intOf];omega
      ·obtain rfl:n=4:=by omega
       rw[show ((4:Nat):Int)=4 from rfl]
       go_wp2
       go_roundw
       case rel=>exact⟨c+1,by omega,by go_num,j6,hbn⟩
       case measure=>simp [intOf];omega
    ·obtain rfl:c=4:=by omega
     rw[show ((4:Nat):Int)=4 from rfl]
     have jg:upd (shR (fR sB)) (List.replicate 16 0) (4*4)=shR (fR sB):=l9 Hl2.out List.length_replicate
     rw[jg] at jt
     clear jg
     have hbX:=hbc
     have hGl:=jt.lt
     have HSG:=ae jt.sees
     clear jt hbc
     rcases Nat.lt_or_ge r 9 with h9 | h9
     ·revert hbX hGl HSG
      generalize wr=w5
      intro hbX hGl HSG
      obtain ⟨sS,hsS⟩:∃ sS,sS=shR (fR sB):=⟨_,rfl⟩
      have HsS:=ae hsS
      have HSl:Hid (sS.length=16):=by rw[hsS];exact Hl2.out
      rw[← hsS] at HSG
      clear hsS
      have Hm1:Hid ((List.replicate 16 (0:UInt8)).length=(fV sS).length):=by show _=_;rw[fp,List.length_replicate]
      have Hm2:Hid ((fV sS).length=16):=fp _
      go_wp2
      obtain ⟨H,hH⟩:∃ H,H=w5.heap.size:=⟨_,rfl⟩
      have mG:Row (w5.alloc (.cells Z16.toArray 5)) H 5 ((upd (fV sS) (List.replicate 16 0) 0).map V8):=by rw[fC,← qD];exact Row.newAt _ Z16 hH.symm
      have hbA:Below w5.heap.size w5 (w5.alloc (.cells Z16.toArray 5)):=(Below.refl _ _).alloc (Nat.le_refl _) _
      have hHg:w5.heap.size≤H:=by omega
      rw[← hH]
      clear hH hmk
      have hd1:decide ((r:Int)+1≤10)=true:=by simp;omega
      have hd2:decide ((r:Int)+1<10)=true:=by simp;omega
      try simp only [hd1,hd2]
      clear hd1 hd2
      go_loopw [12,13] (fun ci _ W=>∃ c:Nat,c≤4∧ci=.int .i64 c∧Row W H 5 ((upd (fV sS) (List.replicate 16 0) (4*c)).map V8)∧Below w5.heap.size w5 W) (fun ci _ _=>4 - (intOf ci).toNat)
      case atStart=>exact⟨0,by omega,rfl,mG,hbA⟩
      case round =>
       clear mG hbA
       obtain ⟨c,hc,rfl,jt,hbc⟩:=hrel
       by_cases hc4:c<4
       ·go_wp2
        have hd3:decide ((c:Int)<4)=true:=by simp;omega
        simp only [hd3]
        clear hd3
        go_loopw [13] (fun ni W=>∃ n:Nat,n≤4∧ni=.int .i64 n∧Row W H 5 ((upd (fV sS) (List.replicate 16 0) (4*c+n)).map V8)∧Below w5.heap.size w5 W) (fun ni _=>4 - (intOf ni).toNat)
        case atStart=>exact⟨0,by omega,rfl,jt,hbc⟩
        case round =>
         clear jt hbc
         obtain ⟨n,hn,rfl,j6,hbn⟩:=hrel
         by_cases hn4:n<4
         ·have HN:=ae (Kg sS c n hc4 hn4)
          obtain ⟨a,ea,q0,e0,n1,f1,n2,f2,n3,f3,m1,d1,m2,d2,m3,d3,q1,e1,q2,e2,q3,e3,h0,h1,h2,h3⟩:=Lf c n hc4 hn4
          have hcell:∀ q,q<16→wr.cell? ⟨G,q,none⟩=some (.int .u8 (sS.getD q 0).toNat):=fun q hq=>by
           have:=at8 (HSG.out.below hbn hGl) q (by rw[HSl.out];exact hq)
           rwa [Nat.zero_add] at this
          have c0:=hcell q0 (by omega)
          have c1:=hcell q1 (by omega)
          have c2:=hcell q2 (by omega)
          have c3:=hcell q3 (by omega)
          rw[← h0,← h1,← h2,← h3] at HN
          rw[← h0] at j6
          have ct:wr.cell? ⟨H,q0,none⟩=some (.int .u8 ((List.replicate 16 (0:UInt8)).getD q0 0).toNat):=dJ j6 Hm1.out q0 (Nat.le_refl _) (by rw[Hm2.out];omega)
          have ft:wr.frozen? ⟨H,q0,none⟩=false:=j6.free _
          generalize ((List.replicate 16 (0:UInt8)).getD q0 0).toNat=z at *
          generalize sS.getD q0 0=x0 at *
          generalize sS.getD q1 0=x1 at *
          generalize sS.getD q2 0=x2 at *
          generalize sS.getD q3 0=x3 at *
          have FW:=ae j6
          have Hq:=ae h0
          have hq0:(q0:Int)<16:=by omega
          have hq1:(q1:Int)<16:=by omega
          have hq2:(q2:Int)<16:=by omega
          have hq3:(q3:Int)<16:=by omega
          clear j6 hcell h0 h1 h2 h3
          go_wp2
          refine wp_region_still_tail 45 (by kernel_rfl) (by kernel_rfl) ?_
          simp only [List.take_succ_cons,List.take_zero,List.drop_succ_cons,List.drop_zero]
          repeat (first
           | still_step
           | (refine wpStill_step (fun K hK=>?_);go_simp;(with_reducible refine⟨_,CG _ _ (by decide) _,hK _ ?_⟩);clear hK K))
          refine wpStill_nil ?_
          clear ea e0 f1 f2 f3 d1 d2 d3 e1 e2 e3 c0 c1 c2 c3 hq1 hq2 hq3
          go_wp2
          go_roundw
          case rel =>
           refine⟨n+1,by omega,by go_num,?_,(below_drewN hbn 1).setCell hHg _⟩
           rw[show 4*c+(n+1)=q0+1 by have:=Hq.out;omega]
           exact eY FW.out.drew Hm1.out (by rw[Hm2.out];have:=Hq.out;omega) (by rw[HN.out,Em,yj,dV,dV,dV])
          case measure=>simp [intOf];omega
         ·obtain rfl:n=4:=by omega
          rw[show ((4:Nat):Int)=4 from rfl]
          go_wp2
          go_roundw
          case rel=>exact⟨c+1,by omega,by go_num,j6,hbn⟩
          case measure=>simp [intOf];omega
       ·obtain rfl:c=4:=by omega
        rw[show ((4:Nat):Int)=4 from rfl]
        have jg:upd (fV sS) (List.replicate 16 0) (4*4)=fV sS:=l9 Hm2.out List.length_replicate
        rw[jg] at jt
        clear jg
        have hHl:=jt.lt
        have HSH:=ae jt.sees
        clear jt
        have hbY:Below w0.heap.size w0 wr:=hbX.trans (hbc.mono hbX.size)
        clear hbX hbc
        go_wp2_with fail
        have hbw:=ak.trans (hbY.mono ak.size)
        refine(qW w.heap.size H 16 ub uc (r+1) (by omega) (fV sS) Hm2.out (wkK key 44) (dA _ _) (l8 key HKL.out 44) vs wr ((r:Int)+1) (by omega) hbw.size hHl HSH.out (Nat.lt_of_lt_of_le hul hbw.size) (HU.out.below hbw hul) (HVa.out.Fp hbw)).mono ?_
        rintro e w9 ⟨g9,Ll,rfl,KM,hg9,KI,Hs9,hb9⟩
        have LG:Hid (ah w9 g9 0 ((stK key b (r+1)).map V8)):=by
         rw[zH key b r h9,← HsB.out,← HsS.out];exact Hs9.out
        have hbz:=hbw.trans (hb9.mono hbw.size)
        clear Hs9
        go_wp2
        go_roundw
        case rel=>exact⟨r+1,g9,Ll,by omega,by go_num,rfl,KM,hg9,KI,LG,hbz⟩
        case measure=>simp [intOf];omega
     ·clear hmk
      go_wp2_with fail
      have hbw:=ak.trans (hbX.mono ak.size)
      refine(qW w.heap.size G 16 ub uc (r+1) (by omega) (shR (fR sB)) Hl2.out (wkK key 44) (dA _ _) (l8 key HKL.out 44) vs wr ((r:Int)+1) (by omega) hbw.size hGl HSG.out (Nat.lt_of_lt_of_le hul hbw.size) (HU.out.below hbw hul) (HVa.out.Fp hbw)).mono ?_
      rintro e w9 ⟨g9,Ll,rfl,KM,hg9,KI,Hs9,hb9⟩
      have LG:Hid (ah w9 g9 0 ((stK key b (r+1)).map V8)):=by
       rw[vw key b r (by omega),← HsB.out];exact Hs9.out
      have hbz:=hbw.trans (hb9.mono hbw.size)
      clear Hs9
      go_wp2
      go_roundw
      case rel=>exact⟨r+1,g9,Ll,by omega,by go_num,rfl,KM,hg9,KI,LG,hbz⟩
      case measure=>simp [intOf];omega
  ·have HE:Hid (stK key b r=enc key b):=zJ key b r (by omega)
   rw[HE.out] at Hst
   clear HE
   go_wp2
   go_ret
   exact⟨_,rfl,.inr ⟨g,0,cap,by rw[lU key b HKL.out HBl.out];rfl,hgl,by rw[lU key b HKL.out HBl.out];exact hcap,Hst.out⟩,ak⟩
end Go.Proofs.YthbmknpbcgnabaaGreatDoor
section
namespace Go.Proofs.YthbmknpbcgnabaaGreatDoor
open Go.RowKit Aes Ctr
def jC (k n:Nat):List UInt8:=big k n
theorem Cm (k n:Nat):jC (k+1) n=jC k (n / 256)++[UInt8.ofNat n]:=rfl
theorem fu (k n:Nat):(jC k n).length=k:=aU k n
set_option maxRecDepth 100000
theorem Gk (n:Nat) (w:World) :
  Calls Tryz.prog 95 #[.int .u64 n,.int .i64 0] w fun e w'=>∃ v,e=.returned v∧Hid (Own w' w.heap.size 5 v ((jC 0 n).map V8))∧Below w.heap.size w w':=by
 go_enter Tryz.func95,Tryz.ntmps95
 go_wp2
 go_ret
 exact⟨_,rfl,Own.nil _ _ _,Below.refl _ _⟩
theorem Gl (k n:Nat) (hk:k<100) (hn:n<2 ^ 64) (w:World)
  (ih:Calls Tryz.prog 95 #[.int .u64 ((n / 256:Nat):Int),.int .i64 k] w fun e w'=>∃ v,e=.returned v∧Hid (Own w' w.heap.size 5 v ((jC k (n / 256)).map V8))∧Below w.heap.size w w') :
  Calls Tryz.prog 95 #[.int .u64 n,.int .i64 ((k+1:Nat):Int)] w fun e w'=>∃ v,e=.returned v∧Hid (Own w' w.heap.size 5 v ((jC (k+1) n).map V8))∧Below w.heap.size w w':=by
 rw[show ((n / 256:Nat):Int)=(n:Int) / 256 from Int.natCast_ediv n 256] at ih
 have HI:=ae ih
 clear ih
 go_enter Tryz.func95,Tryz.ntmps95
 go_wp2_with fail
 refine HI.out.mono ?_
 rintro e w1 ⟨v1,rfl,bp,hb1⟩
 have hsz:=hb1.size
 have HL:Hid (((jC k (n / 256)).map V8).length+1≤100000000):=by show _≤_;rw[List.length_map,fu];omega
 have HE:Hid ((n:Int) % 256=((UInt8.ofNat n).toNat:Int)):=iu n
 clear HI
 go_wp2_with (at_builtin;refine aA rfl (.tmp 11) (.tmp 15) 22 rfl w.heap.size 5 Tryz.underlying22 bK rfl (by decide) _ ((jC k (n / 256)).map V8) rfl (bp.out.alloc _) _ [.int .u8 ((n:Int) % 256)] rfl (az w1 5 [.int .u8 ((n:Int) % 256)]) (by rw[HE.out];exact bI [UInt8.ofNat n]) HL.out (by simp;omega) ?_;intro v' w2 aC hg2 _)
 go_ret
 refine⟨_,rfl,?_,au (hb1.alloc hsz _) (bp.out.alloc _) hg2 (Nat.le_refl _) (by simp;omega)⟩
 show Own _ _ _ _ _
 rw[HE.out] at aC
 rw[Cm,List.map_append]
 exact aC
set_option maxRecDepth 512
theorem o8 (k:Nat) (hk:k≤100):∀ (n:Nat),n<2 ^ 64→∀ w:World,
  Calls Tryz.prog 95 #[.int .u64 n,.int .i64 k] w fun e w'=>∃ v,e=.returned v∧Hid (Own w' w.heap.size 5 v ((jC k n).map V8))∧Below w.heap.size w w':=by
 induction k with
 | zero=>intro n _ w;exact Gk n w
 | succ k ih=>intro n hn w;exact Gl k n (by omega) hn w (ih (by omega) (n / 256) (by omega) w)
theorem Gp (k:Nat) (hk:k≤100) (n:Nat) (hn:n<2 ^ 64) (z:Int) (hz:z=(n:Int)) (w:World) :
  Calls Tryz.prog 95 #[.int .u64 z,.int .i64 k] w fun e w'=>∃ v,e=.returned v∧Hid (Own w' w.heap.size 5 v ((jC k n).map V8))∧Below w.heap.size w w':=by
 subst hz
 exact o8 k hk n hn w
set_option maxRecDepth 100000
theorem qG (d:Int) (D:Nat) (hD:(D:Int)=d % 18446744073709551616) (v:Nat) (hv:v<2 ^ 64) (w:World) :
  Calls Tryz.prog 97 #[.int .i64 d,.int .u64 v] w fun e w'=>∃ r,e=.returned r∧Hid (Arg w' r (nnc D v))∧Below w.heap.size w w':=by
 have HD:=ae hD
 clear hD
 go_enter Tryz.func97,Tryz.ntmps97
 go_wp2_with fail
 rw[IntKind.wrap_u64,← HD.out]
 refine(o8 4 (by omega) D (by have:=HD.out;omega) w).mono ?_
 rintro e w1 ⟨v1,rfl,JG,hb1⟩
 go_wp2_with fail
 refine(o8 8 (by omega) v hv w1).mono ?_
 rintro e w2 ⟨v2,rfl,eH,hb2⟩
 have hs1:=hb1.size
 have hs2:=hb2.size
 have HO:Hid (Own w2 w.heap.size 5 v1 ((jC 4 D).map V8)):=JG.out.below hb2 (Nat.le_refl _)
 have HL:Hid (((jC 4 D).map V8).length+((jC 8 v).map V8).length≤100000000):=by show _≤_;rw[List.length_map,List.length_map,fu,fu];omega
 clear JG HD
 go_wp2_with (at_builtin;refine aA rfl (.tmp 7) (.tmp 9) 22 rfl w.heap.size 5 Tryz.underlying22 bK rfl (by decide) _ ((jC 4 D).map V8) rfl HO.out _ ((jC 8 v).map V8) rfl eH.out.from_ (bI _) HL.out (by omega) ?_;intro v' w3 aF hg3 _)
 go_ret
 refine⟨_,rfl,?_,au (hb1.trans (hb2.mono hs1)) HO.out hg3 (Nat.le_refl _) (by omega)⟩
 rw[← List.map_append] at aF
 exact aF.arg
set_option maxRecDepth 512
def ed (W:World) (p:Nat) (key:List UInt8):Prop :=
 ∃ ug uc xg xc vs,p<W.heap.size∧ah W p 0 [.slice (some ⟨ug,0,none⟩) 44 uc,.slice (some ⟨xg,0,none⟩) 256 xc]∧ug<W.heap.size∧ah W ug 0 vs∧iQ W vs (wkK key 44)∧xg<W.heap.size∧ah W xg 0 (SBL.map V8)
theorem ed.below {W W':World} {p:Nat} {key:List UInt8} (h:ed W p key) (hb:Below W.heap.size W W'):ed W' p key:=by
 obtain ⟨ug,uc,xg,xc,vs,h1,h2,h3,h4,h5,h6,h7⟩:=h
 have:=hb.size
 exact⟨ug,uc,xg,xc,vs,by omega,h2.below hb h1,by omega,h4.below hb h3,h5.below hb,by omega,h7.below hb h6⟩
end Go.Proofs.YthbmknpbcgnabaaGreatDoor
end
section
namespace Go.Proofs.YthbmknpbcgnabaaGreatDoor
open Go.RowKit Aes Ctr
theorem Own.shape {w:World} {B:Nat} {e:TypeId} {v:Value} {ys:List Value} (h:Own w B e v ys):∃ A cap,v=.slice A ys.length cap∧ys.length≤cap:=by
 rcases h.2 with ⟨rfl,h0⟩ | ⟨g,cap,cur,rfl,_,_,hc,_⟩
 ·exact⟨none,0,by rw[h0],by omega⟩
 ·exact⟨_,cap,rfl,hc⟩
theorem Arg.front {w:World} {A:Option Addr} {n cap:Nat} {b:List UInt8} (h:Arg w (.slice A n cap) b) (m:Nat) (hm:m≤b.length):Arg w (.slice A m cap) (b.take m):=by
 rcases h with ⟨A',e,rfl⟩ | ⟨x,o,c,e,hx,hl,hs⟩
 ·injection e with e1 e2 e3
  obtain rfl:m=0:=by simpa using hm
  exact .inl ⟨A,by rw[e3],rfl⟩
 ·injection e with e1 e2 e3
  refine .inr ⟨x,o,c,by rw[e1,e3,List.length_take,Nat.min_eq_left (by omega)],hx,by rw[List.length_take];omega,fun j u hu=>hs j u ?_⟩
  rw[List.map_take,List.getElem?_take] at hu
  split at hu
  ·exact hu
  ·cases hu
theorem wrap_small (k:Nat) (h:k<2 ^ 64):IntKind.u64.wrap (k:Int)=(k:Int):=by
 rw[IntKind.wrap_u64];omega
set_option maxRecDepth 100000
theorem yP (p:Nat) (key av:List UInt8) (hk:key.length=16) (hn:av.length=12) (nv:Value) (many:Nat) (hm:many≤1000) (w:World) (hK:ed w p key) (hN:Arg w nv av) :
  Calls Tryz.prog 127 #[.pointer (some ⟨p,0,none⟩),nv,.int .i64 many] w fun e w'=>∃ v,e=.returned v∧Hid (Arg w' v (jl key av many))∧Below w.heap.size w w':=by
 obtain ⟨ug,uc,xg,xc,vs,hpl,hps,hul,hus,hvs,hxl,hxs⟩:=hK
 have HPs:=ae hps
 have HUs:=ae hus
 have HVs:=ae hvs
 have HXs:=ae hxs
 have HN:=ae hN
 have HKl:=ae hk
 have HNl:=ae hn
 have HSW:Hid (∀ W,Below w.heap.size w W→(W.cell? ⟨p,0,none⟩=some (.slice (some ⟨ug,0,none⟩) 44 uc)∧W.cell? ⟨p,1,none⟩=some (.slice (some ⟨xg,0,none⟩) 256 xc))):=fun W hW=>⟨(hps.below hW hpl) 0 _ rfl,(hps.below hW hpl) 1 _ rfl⟩
 clear hN hk hn hps hus hvs hxs HPs
 go_enter Tryz.func127,Tryz.ntmps127
 go_wp2
 go_loopw [7,8] (fun o i wr=>∃ k:Nat,16*k<many+16∧i=.int .i64 k∧Hid (Own wr w.heap.size 5 o ((jl key av (16*k)).map V8))∧Below w.heap.size w wr) (fun _ i _=>many+16 - 16*(intOf i).toNat)
 case atStart=>exact⟨0,by omega,rfl,Own.nil _ _ _,Below.refl _ _⟩
 case round =>
  obtain ⟨k,hk,rfl,bp,ak⟩:=hrel
  obtain ⟨A,cap,rfl,hcap⟩:=bp.out.shape
  rw[List.length_map,bB] at hcap bp ⊢
  have dD:=ak.size
  by_cases hlt:16*k<many
  ·go_wp2
   refine wp_region_held_drew (S:=(fun W=>(W.cell? ⟨p,0,none⟩=some (.slice (some ⟨ug,0,none⟩) 44 uc)∧W.cell? ⟨p,1,none⟩=some (.slice (some ⟨xg,0,none⟩) 256 xc)))) (by kernel_rfl) (HSW.out _ ak.drew) (fun aa=>?_)
   refine tkh 0 15 rfl aa ?_ (Or.inl ⟨by rfl,by intro w hSw;obtain ⟨oN,oM⟩:=hSw;go_simp;with_reducible rfl⟩)
   try go_frame
   refine tkh 1 16 rfl aa ?_ (Or.inl ⟨by rfl,by intro w hSw;obtain ⟨oN,oM⟩:=hSw;go_simp;with_reducible rfl⟩)
   try go_frame
   refine tkh 2 17 rfl aa ?_ (Or.inl ⟨by rfl,by intro w hSw;obtain ⟨oN,oM⟩:=hSw;go_simp;with_reducible rfl⟩)
   try go_frame
   refine tkh 3 18 rfl aa ?_ (Or.inl ⟨by rfl,by intro w hSw;obtain ⟨oN,oM⟩:=hSw;go_simp;with_reducible rfl⟩)
   try go_frame
   refine tkh 4 19 rfl aa ?_ (Or.inl ⟨by rfl,by intro w hSw;obtain ⟨oN,oM⟩:=hSw;go_simp;with_reducible rfl⟩)
   try go_frame
   refine tkh 6 21 rfl aa ?_ (Or.inl ⟨by rfl,by intro w hSw;obtain ⟨oN,oM⟩:=hSw;go_simp;with_reducible rfl⟩)
   try go_frame
   refine tkh 8 23 rfl aa ?_ (Or.inl ⟨by rfl,by intro w hSw;obtain ⟨oN,oM⟩:=hSw;go_simp;with_reducible rfl⟩)
   try go_frame
   refine tkh 9 24 rfl aa ?_ (Or.inl ⟨by rfl,by intro w hSw;obtain ⟨oN,oM⟩:=hSw;go_simp;with_reducible rfl⟩)
   try go_frame
   refine tkh 12 27 rfl aa ?_ (Or.inl ⟨by rfl,by intro w hSw;obtain ⟨oN,oM⟩:=hSw;go_simp;with_reducible rfl⟩)
   try go_frame
   refine tkh 13 28 rfl aa ?_ (Or.inl ⟨by rfl,by intro w hSw;obtain ⟨oN,oM⟩:=hSw;go_simp;with_reducible rfl⟩)
   try go_frame
   refine tkh 14 29 rfl aa ?_ (Or.inl ⟨by rfl,by intro w hSw;obtain ⟨oN,oM⟩:=hSw;go_simp;with_reducible rfl⟩)
   try go_frame
   refine tkh 15 30 rfl aa ?_ (Or.inl ⟨by rfl,by intro w hSw;obtain ⟨oN,oM⟩:=hSw;go_simp;with_reducible rfl⟩)
   try go_frame
   refine rdq 5 20 fun K hK=>?_
   go_simp
   have HB1:Hid (Below wr.heap.size wr ((wr.alloc (.cells #[] 5)).drew)):=((Below.refl _ _).alloc (Nat.le_refl _) _).drew
   have HO1:Hid (Own ((wr.alloc (.cells #[] 5)).drew) wr.heap.size 5 (.slice (some ⟨wr.heap.size,0,none⟩) 0 0) []):=(Own.lit wr wr.heap.size 5 [] (Nat.le_refl _) (by simp)).drew
   refine hK.out _ _ (HSW.out _ (ak.trans (HB1.out.mono dD))) (fun aa=>?_)
   clear hK K
   try go_frame
   generalize (wr.alloc (.cells #[] 5)).drew=w1 at *
   refine rdq 7 22 fun K hK=>?_
   refine cK rfl (.tmp 20) (.tmp 21) 22 rfl wr.heap.size 5 Tryz.underlying22 bK rfl (by decide) _ ([]) rfl HO1.out _ (av.map V8) rfl (dy (HN.out.below (ak.trans (HB1.out.mono dD)))) (bI _) (by simp [HNl.out]) HB1.out.size ?_
   intro v22 w2 aC hg2 _
   have HB2:Hid (Below wr.heap.size wr w2):=au HB1.out HO1.out hg2 (Nat.le_refl _) HB1.out.size
   have HO2:Hid (Own w2 wr.heap.size 5 v22 (av.map V8)):=aC
   clear aC hg2 HO1 HB1
   refine hK.out _ _ (HSW.out _ (ak.trans (HB2.out.mono dD))) (fun aa=>?_)
   clear hK K
   try go_frame
   refine rdq 10 25 fun K hK=>?_
   go_simp
   go_at_call 95
   refine(Gp 4 (by omega) k (by omega) _ (wrap_small k (by omega)) w2).mono ?_
   rintro e w3 ⟨v25,rfl,O7,hb3⟩
   have HB3:Hid (Below wr.heap.size wr w3):=HB2.out.trans (hb3.mono HB2.out.size)
   have HO3:Hid (Own w3 wr.heap.size 5 v22 (av.map V8)):=HO2.out.below hb3 (Nat.le_refl _)
   clear hb3 HB2 HO2
   refine hK.out _ _ (HSW.out _ (ak.trans (HB3.out.mono dD))) (fun aa=>?_)
   clear hK K
   try go_frame
   refine rdq 11 26 fun K hK=>?_
   refine cK rfl (.tmp 22) (.tmp 25) 22 rfl wr.heap.size 5 Tryz.underlying22 bK rfl (by decide) _ (av.map V8) rfl HO3.out _ ((jC 4 k).map V8) rfl O7.out.from_ (bI _) (by rw[List.length_map,List.length_map,fu,HNl.out];omega) HB3.out.size ?_
   intro v26 w4 ia hg4 _
   have HB4:Hid (Below wr.heap.size wr w4):=au HB3.out HO3.out hg4 (Nat.le_refl _) HB3.out.size
   rw[← List.map_append] at ia
   have hl4:((av++jC 4 k).map V8).length=16:=by rw[List.length_map,List.length_append,fu,HNl.out]
   obtain ⟨bb,bc,Nl,_,hbb,hbs⟩:=ia.form (by rw[hl4];omega)
   rw[hl4] at Nl
   subst Nl
   have HBs:=ae hbs
   clear hbs ia hg4 HB3 HO3 O7 hl4
   refine hK.out _ _ (HSW.out _ (ak.trans (HB4.out.mono dD))) (fun aa=>?_)
   clear hK K
   try go_frame
   refine rdq 16 31 fun K hK=>?_
   go_simp
   go_at_call 145
   have hlw:w.heap.size≤w4.heap.size:=Nat.le_trans dD HB4.out.size
   have hB4:Below w.heap.size w w4:=ak.trans (HB4.out.mono dD)
   refine(yN ug uc bb bc xg xc key (av++jC 4 k) HKl.out (by rw[List.length_append,fu,HNl.out]) vs w4 (by omega) (HUs.out.below hB4 hul) (HVs.out.below hB4) hbb HBs.out (by omega) (HXs.out.below hB4 hxl)).mono ?_
   rintro e w5 ⟨v31,rfl,Pj,hb5⟩
   have HB5:Hid (Below wr.heap.size wr w5):=HB4.out.trans (hb5.mono HB4.out.size)
   have Gf:Hid (Below w.heap.size w w5):=ak.trans (HB5.out.mono dD)
   have HO5:Hid (Own w5 w.heap.size 5 (.slice A (16*k) cap) ((jl key av (16*k)).map V8)):=bp.out.below HB5.out (Nat.le_refl _)
   have HE5:Hid (Arg w5 v31 (blk key av k)):=Pj
   clear hb5 HB4 HBs hbb hB4 Pj
   refine hK.out _ _ (HSW.out _ Gf.out) (fun aa=>?_)
   clear hK K
   try go_frame
   refine rdq 17 32 fun K hK=>?_
   refine cK rfl (.tmp 15) (.tmp 31) 22 rfl w.heap.size 5 Tryz.underlying22 bK rfl (by decide) _ ((jl key av (16*k)).map V8) rfl HO5.out _ ((blk key av k).map V8) rfl (dy HE5.out) (bI _) (by rw[List.length_map,List.length_map,bB,qy key av HKl.out HNl.out];omega) Gf.out.size ?_
   intro v32 w6 sA hg6 _
   have HB6:Hid (Below w.heap.size w w6):=au Gf.out HO5.out hg6 (Nat.le_refl _) Gf.out.size
   rw[← List.map_append,← Bc key av HKl.out HNl.out] at sA
   have HO6:=ae sA
   clear sA hg6 HO5 HE5 Gf HB5
   refine hK.out _ _ (HSW.out _ HB6.out) (fun aa=>?_)
   clear hK K
   try go_frame
   refine tkh 18 7 rfl aa ?_ (Or.inl ⟨by rfl,by intro w hSw;obtain ⟨oN,oM⟩:=hSw;go_simp;with_reducible rfl⟩)
   try go_frame
   refine wpAnyH_done (by kernel_rfl) ?_ _
   clear aa
   go_wp2
   go_roundw
   case rel=>exact⟨k+1,by omega,by go_num,HO6,HB6.out⟩
   case measure=>simp [intOf];omega
  ·go_wp2
   go_ret
   refine⟨_,rfl,?_,ak⟩
   have h1:=bp.out.arg.front many (by rw[bB];omega)
   rw[Bb key av _ _ (by omega)] at h1
   exact h1
end Go.Proofs.YthbmknpbcgnabaaGreatDoor
end
section
namespace Go.Proofs.YthbmknpbcgnabaaGreatDoor
open Go.RowKit Aes Ctr
theorem rC (a b:List UInt8) (k:Nat):a8 (a.take k) (b.take k)=(a8 a b).take k:=by
 rw[a8,a8,List.take_zipWith]
theorem AZ (key av b:List UInt8) (k:Nat) (hk:k<b.length):(code key av b).take (k+1)=(code key av b).take k++[b.getD k 0 ^^^ (jl key av b.length).getD k 0]:=by
 rw[code,← rC,← rC,mg _ _ _ hk (by rw[bB];exact hk)]
set_option maxRecDepth 100000
theorem sK (p:Nat) (key av b:List UInt8) (hk:key.length=16) (hn:av.length=12) (hb:b.length≤1000) (nv v:Value) (w:World) (hK:ed w p key) (hN:Arg w nv av) (hA:Arg w v b) :
  Calls Tryz.prog 96 #[.pointer (some ⟨p,0,none⟩),nv,v] w fun e w'=>∃ r,e=.returned r∧Hid (Arg w' r (code key av b))∧Below w.heap.size w w':=by
 obtain ⟨A,cap,rfl⟩:=hA.form
 obtain ⟨n,hnl⟩:∃ n,n=b.length:=⟨_,rfl⟩
 rw[← hnl] at hA hb ⊢
 have HNl:=ae hnl
 have HA:=ae hA
 have HN:=ae hN
 have HK:=ae hK
 have HKl:=ae hk
 have HNo:=ae hn
 clear hA hN hK hk hn hnl
 go_enter Tryz.func96,Tryz.ntmps96
 go_wp2_with fail
 refine(yP p key av HKl.out HNo.out nv n hb w HK.out HN.out).mono ?_
 rintro e w1 ⟨sv,rfl,HS,hb1⟩
 obtain ⟨A2,QG,rfl⟩:=HS.out.form
 rw[bB] at HS ⊢
 have HA1:Hid (Arg w1 (.slice A n cap) b):=HA.out.below hb1
 have hs1:=hb1.size
 have HB1:=ae hb1
 clear hb1 HA
 go_wp2
 go_loopw [8,9] (fun o i wr=>∃ k:Nat,k≤n∧i=.int .i64 k∧Own wr w1.heap.size 5 o (((code key av b).take k).map V8)∧Below w1.heap.size w1 wr) (fun _ i _=>n - (intOf i).toNat)
 case atStart=>exact⟨0,by omega,rfl,Own.nil _ _ _,Below.refl _ _⟩
 case round =>
  obtain ⟨k,hk,rfl,hown,ak⟩:=hrel
  have dD:=ak.size
  by_cases hlt:k<n
  ·obtain ⟨xb,xo,xc,hxe,hxl,hxs⟩:=HA1.out.word (by rw[← HNl.out];omega)
   obtain ⟨yb,yo,yc,hye,hyl,hys⟩:=HS.out.word (by rw[bB];omega)
   injection hxe with e1 e2 e3
   injection hye with e4 e5 e6
   subst e1;subst e3;subst e4;subst e6
   clear e2 e5
   have g1:wr.cell? ⟨xb,xo+k,none⟩=some (.int .u8 (b.getD k 0).toNat):=at8 (hxs.below ak hxl) k (by rw[← HNl.out];exact hlt)
   have g2:wr.cell? ⟨yb,yo+k,none⟩=some (.int .u8 ((jl key av n).getD k 0).toNat):=at8 (hys.below ak hyl) k (by rw[bB];exact hlt)
   have HT:Hid ((code key av b).take (k+1)=(code key av b).take k++[b.getD k 0 ^^^ (jl key av n).getD k 0]):=by
    show _=_
    rw[HNl.out];exact AZ key av b k (by rw[← HNl.out];exact hlt)
   have HX:=ae (dV (b.getD k 0) ((jl key av n).getD k 0))
   have HL:Hid ((((code key av b).take k).map V8).length+1≤100000000):=by show _≤_;simp;omega
   generalize b.getD k 0=x at *
   generalize (jl key av n).getD k 0=y at *
   have bp:=ae hown
   clear hown hxs hys
   go_wp2
   have hk':(k:Int)<n:=by omega
   have G0:wr.drew.cell? ⟨xb,xo+k,none⟩=some (.int .u8 x.toNat)∧wr.drew.cell? ⟨yb,yo+k,none⟩=some (.int .u8 y.toNat):=⟨g1,g2⟩
   have G1:∀ o,(wr.alloc o).drew.cell? ⟨xb,xo+k,none⟩=some (.int .u8 x.toNat)∧(wr.alloc o).drew.cell? ⟨yb,yo+k,none⟩=some (.int .u8 y.toNat):=fun o =>
    ⟨(World.cell?_alloc_lt wr o _ (by show xb<_;omega)).trans g1,(World.cell?_alloc_lt wr o _ (by show yb<_;omega)).trans g2⟩
   clear g1 g2
   have eH:Hid (∀ o,Own (wr.alloc o).drew w1.heap.size 5 u8 (((code key av b).take k).map V8)):=fun o=>(bp.out.alloc o).drew
   have CL:Hid (xb<w1.heap.size∧yb<w1.heap.size):=⟨hxl,hyl⟩
   have HG4:Hid (∀ w4,(wr.alloc (.cells #[.int .u8 (bits .xor .u8 (x.toNat:Int) y.toNat)] 5)).drew.grownBy w4 u8.ownBlock→w4.cell? ⟨xb,xo+k,none⟩=some (.int .u8 x.toNat)∧w4.cell? ⟨yb,yo+k,none⟩=some (.int .u8 y.toNat)):=fun w4 hg=>by
    have hB:Below w1.heap.size (wr.alloc (.cells #[.int .u8 (bits .xor .u8 (x.toNat:Int) y.toNat)] 5)).drew w4:=au (Below.refl _ _) (eH.out _) hg (Nat.le_refl _) (by simp;omega)
    obtain ⟨k1,k2⟩:=G1 (.cells #[.int .u8 (bits .xor .u8 (x.toNat:Int) y.toNat)] 5)
    exact⟨(hB.cell (p:=⟨xb,xo+k,none⟩) CL.out.1).trans k1,(hB.cell (p:=⟨yb,yo+k,none⟩) CL.out.2).trans k2⟩
   go_region_held3 (fun W=>W.cell? ⟨xb,xo+k,none⟩=some (.int .u8 x.toNat)∧W.cell? ⟨yb,yo+k,none⟩=some (.int .u8 y.toNat)) (first | exact G0 | exact G1 _ | exact G4)
    (first | (refine cK rfl (.tmp 21) (.tmp 31) 22 rfl w1.heap.size 5 Tryz.underlying22 bK rfl (by decide) _ (((code key av b).take k).map V8) rfl (eH.out _) _ [.int .u8 (bits .xor .u8 (x.toNat:Int) y.toNat)] rfl (az wr 5 [.int .u8 (bits .xor .u8 (x.toNat:Int) y.toNat)]) (by rw[HX.out];exact bI [x ^^^ y]) HL.out (by simp;omega) ?_;intro v' w2 aC hg2 _;have G4:=HG4.out _ hg2))
   all_goals
    clear G0 G1 G4 HG4 hk'
    go_wp2
    go_roundw
    case rel =>
     rw[HX.out] at aC
     refine⟨k+1,by omega,by go_num,?_,?_⟩
     ·rw[HT.out,List.map_append];exact aC
     ·exact au (ak.alloc dD _).drew (eH.out _) hg2 (Nat.le_refl _) (by simp;omega)
    case measure=>simp [intOf];omega
  ·obtain rfl:k=n:=by omega
   rw[List.take_of_length_le (by rw[bC,← HNl.out];omega)] at hown
   have bp:=ae hown
   clear hown
   go_wp2
   go_ret
   exact⟨_,rfl,bp.out.arg,HB1.out.trans (ak.mono hs1)⟩
end Go.Proofs.YthbmknpbcgnabaaGreatDoor
end
namespace Go.Proofs.YthbmknpbcgnabaaGreatDoor
open Go.RowKit Aes Ctr Sl
def lY (W:World) (p:Nat) (ek mk:List UInt8):Prop :=
 ∃ va vb pe pm,p<W.heap.size∧ah W p 0 [va,vb,.pointer (some ⟨pe,0,none⟩),pm]∧Arg W va ek∧Arg W vb mk∧ed W pe ek∧Hm.ed W pm mk
theorem Arg.first {w:World} {b o c n:Nat} {bs:List UInt8} (h:Arg w (.slice (some ⟨b,o,none⟩) n c) bs) (m:Nat) (hm:m≤n) (hl:bs.length=n) (hp:0<n):Arg w (.slice (some ⟨b,o,none⟩) m c) (bs.take m):=by
 rcases h with ⟨A,e,hn⟩ | ⟨b',o',c',e,hb,hc,hs⟩
 ·rw[hn] at hl;simp at hl;omega
 ·injection e with e1 e2 e3
  injection e1 with e1
  injection e1 with e1 e4 _
  subst e1 e3 e4
  have hlm:(bs.take m).length=m:=by rw[List.length_take];omega
  refine .inr ⟨b,o,c,by rw[hlm],hb,by rw[hlm];omega,?_⟩
  have:=hs.piece 0 m
  rwa [List.drop_zero,Nat.add_zero,← List.map_take] at this
theorem Ng (w:World) (C:Array Value) (m:List UInt8) (hm:C=(m.map V8).toArray) (n:Nat) (hn:m.length=n) :
  Hm.dz ((w.alloc (.cells C 5 (n,n+1))).alloc (.cells #[.slice (some ⟨w.heap.size,0,none⟩) n n] 22)) (.slice (some ⟨w.heap.size+1,0,none⟩) 1 1) [m]:=by
 have h:Arg (w.alloc (.cells C 5 (n,n+1))) (.slice (some ⟨w.heap.size,0,none⟩) n n) m:=by
  refine .inr ⟨w.heap.size,0,n,by rw[hn],by simp,by omega,fun j u hu=>?_⟩
  rw[Nat.zero_add]
  refine(Joins.cell_alloc_mark_at w _ _ _ _ j rfl).trans ?_
  rw[hm,List.getElem?_toArray]
  exact hu
 have hp:=xW h
 rwa [show (w.alloc (.cells C 5 (n,n+1))).heap.size=w.heap.size+1 by simp] at hp
theorem pU (w:World) (o1 o2:Obj):Below w.heap.size w ((w.alloc o1).alloc o2):=Joins.below_alloc2 w o1 o2
end Go.Proofs.YthbmknpbcgnabaaGreatDoor
