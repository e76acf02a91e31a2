/- Of the walk. -/
import Derived.Test.YthbmknpbcgnabaaGreatDoorB15
set_option maxHeartbeats 40000000
namespace Go.Proofs.YthbmknpbcgnabaaGreatDoor
open Go.RowKit Aes
theorem Oc (l:List UInt8) (h:l.length=4):∃ a b c d:UInt8,l=[a,b,c,d]:=by
 match l,h with
 | [a,b,c,d],_=>exact⟨_,_,_,_,rfl⟩
theorem CX (key:List UInt8) (n:Nat) (h:n<4):wkK key (n+1)=wkK key n++[(key.drop (4*n)).take 4]:=sY key n h
theorem dA (key:List UInt8) (n:Nat):(wkK key n).length=n:=dF key n
theorem uZ (key:List UInt8) (m:Nat):wkK key (m+4+1)=wkK key (m+4)++[a8 ((wkK key (m+4)).getD m []) (tK (wkK key (m+4)))]:=by
 have:=sX key (m+4) (by omega)
 rwa [Nat.add_sub_cancel] at this
theorem l8 (key:List UInt8) (hk:key.length=16) (n:Nat):∀ x∈wkK key n,x.length=4:=l6 key hk n
set_option maxRecDepth 100000
theorem CT (Lo kb xb xc:Nat) (key:List UInt8) (hkl:key.length=16) (w:World) (hkb:kb<w.heap.size) (hk:ah w kb 0 (key.map V8)) (hxb:xb<w.heap.size) (hx:ah w xb 0 (SBL.map V8)) (kc:Nat) (hkc:16≤kc) (Ic:Lo≤kb) (NH:Lo≤w.heap.size) :
  Calls Tryz.prog 116 #[.slice (some ⟨kb,0,none⟩) 16 kc,.slice (some ⟨xb,0,none⟩) 256 xc] w fun e w'=>∃ v,e=.returned v∧Hid (aR Lo w.heap.size w' v (wkK key 44))∧Below w.heap.size w w':=by
 have HKL:=ae hkl
 have HK:=ae hk
 have HX:=ae hx
 have HLo:Hid (Lo≤kb∧Lo≤w.heap.size):=⟨Ic,NH⟩
 clear hkl hk hx Ic NH
 go_enter Tryz.func116,Tryz.ntmps116
 go_wp2
 go_loopw [5,6,7,8,9,10] (fun v m i _ _ _ wr=>∃ (n:Nat) (x:UInt8),n≤44∧i=.int .i64 n∧m=.int .u8 x.toNat∧Hid (x=z7 ((n - 1) / 4))∧Hid (aR Lo w.heap.size wr v (wkK key n))∧Below w.heap.size w wr) (fun _ _ i _ _ _ _=>44 - (intOf i).toNat)
 case atStart=>exact⟨0,1,by omega,rfl,rfl,(show (1:UInt8)=z7 0 from rfl),aR.nil _ _ _,Below.refl _ _⟩
 case round =>
  obtain ⟨n,x,hn,rfl,rfl,Hm,HR,ak⟩:=hrel
  have dD:=ak.size
  rcases Nat.lt_or_ge n 4 with h4 | h4
  ·have dc:Hid (((key.drop (4*n)).take 4).length=4):=by show _=_;rw[List.length_take,List.length_drop,HKL.out];omega
   have HS:Hid (∀ W,Below wr.heap.size wr W→ah W kb (4*n) (((key.drop (4*n)).take 4).map V8)):=fun W hW=>by
    have:=((HK.out.below ak hkb).below hW (by omega)).piece (4*n) 4
    rw[Nat.zero_add,← List.map_drop,← List.map_take] at this
    exact this
   have Hne:Hid (u5.ownBlock≠some kb):=by
    obtain ⟨vs,ho,_⟩:=HR.out
    intro h
    have:=(ho.lt h).1
    omega
   have HH:=ae (CX key n h4)
   have Hll:=ae (dA key n)
   obtain rfl | rfl | rfl | rfl:n=0∨n=1∨n=2∨n=3:=by omega
   ·have HB1:Hid (Below wr.heap.size wr (wr.alloc (.cells #[.slice (some ⟨kb,0,none⟩) 4 kc] 22))):=(Below.refl _ _).alloc (Nat.le_refl _) _
    have HSe:Hid (ah (wr.alloc (.cells #[.slice (some ⟨kb,0,none⟩) 4 kc] 22)) wr.heap.size 0 [.slice (some ⟨kb,0,none⟩) ((key.drop (4*0)).take 4).length kc]):=by
     rw[dc.out];exact(Row.new wr 22 [.slice (some ⟨kb,0,none⟩) 4 kc]).sees
    have HSp:Hid (ah (wr.alloc (.cells #[.slice (some ⟨kb,0,none⟩) 4 kc] 22)) kb 0 (((key.drop (4*0)).take 4).map V8)):=HS.out _ HB1.out
    have HRb:=ae (HR.out.below HB1.out)
    have Hc:Hid (((key.drop (4*0)).take 4).length≤kc):=by rw[dc.out];show _≤_;omega
    have Hl2:Hid ((wkK key 0).length≤1000):=by rw[Hll.out];show _≤_;omega
    clear HS HR
    go_wp2_with (at_builtin;refine aX rfl (.tmp 17) (.tmp 25) rfl Lo w.heap.size _ (wkK key 0) rfl HRb.out wr.heap.size 1 kb 0 kc ((key.drop (4*0)).take 4) rfl HSe.out (by simp;omega) HLo.out.1 Hne.out Hc.out HSp.out Hl2.out (by simp;omega) ?_;intro v' w2 HR2 hb2)
    go_roundw
    case rel =>
     refine⟨1,x,by omega,by go_num,rfl,Hm,?_,(ak.trans (HB1.out.mono dD)).trans hb2⟩
     rw[show wkK key 1=wkK key 0++[(key.drop (4*0)).take 4] from HH.out]
     exact HR2
    case measure=>simp [intOf]
   ·have HB1:Hid (Below wr.heap.size wr (wr.alloc (.cells #[.slice (some ⟨kb,4,none⟩) 4 (kc - 4)] 22))):=(Below.refl _ _).alloc (Nat.le_refl _) _
    have HSe:Hid (ah (wr.alloc (.cells #[.slice (some ⟨kb,4,none⟩) 4 (kc - 4)] 22)) wr.heap.size 0 [.slice (some ⟨kb,4,none⟩) ((key.drop (4*1)).take 4).length (kc - 4)]):=by
     rw[dc.out];exact(Row.new wr 22 [.slice (some ⟨kb,4,none⟩) 4 (kc - 4)]).sees
    have HSp:Hid (ah (wr.alloc (.cells #[.slice (some ⟨kb,4,none⟩) 4 (kc - 4)] 22)) kb 4 (((key.drop (4*1)).take 4).map V8)):=HS.out _ HB1.out
    have HRb:=ae (HR.out.below HB1.out)
    have Hc:Hid (((key.drop (4*1)).take 4).length≤(kc - 4)):=by rw[dc.out];show _≤_;omega
    have Hl2:Hid ((wkK key 1).length≤1000):=by rw[Hll.out];show _≤_;omega
    clear HS HR
    go_wp2_with (at_builtin;refine aX rfl (.tmp 17) (.tmp 25) rfl Lo w.heap.size _ (wkK key 1) rfl HRb.out wr.heap.size 1 kb 4 (kc - 4) ((key.drop (4*1)).take 4) rfl HSe.out (by simp;omega) HLo.out.1 Hne.out Hc.out HSp.out Hl2.out (by simp;omega) ?_;intro v' w2 HR2 hb2)
    go_roundw
    case rel =>
     refine⟨2,x,by omega,by go_num,rfl,Hm,?_,(ak.trans (HB1.out.mono dD)).trans hb2⟩
     rw[show wkK key 2=wkK key 1++[(key.drop (4*1)).take 4] from HH.out]
     exact HR2
    case measure=>simp [intOf]
   ·have HB1:Hid (Below wr.heap.size wr (wr.alloc (.cells #[.slice (some ⟨kb,8,none⟩) 4 (kc - 8)] 22))):=(Below.refl _ _).alloc (Nat.le_refl _) _
    have HSe:Hid (ah (wr.alloc (.cells #[.slice (some ⟨kb,8,none⟩) 4 (kc - 8)] 22)) wr.heap.size 0 [.slice (some ⟨kb,8,none⟩) ((key.drop (4*2)).take 4).length (kc - 8)]):=by
     rw[dc.out];exact(Row.new wr 22 [.slice (some ⟨kb,8,none⟩) 4 (kc - 8)]).sees
    have HSp:Hid (ah (wr.alloc (.cells #[.slice (some ⟨kb,8,none⟩) 4 (kc - 8)] 22)) kb 8 (((key.drop (4*2)).take 4).map V8)):=HS.out _ HB1.out
    have HRb:=ae (HR.out.below HB1.out)
    have Hc:Hid (((key.drop (4*2)).take 4).length≤(kc - 8)):=by rw[dc.out];show _≤_;omega
    have Hl2:Hid ((wkK key 2).length≤1000):=by rw[Hll.out];show _≤_;omega
    clear HS HR
    go_wp2_with (at_builtin;refine aX rfl (.tmp 17) (.tmp 25) rfl Lo w.heap.size _ (wkK key 2) rfl HRb.out wr.heap.size 1 kb 8 (kc - 8) ((key.drop (4*2)).take 4) rfl HSe.out (by simp;omega) HLo.out.1 Hne.out Hc.out HSp.out Hl2.out (by simp;omega) ?_;intro v' w2 HR2 hb2)
    go_roundw
    case rel =>
     refine⟨3,x,by omega,by go_num,rfl,Hm,?_,(ak.trans (HB1.out.mono dD)).trans hb2⟩
     rw[show wkK key 3=wkK key 2++[(key.drop (4*2)).take 4] from HH.out]
     exact HR2
    case measure=>simp [intOf]
   ·have HB1:Hid (Below wr.heap.size wr (wr.alloc (.cells #[.slice (some ⟨kb,12,none⟩) 4 (kc - 12)] 22))):=(Below.refl _ _).alloc (Nat.le_refl _) _
    have HSe:Hid (ah (wr.alloc (.cells #[.slice (some ⟨kb,12,none⟩) 4 (kc - 12)] 22)) wr.heap.size 0 [.slice (some ⟨kb,12,none⟩) ((key.drop (4*3)).take 4).length (kc - 12)]):=by
     rw[dc.out];exact(Row.new wr 22 [.slice (some ⟨kb,12,none⟩) 4 (kc - 12)]).sees
    have HSp:Hid (ah (wr.alloc (.cells #[.slice (some ⟨kb,12,none⟩) 4 (kc - 12)] 22)) kb 12 (((key.drop (4*3)).take 4).map V8)):=HS.out _ HB1.out
    have HRb:=ae (HR.out.below HB1.out)
    have Hc:Hid (((key.drop (4*3)).take 4).length≤(kc - 12)):=by rw[dc.out];show _≤_;omega
    have Hl2:Hid ((wkK key 3).length≤1000):=by rw[Hll.out];show _≤_;omega
    clear HS HR
    go_wp2_with (at_builtin;refine aX rfl (.tmp 17) (.tmp 25) rfl Lo w.heap.size _ (wkK key 3) rfl HRb.out wr.heap.size 1 kb 12 (kc - 12) ((key.drop (4*3)).take 4) rfl HSe.out (by simp;omega) HLo.out.1 Hne.out Hc.out HSp.out Hl2.out (by simp;omega) ?_;intro v' w2 HR2 hb2)
    go_roundw
    case rel =>
     refine⟨4,x,by omega,by go_num,rfl,Hm,?_,(ak.trans (HB1.out.mono dD)).trans hb2⟩
     rw[show wkK key 4=wkK key 3++[(key.drop (4*3)).take 4] from HH.out]
     exact HR2
    case measure=>simp [intOf]
  ·obtain ⟨m,rfl⟩:∃ m,n=m+4:=⟨n - 4,by omega⟩
   rw[show ((m+4:Nat):Int)=(m:Int)+4 from rfl]
   by_cases hlt:m<40
   ·obtain ⟨g,cap,hv5,hob,hBg,hgl,hword⟩:=HR.out.word (l8 key HKL.out _) (by rw[dA];omega)
    rw[dA] at hv5 hword
    obtain ⟨tb,tt,tc,ht1,htl,htg,hts,ht4⟩:=hword (m+3) (by omega)
    obtain ⟨pb,po,pc,hp1,hpl,hpg,hps,hp4⟩:=hword m (by omega)
    subst hv5
    have Hob:=ae hob
    have Hp1:=ae hp1
    have Hps:=ae hps
    have Hp4:=ae hp4
    have Hts:=ae hts
    have Ht4:=ae ht4
    clear hword hob hp1 hps hp4 hts ht4
    by_cases hm4:m % 4=0
    ·have hB:((m:Int) % 4 == 0)=true:=by simp;omega
     obtain ⟨a,b,c,d,hw4⟩:=Oc _ Ht4.out
     have HW4:=ae hw4
     rw[hw4] at Hts
     clear hw4
     have t0:wr.cell? ⟨tb,tt,none⟩=some (.int .u8 a.toNat):=at8 Hts.out 0 (by simp)
     have t1:wr.cell? ⟨tb,tt+1,none⟩=some (.int .u8 b.toNat):=at8 Hts.out 1 (by simp)
     have t2:wr.cell? ⟨tb,tt+2,none⟩=some (.int .u8 c.toNat):=at8 Hts.out 2 (by simp)
     have t3:wr.cell? ⟨tb,tt+3,none⟩=some (.int .u8 d.toNat):=at8 Hts.out 3 (by simp)
     have hbx:∀ y:UInt8,wr.cell? ⟨xb,y.toNat,none⟩=some (.int .u8 (sb y).toNat):=fun y=>by
      have:=at8 (HX.out.below ak hxb) y.toNat (by rw[eF];exact lt8 y)
      rwa [Nat.zero_add,uF] at this
     have x0:=hbx a
     have x1:=hbx b
     have x2:=hbx c
     have x3:=hbx d
     clear hbx
     go_wp2
     have l0:(a.toNat:Int)<256:=by have:=lt8 a;omega
     have l1:(b.toNat:Int)<256:=by have:=lt8 b;omega
     have l2:(c.toNat:Int)<256:=by have:=lt8 c;omega
     have l3:(d.toNat:Int)<256:=by have:=lt8 d;omega
     refine wp_region_still_tail 26 (by kernel_rfl) (by kernel_rfl) ?_
     simp only [List.take_succ_cons,List.take_zero,List.drop_succ_cons,List.drop_zero]
     repeat still_step
     refine wpStill_nil ?_
     clear t0 t1 t2 t3 x0 x1 x2 x3 l0 l1 l2 l3
     go_wp2_with (go_at_call 139;refine(AL _ _).mono ?_;rintro e w' ⟨rfl,rfl⟩)
     have hbA:Below wr.heap.size wr (wr.alloc (.cells #[.int .u8 (bits .xor .u8 ((sb b).toNat:Int) x.toNat),.int .u8 (sb c).toNat,.int .u8 (sb d).toNat,.int .u8 (sb a).toNat] 5)).drew:=below_drewN ((Below.refl _ _).alloc (Nat.le_refl _) _) 1
     obtain ⟨tw,htw⟩:∃ tw,tw=tK (wkK key (m+4)):=⟨_,rfl⟩
     have HTW:=ae htw
     have htf:tw=[sb b ^^^ x,sb c,sb d,sb a]:=by
      rw[htw]
      have:=zF key (m+4) (by omega)
      rw[show (m+4) / 4 - 1=(m+4 - 1) / 4 by omega] at this
      have e3:(wk key (m+4)).getD (m+4 - 1) []=[a,b,c,d]:=HW4.out
      rw[e3,show Aes.mark ((m+4 - 1) / 4)=x from Hm.out.symm] at this
      exact this
     have HTs:Hid (ah (wr.alloc (.cells #[.int .u8 (bits .xor .u8 ((sb b).toNat:Int) x.toNat),.int .u8 (sb c).toNat,.int .u8 (sb d).toNat,.int .u8 (sb a).toNat] 5)).drew wr.heap.size 0 (tw.map V8)):=by
      have:=(Row.new wr 5 [.int .u8 (bits .xor .u8 ((sb b).toNat:Int) x.toNat),.int .u8 (sb c).toNat,.int .u8 (sb d).toNat,.int .u8 (sb a).toNat]).drew.sees
      rw[htf]
      rw[dV] at this
      rw[dV]
      exact this
     have Htl:Hid (tw.length=4):=by rw[htf];exact(rfl:4=4)
     have hTi:wr.heap.size<(wr.alloc (.cells #[.int .u8 (bits .xor .u8 ((sb b).toNat:Int) x.toNat),.int .u8 (sb c).toNat,.int .u8 (sb d).toNat,.int .u8 (sb a).toNat] 5)).drew.heap.size:=by show _<(wr.alloc _).heap.size;simp
     have Hy:Hid (dbl x=z7 ((m+4+1 - 1) / 4)):=by
      show _=_
      rw[Hm.out,show (m+4+1 - 1) / 4=(m+4 - 1) / 4+1 by omega];rfl
     clear htw htf HW4 Hts Ht4 hB Hm
     have hgi:=Nat.lt_of_lt_of_le hgl hbA.size
     have hpi:=Nat.lt_of_lt_of_le hpl hbA.size
     have HPc:=ae ((World.cell?_of_block (w:=wr) (hbA.block g hgl)).trans Hp1.out)
     have HPs:=ae (Hps.out.below hbA hpl)
     have HRi:=ae (HR.out.below hbA)
     have hbi:=ak.trans (hbA.mono dD)
     obtain ⟨pw,hpw⟩:∃ pw,pw=(wkK key (m+4)).getD m []:=⟨_,rfl⟩
     have HPW:=ae hpw
     rw[← hpw] at HPs Hp4
     have Hpl:=Hp4
     clear hpw Hp1 Hps HR ak Hp4
     clear hgl hpl htl hbA
     generalize (wr.alloc (.cells #[.int .u8 (bits .xor .u8 ((sb b).toNat:Int) x.toNat),.int .u8 (sb c).toNat,.int .u8 (sb d).toNat,.int .u8 (sb a).toNat] 5)).drew=wi at *
     obtain ⟨T,hT⟩:∃ T,T=wr.heap.size:=⟨_,rfl⟩
     rw[← hT] at HTs hTi ⊢
     clear hT
     go_loopw [9,10] (fun o kk wj=>∃ (j:Nat) (o':Value),o'=o∧j≤4∧kk=.int .i64 j∧Own wj wi.heap.size 5 o' ((a8 (pw.take j) (tw.take j)).map V8)∧Below wi.heap.size wi wj) (fun _ kk _=>4 - (intOf kk).toNat)
     case atStart=>exact⟨0,_,rfl,by omega,rfl,Own.nil _ _ _,Below.refl _ _⟩
     case round =>
      obtain ⟨j,ov,hov,hj,rfl,hown,hbj⟩:=hrel
      subst hov
      have Ks:=hbj.size
      by_cases hj4:j<4
      ·have g1:wr.cell? ⟨g,m,none⟩=some (.slice (some ⟨pb,po,none⟩) 4 pc):=(World.cell?_of_block (w:=wi) (hbj.block g hgi)).trans HPc.out
       have g2:wr.cell? ⟨pb,po+j,none⟩=some (.int .u8 (pw.getD j 0).toNat):=at8 (HPs.out.below hbj hpi) j (by rw[Hpl.out];exact hj4)
       have g3:wr.cell? ⟨T,j,none⟩=some (.int .u8 (tw.getD j 0).toNat):=(by have:=at8 (HTs.out.below hbj hTi) j (by rw[Htl.out];exact hj4);rwa [Nat.zero_add] at this)
       have HT:Hid (a8 (pw.take (j+1)) (tw.take (j+1))=a8 (pw.take j) (tw.take j)++[pw.getD j 0 ^^^ tw.getD j 0]):=mg pw tw j (by rw[Hpl.out];exact hj4) (by rw[Htl.out];exact hj4)
       have HXr:=ae (dV (pw.getD j 0) (tw.getD j 0))
       generalize pw.getD j 0=xx at *
       generalize tw.getD j 0=yy at *
       have HL:Hid (((a8 (pw.take j) (tw.take j)).map V8).length+1≤100000000):=by show _≤_;simp [a8];omega
       have bp:=ae hown
       clear hown
       go_wp2
       have e4:IntKind.i64.wrap ((m:Int)+4 - 4)=(m:Int):=by rw[IntWalk.i64_in _ (by omega)];omega
       have e0:IntKind.i64.wrap (m:Int)=(m:Int):=by rw[IntWalk.i64_in _ (by omega)]
       have b0:(m:Int)<(m:Int)+4:=by omega
       have b1:m<m+4:=by omega
       have b2:(j:Int)<4:=by omega
       have G0:wr.drew.cell? ⟨g,m,none⟩=some (.slice (some ⟨pb,po,none⟩) 4 pc)∧wr.drew.cell? ⟨pb,po+j,none⟩=some (.int .u8 xx.toNat)∧wr.drew.cell? ⟨T,j,none⟩=some (.int .u8 yy.toNat):=⟨g1,g2,g3⟩
       have G1:∀ o,(wr.alloc o).drew.cell? ⟨g,m,none⟩=some (.slice (some ⟨pb,po,none⟩) 4 pc)∧(wr.alloc o).drew.cell? ⟨pb,po+j,none⟩=some (.int .u8 xx.toNat)∧(wr.alloc o).drew.cell? ⟨T,j,none⟩=some (.int .u8 yy.toNat):=fun o =>
        ⟨(World.cell?_alloc_lt wr o _ (by show g<_;omega)).trans g1,(World.cell?_alloc_lt wr o _ (by show pb<_;omega)).trans g2,(World.cell?_alloc_lt wr o _ (by show T<_;omega)).trans g3⟩
       clear g1 g2 g3
       have eH:Hid (∀ o,Own (wr.alloc o).drew wi.heap.size 5 ov ((a8 (pw.take j) (tw.take j)).map V8)):=fun o=>(bp.out.alloc o).drew
       have HG4:Hid (∀ w4,(wr.alloc (.cells #[.int .u8 (bits .xor .u8 (xx.toNat:Int) yy.toNat)] 5)).drew.grownBy w4 ov.ownBlock→w4.cell? ⟨g,m,none⟩=some (.slice (some ⟨pb,po,none⟩) 4 pc)∧w4.cell? ⟨pb,po+j,none⟩=some (.int .u8 xx.toNat)∧w4.cell? ⟨T,j,none⟩=some (.int .u8 yy.toNat)):=fun w4 hg=>by
        have hBB:Below wi.heap.size (wr.alloc (.cells #[.int .u8 (bits .xor .u8 (xx.toNat:Int) yy.toNat)] 5)).drew w4:=au (Below.refl _ _) (eH.out _) hg (Nat.le_refl _) (by simp;omega)
        obtain ⟨k1,k2,k3⟩:=G1 (.cells #[.int .u8 (bits .xor .u8 (xx.toNat:Int) yy.toNat)] 5)
        exact⟨(hBB.cell (p:=⟨g,m,none⟩) hgi).trans k1,(hBB.cell (p:=⟨pb,po+j,none⟩) hpi).trans k2,(hBB.cell (p:=⟨T,j,none⟩) hTi).trans k3⟩
       go_region_held3 (fun W=>W.cell? ⟨g,m,none⟩=some (.slice (some ⟨pb,po,none⟩) 4 pc)∧W.cell? ⟨pb,po+j,none⟩=some (.int .u8 xx.toNat)∧W.cell? ⟨T,j,none⟩=some (.int .u8 yy.toNat)) (first | exact G0 | exact G1 _ | exact G4)
        (first | (refine cK rfl (.tmp 68) (.tmp 82) 22 rfl wi.heap.size 5 Tryz.underlying22 bK rfl (by decide) _ ((a8 (pw.take j) (tw.take j)).map V8) rfl (eH.out _) _ [.int .u8 (bits .xor .u8 (xx.toNat:Int) yy.toNat)] rfl (az wr 5 [.int .u8 (bits .xor .u8 (xx.toNat:Int) yy.toNat)]) (by rw[HXr.out];exact bI [xx ^^^ yy]) HL.out (by simp;omega) ?_;intro v' w2 aC hg2 _;have G4:=HG4.out _ hg2))
       all_goals
        clear G0 G1 G4 HG4 e4 e0 b0 b1 b2
        go_wp2
        go_roundw
        case rel =>
         rw[HXr.out] at aC
         refine⟨j+1,_,rfl,by omega,by go_num,?_,?_⟩
         ·rw[HT.out,List.map_append];exact aC
         ·exact au (hbj.alloc Ks _).drew (eH.out _) hg2 (Nat.le_refl _) (by simp;omega)
        case measure=>simp [intOf];omega
      ·obtain rfl:j=4:=by omega
       rw[show ((4:Nat):Int)=4 from rfl]
       have e1:pw.take 4=pw:=List.take_of_length_le (by rw[Hpl.out];omega)
       have e2:tw.take 4=tw:=List.take_of_length_le (by rw[Htl.out];omega)
       rw[e1,e2] at hown
       clear e1 e2
       have Hxl:Hid ((a8 pw tw).length=4):=dS _ _ 4 Hpl.out Htl.out
       obtain ⟨xg,iB,hform,hxB,hxl,hxc,hxs⟩:=hown.cM (by rw[List.length_map,Hxl.out];omega)
       rw[List.length_map,Hxl.out] at hform hxc
       subst hform
       have HB1:Hid (Below wr.heap.size wr (wr.alloc (.cells #[.slice (some ⟨xg,0,none⟩) 4 iB] 22))):=(Below.refl _ _).alloc (Nat.le_refl _) _
       have HSe:Hid (ah (wr.alloc (.cells #[.slice (some ⟨xg,0,none⟩) 4 iB] 22)) wr.heap.size 0 [.slice (some ⟨xg,0,none⟩) (a8 pw tw).length iB]):=by
        rw[Hxl.out];exact(Row.new wr 22 [.slice (some ⟨xg,0,none⟩) 4 iB]).sees
       have HSp:Hid (ah (wr.alloc (.cells #[.slice (some ⟨xg,0,none⟩) 4 iB] 22)) xg 0 ((a8 pw tw).map V8)):=hxs.below HB1.out hxl
       have HRb:Hid (aR Lo w.heap.size (wr.alloc (.cells #[.slice (some ⟨xg,0,none⟩) 4 iB] 22)) (.slice (some ⟨g,0,none⟩) (m+4) cap) (wkK key (m+4))):=(HRi.out.below hbj).below HB1.out
       have Hc:Hid ((a8 pw tw).length≤iB):=by rw[Hxl.out];exact hxc
       have Hl2:Hid ((wkK key (m+4)).length≤1000):=by rw[dA];show _≤_;omega
       have Hne:Hid ((Value.slice (some ⟨g,0,none⟩) (m+4) cap).ownBlock≠some xg):=by rw[Hob.out];intro h;injection h with h;omega
       have HBz:Hid (Below w.heap.size w (wr.alloc (.cells #[.slice (some ⟨xg,0,none⟩) 4 iB] 22))):=(hbi.trans (hbj.mono hbi.size)).trans (HB1.out.mono (by omega))
       have LD:Hid (w.heap.size≤(wr.alloc (.cells #[.slice (some ⟨xg,0,none⟩) 4 iB] 22)).heap.size):=HBz.out.size
       have Hxa:Hid (xg<(wr.alloc (.cells #[.slice (some ⟨xg,0,none⟩) 4 iB] 22)).heap.size):=by show _<_;simp;omega
       have LC:Hid (Lo≤xg):=by have:=HLo.out.2;show _≤_;omega
       clear hown hxs hxc HRi
       go_wp2_with (at_builtin;refine aX rfl (.tmp 84) (.tmp 86) rfl Lo w.heap.size _ (wkK key (m+4)) rfl HRb.out wr.heap.size 1 xg 0 iB (a8 pw tw) rfl HSe.out Hxa.out LC.out Hne.out Hc.out HSp.out Hl2.out LD.out ?_;intro v' w2 HR2 hb2)
       go_roundw
       case rel =>
        refine⟨m+4+1,_,by omega,by go_num,rfl,Hy,?_,HBz.out.trans hb2⟩
        rw[uZ,← HPW.out,← HTW.out]
        exact HR2
       case measure=>simp [intOf];omega
    ·have hB:((m:Int) % 4 == 0)=false:=by simp;omega
     obtain ⟨tw,htw⟩:∃ tw,tw=tK (wkK key (m+4)):=⟨_,rfl⟩
     have HTW:=ae htw
     have htf:tw=(wkK key (m+4)).getD (m+3) []:=by rw[htw];exact xJ key (m+4) (by omega)
     rw[← htf] at Hts Ht4
     have HTs:=Hts
     have Htl:=Ht4
     have Hy:Hid (x=z7 ((m+4+1 - 1) / 4)):=by
      show _=_
      rw[Hm.out,show (m+4+1 - 1) / 4=(m+4 - 1) / 4 by omega]
     clear htw htf Hts Ht4 Hm
     go_wp2
     have hbA:Below wr.heap.size wr wr:=Below.refl _ _
     have hTi:=htl
     have hgi:=Nat.lt_of_lt_of_le hgl hbA.size
     have hpi:=Nat.lt_of_lt_of_le hpl hbA.size
     have HPc:=ae ((World.cell?_of_block (w:=wr) (hbA.block g hgl)).trans Hp1.out)
     have HPs:=ae (Hps.out.below hbA hpl)
     have HRi:=ae (HR.out.below hbA)
     have hbi:=ak.trans (hbA.mono dD)
     obtain ⟨pw,hpw⟩:∃ pw,pw=(wkK key (m+4)).getD m []:=⟨_,rfl⟩
     have HPW:=ae hpw
     rw[← hpw] at HPs Hp4
     have Hpl:=Hp4
     clear hpw Hp1 Hps HR ak Hp4
     clear hgl hpl htl hbA
     clear ht1 dD
     have hd1:decide ((m:Int)+4<44)=true:=by simp;omega
     have hd2:decide ((m:Int)+4<4)=false:=by simp;omega
     have hd3:m+4 - 1=m+3:=rfl
     have hd4:((m:Int)+4) % 4=(m:Int) % 4:=by omega
     simp only [hd1,hd2,hd3,hd4]
     clear hd1 hd2 hd3 hd4 hB
     revert hgi hpi HPc HPs HRi hbi hTi HTs
     generalize wr=wi
     intro HTs hTi hgi hpi HPc HRi hbi HPs
     go_loopw [9,10] (fun o kk wj=>∃ (j:Nat) (o':Value),o'=o∧j≤4∧kk=.int .i64 j∧Own wj wi.heap.size 5 o' ((a8 (pw.take j) (tw.take j)).map V8)∧Below wi.heap.size wi wj) (fun _ kk _=>4 - (intOf kk).toNat)
     case atStart=>exact⟨0,_,rfl,by omega,rfl,Own.nil _ _ _,Below.refl _ _⟩
     case round =>
      obtain ⟨j,ov,hov,hj,rfl,hown,hbj⟩:=hrel
      subst hov
      have Ks:=hbj.size
      by_cases hj4:j<4
      ·have g1:wr.cell? ⟨g,m,none⟩=some (.slice (some ⟨pb,po,none⟩) 4 pc):=(World.cell?_of_block (w:=wi) (hbj.block g hgi)).trans HPc.out
       have g2:wr.cell? ⟨pb,po+j,none⟩=some (.int .u8 (pw.getD j 0).toNat):=at8 (HPs.out.below hbj hpi) j (by rw[Hpl.out];exact hj4)
       have g3:wr.cell? ⟨tb,tt+j,none⟩=some (.int .u8 (tw.getD j 0).toNat):=at8 (HTs.out.below hbj hTi) j (by rw[Htl.out];exact hj4)
       have HT:Hid (a8 (pw.take (j+1)) (tw.take (j+1))=a8 (pw.take j) (tw.take j)++[pw.getD j 0 ^^^ tw.getD j 0]):=mg pw tw j (by rw[Hpl.out];exact hj4) (by rw[Htl.out];exact hj4)
       have HXr:=ae (dV (pw.getD j 0) (tw.getD j 0))
       generalize pw.getD j 0=xx at *
       generalize tw.getD j 0=yy at *
       have HL:Hid (((a8 (pw.take j) (tw.take j)).map V8).length+1≤100000000):=by show _≤_;simp [a8];omega
       have bp:=ae hown
       clear hown
       go_wp2
       have e4:IntKind.i64.wrap ((m:Int)+4 - 4)=(m:Int):=by rw[IntWalk.i64_in _ (by omega)];omega
       have e0:IntKind.i64.wrap (m:Int)=(m:Int):=by rw[IntWalk.i64_in _ (by omega)]
       have b0:(m:Int)<(m:Int)+4:=by omega
       have b1:m<m+4:=by omega
       have b2:(j:Int)<4:=by omega
       have G0:wr.drew.cell? ⟨g,m,none⟩=some (.slice (some ⟨pb,po,none⟩) 4 pc)∧wr.drew.cell? ⟨pb,po+j,none⟩=some (.int .u8 xx.toNat)∧wr.drew.cell? ⟨tb,tt+j,none⟩=some (.int .u8 yy.toNat):=⟨g1,g2,g3⟩
       have G1:∀ o,(wr.alloc o).drew.cell? ⟨g,m,none⟩=some (.slice (some ⟨pb,po,none⟩) 4 pc)∧(wr.alloc o).drew.cell? ⟨pb,po+j,none⟩=some (.int .u8 xx.toNat)∧(wr.alloc o).drew.cell? ⟨tb,tt+j,none⟩=some (.int .u8 yy.toNat):=fun o =>
        ⟨(World.cell?_alloc_lt wr o _ (by show g<_;omega)).trans g1,(World.cell?_alloc_lt wr o _ (by show pb<_;omega)).trans g2,(World.cell?_alloc_lt wr o _ (by show tb<_;omega)).trans g3⟩
       clear g1 g2 g3
       have eH:Hid (∀ o,Own (wr.alloc o).drew wi.heap.size 5 ov ((a8 (pw.take j) (tw.take j)).map V8)):=fun o=>(bp.out.alloc o).drew
       have HG4:Hid (∀ w4,(wr.alloc (.cells #[.int .u8 (bits .xor .u8 (xx.toNat:Int) yy.toNat)] 5)).drew.grownBy w4 ov.ownBlock→w4.cell? ⟨g,m,none⟩=some (.slice (some ⟨pb,po,none⟩) 4 pc)∧w4.cell? ⟨pb,po+j,none⟩=some (.int .u8 xx.toNat)∧w4.cell? ⟨tb,tt+j,none⟩=some (.int .u8 yy.toNat)):=fun w4 hg=>by
        have hBB:Below wi.heap.size (wr.alloc (.cells #[.int .u8 (bits .xor .u8 (xx.toNat:Int) yy.toNat)] 5)).drew w4:=au (Below.refl _ _) (eH.out _) hg (Nat.le_refl _) (by simp;omega)
        obtain ⟨k1,k2,k3⟩:=G1 (.cells #[.int .u8 (bits .xor .u8 (xx.toNat:Int) yy.toNat)] 5)
        exact⟨(hBB.cell (p:=⟨g,m,none⟩) hgi).trans k1,(hBB.cell (p:=⟨pb,po+j,none⟩) hpi).trans k2,(hBB.cell (p:=⟨tb,tt+j,none⟩) hTi).trans k3⟩
       go_region_held3 (fun W=>W.cell? ⟨g,m,none⟩=some (.slice (some ⟨pb,po,none⟩) 4 pc)∧W.cell? ⟨pb,po+j,none⟩=some (.int .u8 xx.toNat)∧W.cell? ⟨tb,tt+j,none⟩=some (.int .u8 yy.toNat)) (first | exact G0 | exact G1 _ | exact G4)
        (first | (refine cK rfl (.tmp 68) (.tmp 82) 22 rfl wi.heap.size 5 Tryz.underlying22 bK rfl (by decide) _ ((a8 (pw.take j) (tw.take j)).map V8) rfl (eH.out _) _ [.int .u8 (bits .xor .u8 (xx.toNat:Int) yy.toNat)] rfl (az wr 5 [.int .u8 (bits .xor .u8 (xx.toNat:Int) yy.toNat)]) (by rw[HXr.out];exact bI [xx ^^^ yy]) HL.out (by simp;omega) ?_;intro v' w2 aC hg2 _;have G4:=HG4.out _ hg2))
       all_goals
        clear G0 G1 G4 HG4 e4 e0 b0 b1 b2
        go_wp2
        go_roundw
        case rel =>
         rw[HXr.out] at aC
         refine⟨j+1,_,rfl,by omega,by go_num,?_,?_⟩
         ·rw[HT.out,List.map_append];exact aC
         ·exact au (hbj.alloc Ks _).drew (eH.out _) hg2 (Nat.le_refl _) (by simp;omega)
        case measure=>simp [intOf];omega
      ·obtain rfl:j=4:=by omega
       rw[show ((4:Nat):Int)=4 from rfl]
       have e1:pw.take 4=pw:=List.take_of_length_le (by rw[Hpl.out];omega)
       have e2:tw.take 4=tw:=List.take_of_length_le (by rw[Htl.out];omega)
       rw[e1,e2] at hown
       clear e1 e2
       have Hxl:Hid ((a8 pw tw).length=4):=dS _ _ 4 Hpl.out Htl.out
       obtain ⟨xg,iB,hform,hxB,hxl,hxc,hxs⟩:=hown.cM (by rw[List.length_map,Hxl.out];omega)
       rw[List.length_map,Hxl.out] at hform hxc
       subst hform
       have HB1:Hid (Below wr.heap.size wr (wr.alloc (.cells #[.slice (some ⟨xg,0,none⟩) 4 iB] 22))):=(Below.refl _ _).alloc (Nat.le_refl _) _
       have HSe:Hid (ah (wr.alloc (.cells #[.slice (some ⟨xg,0,none⟩) 4 iB] 22)) wr.heap.size 0 [.slice (some ⟨xg,0,none⟩) (a8 pw tw).length iB]):=by
        rw[Hxl.out];exact(Row.new wr 22 [.slice (some ⟨xg,0,none⟩) 4 iB]).sees
       have HSp:Hid (ah (wr.alloc (.cells #[.slice (some ⟨xg,0,none⟩) 4 iB] 22)) xg 0 ((a8 pw tw).map V8)):=hxs.below HB1.out hxl
       have HRb:Hid (aR Lo w.heap.size (wr.alloc (.cells #[.slice (some ⟨xg,0,none⟩) 4 iB] 22)) (.slice (some ⟨g,0,none⟩) (m+4) cap) (wkK key (m+4))):=(HRi.out.below hbj).below HB1.out
       have Hc:Hid ((a8 pw tw).length≤iB):=by rw[Hxl.out];exact hxc
       have Hl2:Hid ((wkK key (m+4)).length≤1000):=by rw[dA];show _≤_;omega
       have Hne:Hid ((Value.slice (some ⟨g,0,none⟩) (m+4) cap).ownBlock≠some xg):=by rw[Hob.out];intro h;injection h with h;omega
       have HBz:Hid (Below w.heap.size w (wr.alloc (.cells #[.slice (some ⟨xg,0,none⟩) 4 iB] 22))):=(hbi.trans (hbj.mono hbi.size)).trans (HB1.out.mono (by omega))
       have LD:Hid (w.heap.size≤(wr.alloc (.cells #[.slice (some ⟨xg,0,none⟩) 4 iB] 22)).heap.size):=HBz.out.size
       have Hxa:Hid (xg<(wr.alloc (.cells #[.slice (some ⟨xg,0,none⟩) 4 iB] 22)).heap.size):=by show _<_;simp;omega
       have LC:Hid (Lo≤xg):=by have:=HLo.out.2;show _≤_;omega
       clear hown hxs hxc HRi
       go_wp2_with (at_builtin;refine aX rfl (.tmp 84) (.tmp 86) rfl Lo w.heap.size _ (wkK key (m+4)) rfl HRb.out wr.heap.size 1 xg 0 iB (a8 pw tw) rfl HSe.out Hxa.out LC.out Hne.out Hc.out HSp.out Hl2.out LD.out ?_;intro v' w2 HR2 hb2)
       go_roundw
       case rel =>
        refine⟨m+4+1,_,by omega,by go_num,rfl,Hy,?_,HBz.out.trans hb2⟩
        rw[uZ,← HPW.out,← HTW.out]
        exact HR2
       case measure=>simp [intOf];omega
   ·obtain rfl:m=40:=by omega
    rw[show ((40:Nat):Int)+4=44 from rfl]
    go_wp2
    go_ret
    exact⟨_,rfl,HR,ak⟩
end Go.Proofs.YthbmknpbcgnabaaGreatDoor
