/- Of the walk. -/
import Derived.Lib.SmallJoins
import Derived.Test.YthbmknpbcgnabaaGreatDoorB07
set_option maxHeartbeats 40000000
section
namespace Go.Proofs.YthbmknpbcgnabaaGreatDoor.Hm
open Go.RowKit Sha
def ed (w:World) (p:Value) (key:List UInt8):Prop :=
 ∃ g kb kc rb rc cb cc,p=.pointer (some ⟨g,0,none⟩)∧g<w.heap.size∧ah w g 0 [.slice (some ⟨kb,0,none⟩) 64 kc,.slice (some ⟨rb,0,none⟩) 8 rc,.slice (some ⟨cb,0,none⟩) 64 cc]
  ∧ kb<w.heap.size∧64≤kc∧ah w kb 0 ((bf key).map V8)∧rb<w.heap.size∧ah w rb 0 (R0.list.map V32)∧cb<w.heap.size∧ah w cb 0 (K0.map V32)
theorem ed.below {w w':World} {p:Value} {key:List UInt8} (h:ed w p key) (hb:Below w.heap.size w w'):ed w' p key:=by
 obtain ⟨g,kb,kc,rb,rc,cb,cc,e,h1,h2,h3,h4,h5,h6,h7,h8,h9⟩:=h
 have hs:=hb.size
 exact⟨g,kb,kc,rb,rc,cb,cc,e,by omega,h2.below hb h1,by omega,h4,h5.below hb h3,by omega,h7.below hb h6,by omega,h9.below hb h8⟩
def j0 (w:World) (B:Nat) (p:Value) (key:List UInt8):Prop :=
 ∃ g kb kc rb rc cb cc,p=.pointer (some ⟨g,0,none⟩)∧(g<w.heap.size∧ah w g 0 [.slice (some ⟨kb,0,none⟩) 64 kc,.slice (some ⟨rb,0,none⟩) 8 rc,.slice (some ⟨cb,0,none⟩) 64 cc]
  ∧ kb<w.heap.size∧64≤kc∧ah w kb 0 ((bf key).map V8)∧rb<w.heap.size∧ah w rb 0 (R0.list.map V32)∧cb<w.heap.size∧ah w cb 0 (K0.map V32))∧B≤g∧B≤kb∧B≤rb∧B≤cb
theorem j0.at {w:World} {B:Nat} {p:Value} {key:List UInt8} (h:j0 w B p key):ed w p key:=by
 obtain ⟨g,kb,kc,rb,rc,cb,cc,e,h,_⟩:=h
 exact⟨g,kb,kc,rb,rc,cb,cc,e,h⟩
theorem vO {w:World} {B:Nat} {key:List UInt8} {kb kc rb rc cb cc:Nat} (h5:ah w kb 0 ((bf key).map V8)) (h3:kb<w.heap.size) (h4:64≤kc) (h7:ah w rb 0 (R0.list.map V32)) (h6:rb<w.heap.size) (h9:ah w cb 0 (K0.map V32)) (h8:cb<w.heap.size) (hB:B≤w.heap.size) (b1:B≤kb) (b2:B≤rb) (b3:B≤cb) :
  j0 (w.alloc (.cells #[.slice (some ⟨kb,0,none⟩) 64 kc,.slice (some ⟨rb,0,none⟩) 8 rc,.slice (some ⟨cb,0,none⟩) 64 cc] 162)) B (.pointer (some ⟨w.heap.size,0,none⟩)) key :=
 ⟨w.heap.size,kb,kc,rb,rc,cb,cc,rfl,⟨by simp,(Row.new w 162 [.slice (some ⟨kb,0,none⟩) 64 kc,.slice (some ⟨rb,0,none⟩) 8 rc,.slice (some ⟨cb,0,none⟩) 64 cc]).sees,by simp;omega,h4,h5.alloc h3 _,by simp;omega,h7.alloc h6 _,by simp;omega,h9.alloc h8 _⟩,hB,b1,b2,b3⟩
theorem r8 (j:Nat) (l:List UInt8) (h:l.length≤j):aS (j+1) l=aS j l++[0]:=by
 unfold aS
 rw[List.append_assoc,show j+1 - l.length=(j - l.length)+1 by omega,List.replicate_succ']
def lenOf:Value→Nat
 | .slice _ n _=>n
 | _=>0
set_option maxRecDepth 100000
theorem CD (A:Option Addr) (n cap:Nat) (key:List UInt8) (hl:key.length=n) (hn:n≤64) (w:World) (h:Arg w (.slice A n cap) key) :
  Calls Tryz.prog 40 #[.slice A n cap] w fun e w'=>∃ p,e=.returned p∧j0 w' w.heap.size p key∧Below w.heap.size w w':=by
 have HA:=ae h
 have HL:=ae hl
 clear h hl
 go_enter Tryz.func40,Tryz.ntmps40
 go_wp2_with fail
 refine(lD w).mono ?_
 rintro e w1 ⟨r,c,rfl,hr,hc,hb1⟩
 obtain ⟨gr,c1,hv1,EZ,hl1,hs1⟩:=hr.form (by simp [St.list])
 obtain ⟨gc,c2,hv2,E1,hl2,hs2⟩:=hc.form (by rw[List.length_map];exact Nat.lt_of_lt_of_eq (by omega) gi.symm)
 rw[List.length_map,show R0.list.length=8 from rfl] at hv1
 rw[List.length_map,gi] at hv2
 rw[hv1,hv2]
 have jf:=hb1.size
 have Hs1:=ae hs1
 have Hs2:=ae hs2
 have Hbr:=ae EZ
 have Hbc:=ae E1
 clear hv1 hv2 hr hc hs1 hs2 EZ E1
 have HFr:Hid (bq (w1.alloc (.cells #[] 5)) (.slice A n cap) (key.map V8)):=(dy (HA.out.below hb1)).alloc _
 have HO:Hid (Own (w1.alloc (.cells #[] 5)) w1.heap.size 5 (.slice (some ⟨w1.heap.size,0,none⟩) 0 0) []):=Own.lit w1 _ _ [] (Nat.le_refl _) (by decide)
 have H1:=ae (bI key)
 have HLn:Hid (([]:List Value).length+(key.map V8).length≤100000000):=by show _≤_;rw[List.length_map,HL.out];simp;omega
 go_wp2_with (at_builtin;refine aA rfl (.tmp 10) (.tmp 11) 22 rfl w1.heap.size 5 Tryz.underlying22 bK rfl (by decide) _ [] rfl HO.out _ (key.map V8) rfl HFr.out H1.out HLn.out (by simp) ?_;intro v2 w2 aC hg2 _;rw[List.nil_append] at aC;obtain ⟨A2,c2',hv2⟩:=aC.shape;rw[List.length_map,HL.out] at hv2;have hb2:Below w1.heap.size w1 w2:=iv hg2;have HO2:=ae aC;have HB2:=ae hb2;rw[hv2] at HO2 ⊢;have kC:=hb2.size;clear aC hg2 hv2 hb2)
 obtain ⟨k0,hk0⟩:∃ k0,k0=key:=⟨_,rfl⟩
 rw[← hk0] at HO2
 have HK0:Hid (k0.length≤64):=by rw[hk0,HL.out];exact hn
 have HF:Hid (bf key=aS 64 k0):=by show _=_;rw[bf,if_neg (by rw[HL.out];omega),hk0]
 clear hk0 HFr HO H1 HLn
 go_loopw [5] (fun v wr=>∃ j:Nat,k0.length≤j∧j≤64∧Own wr w1.heap.size 5 v ((aS j k0).map V8)∧Below w1.heap.size w1 wr) (fun v _=>64 - lenOf v)
 case atStart=>exact⟨k0.length,Nat.le_refl _,HK0.out,by rw[ix];exact HO2.out,HB2.out⟩
 case round =>
  obtain ⟨j,hj0,hj,hown,ak⟩:=hrel
  have dD:=ak.size
  obtain ⟨A5,c5,hv5⟩:=hown.shape
  rw[List.length_map,aB _ _ hj0] at hv5
  by_cases hlt:j<64
  ·rw[hv5] at hown ⊢
   have bp:=ae hown
   have HN:=ae (r8 j k0 hj0)
   have HL:Hid (((aS j k0).map V8).length+1≤100000000):=by show _≤_;rw[List.length_map,aB _ _ hj0];omega
   clear hown hv5
   go_wp2_with (at_builtin;refine aA rfl (.tmp 23) (.tmp 24) 22 rfl w1.heap.size 5 Tryz.underlying22 bK rfl (by decide) _ ((aS j k0).map V8) rfl (bp.out.alloc _) _ [.int .u8 0] rfl (az wr 5 [.int .u8 0]) (bI [0]) HL.out (by simp;omega) ?_;intro v' w3 aF hg3 _)
   obtain ⟨A6,c6,hv6⟩:=aF.shape
   have Hl6:Hid (lenOf v'=j+1):=by
    show _=_
    rw[hv6,lenOf,List.length_append,List.length_map,aB _ _ hj0]
    rfl
   go_roundw
   case rel =>
    refine⟨j+1,by omega,by omega,?_,?_⟩
    ·rw[HN.out,List.map_append];exact aF
    ·exact au (ak.alloc dD _) (bp.out.alloc _) hg3 (Nat.le_refl _) (by simp;omega)
   case measure=>rw[Hl6.out];simp only [lenOf];omega
  ·obtain rfl:j=64:=by omega
   have hk5:=hown.cM (by rw[List.length_map,aB _ _ hj0];omega)
   rw[List.length_map,aB _ _ hj0] at hk5
   obtain ⟨g5,cc5,hv,hb5,hgl,hcap,cd⟩:=hk5
   rw[hv]
   have HS5:Hid (ah wr g5 0 ((bf key).map V8)):=by rw[HF.out];exact cd
   have HSr:Hid (ah wr gr 0 (R0.list.map V32)):=Hs1.out.below ak hl1
   have HSc:Hid (ah wr gc 0 (K0.map V32)):=Hs2.out.below ak hl2
   have hbw:Below w.heap.size w wr:=hb1.trans (ak.mono hb1.size)
   have HBW:Hid (Below w.heap.size w (wr.alloc (.cells #[.slice (some ⟨g5,0,none⟩) 64 cc5,.slice (some ⟨gr,0,none⟩) 8 c1,.slice (some ⟨gc,0,none⟩) 64 c2] 162))):=hbw.alloc hbw.size _
   clear hown hv hv5 cd ak hbw
   go_wp2
   go_ret
   exact⟨_,rfl,vO HS5.out hgl hcap HSr.out (by omega) HSc.out (by omega) (by omega) (by omega) Hbr.out Hbc.out,HBW.out⟩
theorem FE (A:Option Addr) (n cap:Nat) (key:List UInt8) (hl:key.length=n) (hn:64<n∧n≤1000000) (w:World) (h:Arg w (.slice A n cap) key) :
  Calls Tryz.prog 40 #[.slice A n cap] w fun e w'=>∃ p,e=.returned p∧j0 w' w.heap.size p key∧Below w.heap.size w w':=by
 have HA:=ae h
 have HL:=ae hl
 clear h hl
 go_enter Tryz.func40,Tryz.ntmps40
 go_wp2_with fail
 refine(lD w).mono ?_
 rintro e w1 ⟨r,c,rfl,hr,hc,hb1⟩
 obtain ⟨gr,c1,hv1,EZ,hl1,hs1⟩:=hr.form (by simp [St.list])
 obtain ⟨gc,c2,hv2,E1,hl2,hs2⟩:=hc.form (by rw[List.length_map];exact Nat.lt_of_lt_of_eq (by omega) gi.symm)
 rw[List.length_map,show R0.list.length=8 from rfl] at hv1
 rw[List.length_map,gi] at hv2
 rw[hv1,hv2]
 have jf:=hb1.size
 have Hs1:=ae hs1
 have Hs2:=ae hs2
 have Hbr:=ae EZ
 have Hbc:=ae E1
 clear hv1 hv2 hr hc hs1 hs2 EZ E1
 have HFr:Hid (bq (w1.alloc (.cells #[] 5)) (.slice A n cap) (key.map V8)):=(dy (HA.out.below hb1)).alloc _
 have HO:Hid (Own (w1.alloc (.cells #[] 5)) w1.heap.size 5 (.slice (some ⟨w1.heap.size,0,none⟩) 0 0) []):=Own.lit w1 _ _ [] (Nat.le_refl _) (by decide)
 have H1:=ae (bI key)
 have HLn:Hid (([]:List Value).length+(key.map V8).length≤100000000):=by show _≤_;rw[List.length_map,HL.out];simp;omega
 go_wp2_with (at_builtin;refine aA rfl (.tmp 10) (.tmp 11) 22 rfl w1.heap.size 5 Tryz.underlying22 bK rfl (by decide) _ [] rfl HO.out _ (key.map V8) rfl HFr.out H1.out HLn.out (by simp) ?_;intro v2 w2 aC hg2 _;rw[List.nil_append] at aC;obtain ⟨A2,c2',hv2⟩:=aC.shape;rw[List.length_map,HL.out] at hv2;have hb2:Below w1.heap.size w1 w2:=iv hg2;have HO2:=ae aC;have HB2:=ae hb2;rw[hv2] at HO2 ⊢;have kC:=hb2.size;clear aC hg2 hv2 hb2)
 have HF2:Hid (bq w2 (.slice A2 n c2') (key.map V8)):=Own.from_ HO2.out
 refine(qE A2 n c2' key HL.out (by omega) gr 0 c1 R0 gc 0 c2 K0 gi w2 HF2.out (by omega) (Hs1.out.below HB2.out hl1) (by omega) (Hs2.out.below HB2.out hl2)).mono ?_
 rintro e w3 ⟨v3,rfl,aF,hb3⟩
 obtain ⟨k0,hk0⟩:∃ k0,k0=dg key:=⟨_,rfl⟩
 have HO3:Hid (Own w3 w1.heap.size 5 v3 (k0.map V8)):=by rw[hk0];exact Own.base aF kC
 have HB3:Hid (Below w1.heap.size w1 w3):=HB2.out.trans (hb3.mono kC)
 clear HO2 HB2 aF hb3
 have HO2:=HO3
 have HB2:=HB3
 clear HO3 HB3
 have HK0:Hid (k0.length≤64):=by rw[hk0,iz];show _≤_;omega
 have HF:Hid (bf key=aS 64 k0):=by show _=_;rw[bf,if_pos (by rw[HL.out];omega),hk0]
 clear hk0 HFr HO H1 HLn HF2
 go_wp2
 go_loopw [5] (fun v wr=>∃ j:Nat,k0.length≤j∧j≤64∧Own wr w1.heap.size 5 v ((aS j k0).map V8)∧Below w1.heap.size w1 wr) (fun v _=>64 - lenOf v)
 case atStart=>exact⟨k0.length,Nat.le_refl _,HK0.out,by rw[ix];exact HO2.out,HB2.out⟩
 case round =>
  obtain ⟨j,hj0,hj,hown,ak⟩:=hrel
  have dD:=ak.size
  obtain ⟨A5,c5,hv5⟩:=hown.shape
  rw[List.length_map,aB _ _ hj0] at hv5
  by_cases hlt:j<64
  ·rw[hv5] at hown ⊢
   have bp:=ae hown
   have HN:=ae (r8 j k0 hj0)
   have HL:Hid (((aS j k0).map V8).length+1≤100000000):=by show _≤_;rw[List.length_map,aB _ _ hj0];omega
   clear hown hv5
   go_wp2_with (at_builtin;refine aA rfl (.tmp 23) (.tmp 24) 22 rfl w1.heap.size 5 Tryz.underlying22 bK rfl (by decide) _ ((aS j k0).map V8) rfl (bp.out.alloc _) _ [.int .u8 0] rfl (az wr 5 [.int .u8 0]) (bI [0]) HL.out (by simp;omega) ?_;intro v' w3 aF hg3 _)
   obtain ⟨A6,c6,hv6⟩:=aF.shape
   have Hl6:Hid (lenOf v'=j+1):=by
    show _=_
    rw[hv6,lenOf,List.length_append,List.length_map,aB _ _ hj0]
    rfl
   go_roundw
   case rel =>
    refine⟨j+1,by omega,by omega,?_,?_⟩
    ·rw[HN.out,List.map_append];exact aF
    ·exact au (ak.alloc dD _) (bp.out.alloc _) hg3 (Nat.le_refl _) (by simp;omega)
   case measure=>rw[Hl6.out];simp only [lenOf];omega
  ·obtain rfl:j=64:=by omega
   have hk5:=hown.cM (by rw[List.length_map,aB _ _ hj0];omega)
   rw[List.length_map,aB _ _ hj0] at hk5
   obtain ⟨g5,cc5,hv,hb5,hgl,hcap,cd⟩:=hk5
   rw[hv]
   have HS5:Hid (ah wr g5 0 ((bf key).map V8)):=by rw[HF.out];exact cd
   have HSr:Hid (ah wr gr 0 (R0.list.map V32)):=Hs1.out.below ak hl1
   have HSc:Hid (ah wr gc 0 (K0.map V32)):=Hs2.out.below ak hl2
   have hbw:Below w.heap.size w wr:=hb1.trans (ak.mono hb1.size)
   have HBW:Hid (Below w.heap.size w (wr.alloc (.cells #[.slice (some ⟨g5,0,none⟩) 64 cc5,.slice (some ⟨gr,0,none⟩) 8 c1,.slice (some ⟨gc,0,none⟩) 64 c2] 162))):=hbw.alloc hbw.size _
   clear hown hv hv5 cd ak hbw
   go_wp2
   go_ret
   exact⟨_,rfl,vO HS5.out hgl hcap HSr.out (by omega) HSc.out (by omega) (by omega) (by omega) Hbr.out Hbc.out,HBW.out⟩
set_option maxRecDepth 512
theorem wU (v:Value) (key:List UInt8) (hn:key.length≤1000000) (w:World) (h:Arg w v key) :
  Calls Tryz.prog 40 #[v] w fun e w'=>∃ p,e=.returned p∧j0 w' w.heap.size p key∧Below w.heap.size w w':=by
 obtain ⟨A,cap,rfl⟩:=h.form
 rcases Nat.lt_or_ge 64 key.length with hl | hl
 ·exact FE A _ cap key rfl ⟨hl,hn⟩ w h
 ·exact CD A _ cap key rfl hl w h
theorem IL (v:Value) (key:List UInt8) (hn:key.length≤1000000) (w:World) (h:Arg w v key) :
  Calls Tryz.prog 40 #[v] w fun e w'=>∃ p,e=.returned p∧ed w' p key∧Below w.heap.size w w' :=
 (wU v key hn w h).mono fun _ _ ⟨p,e,hk,hb⟩=>⟨p,e,hk.at,hb⟩
end Go.Proofs.YthbmknpbcgnabaaGreatDoor.Hm
end
section
namespace Go.Proofs.YthbmknpbcgnabaaGreatDoor.Hm
open Go.RowKit Sha
set_option maxRecDepth 100000
theorem CY (p:Value) (key:List UInt8) (m:UInt8) (w:World) (h:ed w p key) :
  Calls Tryz.prog 81 #[p,.int .u8 m.toNat] w fun e w'=>∃ v,e=.returned v∧Own w' w.heap.size 5 v ((dZ (bf key) m).map V8)∧Below w.heap.size w w':=by
 obtain ⟨g,kb,kc,rb,rc,cb,cc,rfl,hg,hs,hkb,hkc,hk,_⟩:=h
 have HC:Hid (w.cell? ⟨g,0,none⟩=some (.slice (some ⟨kb,0,none⟩) 64 kc)):=hs 0 _ rfl
 have HK:=ae hk
 have HKl:=ae (il key)
 clear hs hk
 generalize bf key=k at *
 go_enter Tryz.func81,Tryz.ntmps81
 go_wp2
 go_loopw [5,6] (fun v i wr=>∃ j:Nat,j≤64∧i=.int .i64 j∧Own wr w.heap.size 5 v ((dZ (k.take j) m).map V8)∧Below w.heap.size w wr) (fun _ i _=>64 - (intOf i).toNat)
 case atStart=>exact⟨0,by omega,rfl,Own.nil _ _ _,Below.refl _ _⟩
 case round =>
  obtain ⟨j,hj,rfl,hown,ak⟩:=hrel
  have dD:=ak.size
  by_cases hlt:j<64
  ·have hc:wr.cell? ⟨g,0,none⟩=some (.slice (some ⟨kb,0,none⟩) 64 kc):=(World.cell?_of_block (w:=w) (ak.block g hg)).trans HC.out
   have hx:wr.cell? ⟨kb,j,none⟩=some (.int .u8 (k.getD j 0).toNat):=by
    have:=at8 (HK.out.below ak hkb) j (by rw[HKl.out];exact hlt)
    rwa [Nat.zero_add] at this
   have HT2:=ae (rE k m j (by rw[HKl.out];exact hlt))
   have HXr:=ae (dV (k.getD j 0) m)
   have HL:Hid (((dZ (k.take j) m).map V8).length+1≤100000000):=by show _≤_;rw[List.length_map,gu,List.length_take];omega
   generalize k.getD j 0=x at *
   have bp:=ae hown
   clear hown
   go_wp2_with (at_builtin;refine aA rfl (.tmp 11) (.tmp 21) 22 rfl w.heap.size 5 Tryz.underlying22 bK rfl (by decide) _ ((dZ (k.take j) m).map V8) rfl (bp.out.alloc _) _ [.int .u8 (bits .xor .u8 (x.toNat:Int) m.toNat)] rfl (az wr 5 [.int .u8 (bits .xor .u8 (x.toNat:Int) m.toNat)]) (by rw[HXr.out];exact bI [x ^^^ m]) HL.out (by simp;omega) ?_;intro v' w2 aC hg2 _)
   go_roundw
   case rel =>
    refine⟨j+1,by omega,by go_num,?_,?_⟩
    ·rw[HXr.out] at aC
     rw[HT2.out,List.map_append];exact aC
    ·exact au (ak.alloc (by omega) _) (bp.out.alloc _) hg2 (Nat.le_refl _) (by simp;omega)
   case measure=>simp [intOf];omega
  ·obtain rfl:j=64:=by omega
   rw[show ((64:Nat):Int)=64 from rfl]
   rw[List.take_of_length_le (by rw[HKl.out];omega)] at hown
   have bp:=ae hown
   clear hown
   go_wp2
   go_ret
   exact⟨_,rfl,bp.out,ak⟩
theorem gp (A:Option Addr) (n cap:Nat) (ps:List (List UInt8)) (hs:Small ps) (w:World) (h:dz w (.slice A n cap) ps) :
  Calls Tryz.prog 42 #[.slice A n cap] w fun e w'=>∃ v,e=.returned v∧Own w' w.heap.size 5 v ((joined ps).map V8)∧Below w.heap.size w w':=by
 have HS:=ae hs
 have HP:=ae h
 have HL:=ae h.len
 have hn:n≤100:=by rw[← h.len];exact hs.1
 clear hs h
 go_enter Tryz.func42,Tryz.ntmps42
 go_wp2
 go_loopw [3,4,5] (fun t i _ wr=>∃ k:Nat,k≤n∧i=.int .i64 k∧Own wr w.heap.size 5 t ((joined (ps.take k)).map V8)∧Below w.heap.size w wr) (fun _ i _ _=>n - (intOf i).toNat)
 case atStart=>exact⟨0,by omega,rfl,Own.nil _ _ _,Below.refl _ _⟩
 case round =>
  obtain ⟨k,hk,rfl,hown,ak⟩:=hrel
  have dD:=ak.size
  have bp:=ae hown
  clear hown
  by_cases hlt:k<n
  ·obtain ⟨b,o,A',c',p,rfl,hbl,hpj,nz,ri⟩:=HP.out.at_ k hlt
   have hcell:wr.cell? ⟨b,o+k,none⟩=some (.slice A' p.length c'):=(World.cell?_of_block (w:=w) (ak.block b hbl)).trans nz
   have hpl:p.length≤1000:=HS.out.part hpj
   have HT:=ae (om ps k p hpj)
   have HA:=ae ri
   have HC0:=ae nz
   clear hpj ri nz
   obtain ⟨m,hm⟩:∃ m,m=p.length:=⟨_,rfl⟩
   rw[← hm] at hcell hpl HA HT HC0
   have HM:=ae hm
   clear hm
   have HF4:=ae (pW m hpl)
   have HL1:Hid (((joined (ps.take k)).map V8).length+4≤100000000):=by show _≤_;rw[List.length_map];have:=HS.out.take k;omega
   have HL2:Hid (((joined (ps.take k)).map V8++(pX m).map V8).length+(p.map V8).length≤100000000):=by show _≤_;rw[List.length_append,List.length_map,List.length_map,List.length_map,og,← HM.out];have:=HS.out.take k;omega
   have H1:=ae (bI p)
   go_wp2_with (at_builtin;first
    | (refine aA rfl (.tmp 17) (.tmp 29) 22 rfl w.heap.size 5 Tryz.underlying22 bK rfl (by decide) _ ((joined (ps.take k)).map V8) rfl (bp.out.alloc _) _ [.int .u8 ((m:Int) / 16777216),.int .u8 ((m:Int) / 65536),.int .u8 ((m:Int) / 256),.int .u8 ((m:Int) % 256)] rfl (az wr 5 [.int .u8 ((m:Int) / 16777216),.int .u8 ((m:Int) / 65536),.int .u8 ((m:Int) / 256),.int .u8 ((m:Int) % 256)]) (by rw[HF4.out];exact bI _) HL1.out (by simp;omega) ?_;intro v2 w2 aC hg2 _;rw[HF4.out] at aC;have eH:=ae aC;have hb2:Below w.heap.size w w2:=au (ak.alloc dD _) (bp.out.alloc _) hg2 (Nat.le_refl _) (by simp;omega);have kC:=hb2.size;have HF2:Hid (bq w2 (.slice A' m c') (p.map V8)):=dy (HA.out.below hb2);have Qs:w2.cell? ⟨b,o+k,none⟩=some (.slice A' m c'):=(World.cell?_of_block (w:=w) (hb2.block b hbl)).trans HC0.out;clear aC hg2)
    | (refine aA rfl (.tmp 31) (.tmp 35) 22 rfl w.heap.size 5 Tryz.underlying22 bK rfl (by decide) _ ((joined (ps.take k)).map V8++(pX m).map V8) rfl eH.out _ (p.map V8) rfl HF2.out H1.out HL2.out (by omega) ?_;intro v3 w3 aF hg3 _))
   go_roundw
   case rel =>
    refine⟨k+1,by omega,by go_num,?_,?_⟩
    ·rw[HT.out,List.map_append,List.map_append,← List.append_assoc];exact aF
    ·exact au hb2 eH.out hg3 (Nat.le_refl _) (by omega)
   case measure=>simp [intOf];omega
  ·obtain rfl:k=n:=by omega
   have jg:ps.take k=ps:=List.take_of_length_le (by rw[HL.out];omega)
   rw[jg] at bp
   clear jg
   go_wp2
   go_ret
   exact⟨_,rfl,bp.out,ak⟩
end Go.Proofs.YthbmknpbcgnabaaGreatDoor.Hm
end
section
namespace Go.Proofs.YthbmknpbcgnabaaGreatDoor.Hm
open Go.RowKit Sha
theorem yO (v:Value) (bs:List UInt8) (hl:bs.length≤1000000) (rb rc cb cc:Nat) (w:World) (hv:Arg w v bs)
  (hrl:rb<w.heap.size) (hr:ah w rb 0 (R0.list.map V32)) (hcl:cb<w.heap.size) (hc:ah w cb 0 (K0.map V32)) :
  Calls Tryz.prog 80 #[v,.slice (some ⟨rb,0,none⟩) 8 rc,.slice (some ⟨cb,0,none⟩) 64 cc] w fun e w' =>
   ∃ v,e=.returned v∧Own w' w.heap.size 5 v ((dg bs).map V8)∧Below w.heap.size w w':=by
 obtain ⟨A,cap,rfl⟩:=hv.form
 exact qE A _ cap bs rfl hl rb 0 rc R0 cb 0 cc K0 gi w (dy hv) hrl hr hcl hc
def dQ (g rb rc cb cc:Nat) (W:World):Prop :=
 W.cell? ⟨g,1,none⟩=some (.slice (some ⟨rb,0,none⟩) 8 rc)∧W.cell? ⟨g,2,none⟩=some (.slice (some ⟨cb,0,none⟩) 64 cc)
def sM (w:World) (g rb rc cb cc:Nat) (key:List UInt8):Prop :=
 ed w (.pointer (some ⟨g,0,none⟩)) key∧g<w.heap.size∧dQ g rb rc cb cc w∧rb<w.heap.size∧ah w rb 0 (R0.list.map V32)∧cb<w.heap.size∧ah w cb 0 (K0.map V32)
theorem ed.named {w:World} {p:Value} {key:List UInt8} (h:ed w p key):∃ g rb rc cb cc,p=.pointer (some ⟨g,0,none⟩)∧sM w g rb rc cb cc key:=by
 have h0:=h
 obtain ⟨g,kb,kc,rb,rc,cb,cc,rfl,h1,h2,h3,h4,h5,h6,h7,h8,h9⟩:=h
 exact⟨g,rb,rc,cb,cc,rfl,h0,h1,⟨h2 1 _ rfl,h2 2 _ rfl⟩,h6,h7,h8,h9⟩
theorem dQ.below {g rb rc cb cc:Nat} {w w':World} (h:dQ g rb rc cb cc w) (hg:g<w.heap.size) (hb:Below w.heap.size w w'):dQ g rb rc cb cc w' :=
 ⟨(World.cell?_of_block (w:=w) (hb.block g hg)).trans h.1,(World.cell?_of_block (w:=w) (hb.block g hg)).trans h.2⟩
theorem sM.below {w w':World} {g rb rc cb cc:Nat} {key:List UInt8} (h:sM w g rb rc cb cc key) (hb:Below w.heap.size w w'):sM w' g rb rc cb cc key:=by
 obtain ⟨h1,h2,h3,h4,h5,h6,h7⟩:=h
 have hs:=hb.size
 exact⟨h1.below hb,by omega,h3.below h2 hb,by omega,h5.below hb h4,by omega,h7.below hb h6⟩
theorem vN {w:World} {g rb rc cb cc:Nat} {key:List UInt8} (h:sM w g rb rc cb cc key) (m:UInt8) (u:Value) (bs:List UInt8) (hu:Arg w u bs) :
  Calls Tryz.prog 81 #[.pointer (some ⟨g,0,none⟩),.int .u8 m.toNat] w.drew fun e w1=>∃ v1,e=.returned v1∧Hid (Own w1 w.heap.size 5 v1 ((dZ (bf key) m).map V8))∧Hid (bq w1 u (bs.map V8))∧dQ g rb rc cb cc w1∧Hid (Below w.heap.size w w1) :=
 (CY _ key m w.drew h.1).mono fun e w1 ⟨v1,he,ho,hb'⟩=>by
  have hb:Below w.heap.size w w1:=⟨hb'.os,hb'.tape,hb'.output,hb'.size,hb'.block⟩
  exact⟨v1,he,ho,dy (hu.below hb),h.2.2.1.below h.2.1 hb,hb⟩
theorem pZ {w:World} {g rb rc cb cc:Nat} {key:List UInt8} (h:sM w g rb rc cb cc key) (xs:List UInt8) (hl:xs.length≤1000000) (v2:Value) (w2:World) (ho:Own w2 w.heap.size 5 v2 (xs.map V8)) (hb2:Below w.heap.size w w2) :
  Calls Tryz.prog 80 #[v2,.slice (some ⟨rb,0,none⟩) 8 rc,.slice (some ⟨cb,0,none⟩) 64 cc] w2 fun e w3=>∃ v3,e=.returned v3∧Hid (Own w3 w.heap.size 5 v3 ((dg xs).map V8))∧dQ g rb rc cb cc w3∧Hid (Below w.heap.size w w3):=by
 obtain ⟨_,h2,h3,h4,h5,h6,h7⟩:=h.below hb2
 refine(yO v2 xs hl rb rc cb cc w2 ho.arg h4 h5 h6 h7).mono fun e w3 ⟨v3,he,ho3,hb3⟩=>?_
 exact⟨v3,he,Own.base ho3 hb2.size,h3.below h2 hb3,hb2.trans (hb3.mono hb2.size)⟩
theorem dQ.app {g rb rc cb cc:Nat} {w w1 w2:World} {v:Value} {ys:List Value} (h:dQ g rb rc cb cc w1) (hg:g<w.heap.size) (ho:Own w1 w.heap.size 5 v ys) (hs:w.heap.size≤w1.heap.size) (hgr:w1.grownBy w2 v.ownBlock):dQ g rb rc cb cc w2 :=
 ⟨qq ho hgr hs hg h.1,qq ho hgr hs hg h.2⟩
set_option maxRecDepth 100000
theorem jF (p:Value) (key:List UInt8) (u:Value) (bs:List UInt8) (hn:bs.length≤900000) (w:World) (hk:ed w p key) (hu:Arg w u bs) :
  Calls Tryz.prog 41 #[p,u] w fun e w'=>∃ v,e=.returned v∧Own w' w.heap.size 5 v ((mac key bs).map V8)∧Below w.heap.size w w':=by
 obtain ⟨g,rb,rc,cb,cc,rfl,hin⟩:=hk.named
 have HI:=ae hin
 have hg:=hin.2.1
 have hxl:=gu (bf key) 54
 rw[il] at hxl
 have HLs:Hid ((dZ (bf key) 54++bs).length≤1000000):=by show _≤_;rw[List.length_append,hxl];omega
 have HW:=ae (vN hin 54 u bs hu)
 have HSm:Hid (∀ v2 w2,Own w2 w.heap.size 5 v2 ((dZ (bf key) 54).map V8++bs.map V8)→Below w.heap.size w w2→Calls Tryz.prog 80 #[v2,.slice (some ⟨rb,0,none⟩) 8 rc,.slice (some ⟨cb,0,none⟩) 64 cc] w2 fun e w3=>∃ v3,e=.returned v3∧Hid (Own w3 w.heap.size 5 v3 ((dg (dZ (bf key) 54++bs)).map V8))∧dQ g rb rc cb cc w3∧Hid (Below w.heap.size w w3)) :=
  fun v2 w2 ho hb=>pZ hin (dZ (bf key) 54++bs) HLs.out v2 w2 (by rw[List.map_append];exact ho) hb
 have H1:=ae (bI bs)
 have HL:Hid (((dZ (bf key) 54).map V8).length+(bs.map V8).length≤100000000):=by show _≤_;rw[List.length_map,List.length_map,hxl];omega
 have hS0:w.drew.cell? ⟨g,1,none⟩=some (.slice (some ⟨rb,0,none⟩) 8 rc)∧w.drew.cell? ⟨g,2,none⟩=some (.slice (some ⟨cb,0,none⟩) 64 cc):=hin.2.2.1
 have HSz:=ae (Nat.le_refl w.heap.size)
 clear hk hin hu hxl hn
 go_enter Tryz.func41,Tryz.ntmps41
 go_wp2
 go_region_held3 (fun W=>W.cell? ⟨g,1,none⟩=some (.slice (some ⟨rb,0,none⟩) 8 rc)∧W.cell? ⟨g,2,none⟩=some (.slice (some ⟨cb,0,none⟩) 64 cc)) (first | exact hS0 | exact hS1 | exact hS2 | exact hS3)
  (first
   | (go_at_call 81;refine HW.out.mono ?_;rintro e w1 ⟨v1,rfl,HO1,HF1,hS1,HB1⟩)
   | (refine cK rfl (.tmp 7) (.tmp 8) 22 rfl w.heap.size 5 Tryz.underlying22 bK rfl (by decide) _ ((dZ (bf key) 54).map V8) rfl HO1.out _ (bs.map V8) rfl HF1.out H1.out HL.out HB1.out.size ?_;intro v2 w2 aC hg2 _;have hS2:=dQ.app hS1 hg HO1.out HB1.out.size hg2;have HB2:=ae (au HB1.out HO1.out hg2 (Nat.le_refl _) HB1.out.size);have HO2:=ae aC;clear aC hg2)
   | (go_at_call 80;refine(HSm.out _ _ HO2.out HB2.out).mono ?_;rintro e w3 ⟨v3,rfl,HO3,hS3,HB3⟩))
 have uf:=HI.out.below HB3.out
 have hu3:=HO3.out.arg
 have hd:=iz (dZ (bf key) 54++bs)
 have HM:Hid (mac key bs=dg (dZ (bf key) 92++dg (dZ (bf key) 54++bs))):=rfl
 generalize dg (dZ (bf key) 54++bs)=d at *
 clear HW HSm H1 HL hS0 hS1 hS2 hS3 HO1 HF1 HB1 HO2 HB2 HO3 HI HLs
 have hg3:g<w3.heap.size:=uf.2.1
 have hxl:=gu (bf key) 92
 rw[il] at hxl
 have HLs:Hid ((dZ (bf key) 92++d).length≤1000000):=by show _≤_;rw[List.length_append,hxl,hd];omega
 have HW:=ae (vN uf 92 v3 d hu3)
 have HSm:Hid (∀ v2 w2,Own w2 w3.heap.size 5 v2 ((dZ (bf key) 92).map V8++d.map V8)→Below w3.heap.size w3 w2→Calls Tryz.prog 80 #[v2,.slice (some ⟨rb,0,none⟩) 8 rc,.slice (some ⟨cb,0,none⟩) 64 cc] w2 fun e w4=>∃ v4,e=.returned v4∧Hid (Own w4 w3.heap.size 5 v4 ((dg (dZ (bf key) 92++d)).map V8))∧dQ g rb rc cb cc w4∧Hid (Below w3.heap.size w3 w4)) :=
  fun v2 w2 ho hb=>pZ uf (dZ (bf key) 92++d) HLs.out v2 w2 (by rw[List.map_append];exact ho) hb
 have H1:=ae (bI d)
 have HL:Hid (((dZ (bf key) 92).map V8).length+(d.map V8).length≤100000000):=by show _≤_;rw[List.length_map,List.length_map,hxl,hd];omega
 have hS0:w3.drew.cell? ⟨g,1,none⟩=some (.slice (some ⟨rb,0,none⟩) 8 rc)∧w3.drew.cell? ⟨g,2,none⟩=some (.slice (some ⟨cb,0,none⟩) 64 cc):=uf.2.2.1
 clear uf hu3 hxl hd HLs
 go_wp2
 go_region_held3 (fun W=>W.cell? ⟨g,1,none⟩=some (.slice (some ⟨rb,0,none⟩) 8 rc)∧W.cell? ⟨g,2,none⟩=some (.slice (some ⟨cb,0,none⟩) 64 cc)) (first | exact hS0 | exact hS4 | exact hS5 | exact hS6)
  (first
   | (go_at_call 81;refine HW.out.mono ?_;rintro e w4 ⟨v4,rfl,HO4,HF4,hS4,HB4⟩)
   | (refine cK rfl (.tmp 20) (.tmp 21) 22 rfl w3.heap.size 5 Tryz.underlying22 bK rfl (by decide) _ ((dZ (bf key) 92).map V8) rfl HO4.out _ (d.map V8) rfl HF4.out H1.out HL.out HB4.out.size ?_;intro v5 w5 cT hg5 _;have hS5:=dQ.app hS4 hg3 HO4.out HB4.out.size hg5;have HB5:=ae (au HB4.out HO4.out hg5 (Nat.le_refl _) HB4.out.size);have HO5:=ae cT;clear cT hg5)
   | (go_at_call 80;refine(HSm.out _ _ HO5.out HB5.out).mono ?_;rintro e w6 ⟨v6,rfl,HO6,hS6,HB6⟩))
 clear HW HSm H1 HL hS0 hS4 hS5 hS6 HO4 HF4 HB4 HO5 HB5
 go_wp2
 go_ret
 exact⟨_,rfl,by rw[HM.out];exact Own.base HO6.out HB3.out.size,HB3.out.trans (HB6.out.mono HB3.out.size)⟩
end Go.Proofs.YthbmknpbcgnabaaGreatDoor.Hm
end
section
namespace Go.Proofs.YthbmknpbcgnabaaGreatDoor
namespace Aes
theorem ID (p:UInt8→Bool) (h:(List.range 256).all (fun n=>p (UInt8.ofNat n))=true) (x:UInt8):p x=true:=by
 have:=List.all_eq_true.1 h x.toNat (List.mem_range.2 x.toNat_lt)
 simpa using this
def dbl (x:UInt8):UInt8:=if x<128 then x+x else (x+x) ^^^ 27
def tpl (x:UInt8):UInt8:=dbl x ^^^ x
def rotl (x:UInt8) (n:Nat):UInt8:=UInt8.ofNat (x.toNat*2 ^ n % 256+x.toNat / 2 ^ (8 - n))
def xM (x:UInt8):Nat→UInt8
 | 0=>x ^^^ 99
 | k+1=>xM x k ^^^ rotl x (k+1)
def spr (x:UInt8):UInt8:=xM x 4
def SBN:List Nat:=[99,124,119,123,242,107,111,197,48,1,103,43,254,215,171,118,202,130,201,125,250,89,71,240,173,212,162,175,156,164,114,192,183,253,147,38,54,63,247,204,52,165,229,241,113,216,49,21,4,199,35,195,24,150,5,154,7,18,128,226,235,39,178,117,9,131,44,26,27,110,90,160,82,59,214,179,41,227,47,132,83,209,0,237,32,252,177,91,106,203,190,57,74,76,88,207,208,239,170,251,67,77,51,133,69,249,2,127,80,60,159,168,81,163,64,143,146,157,56,245,188,182,218,33,16,255,243,210,205,12,19,236,95,151,68,23,196,167,126,61,100,93,25,115,96,129,79,220,34,42,144,136,70,238,184,20,222,94,11,219,224,50,58,10,73,6,36,92,194,211,172,98,145,149,228,121,231,200,55,109,141,213,78,169,108,86,244,234,101,122,174,8,186,120,37,46,28,166,180,198,232,221,116,31,75,189,139,138,112,62,181,102,72,3,246,14,97,53,87,185,134,193,29,158,225,248,152,17,105,217,142,148,155,30,135,233,206,85,40,223,140,161,137,13,191,230,66,104,65,153,45,15,176,84,187,22]
def sb (x:UInt8):UInt8:=UInt8.ofNat (SBN.getD x.toNat 0)
def SBL:List UInt8:=(List.range 256).map fun n=>sb (UInt8.ofNat n)
theorem eF:SBL.length=256:=by simp [SBL]
theorem uF (x:UInt8):SBL.getD x.toNat 0=sb x:=by
 have h:=x.toNat_lt
 simp [SBL,List.getD_eq_getElem?_getD,h]
def pw:Nat→UInt8
 | 0=>1
 | k+1=>tpl (pw k)
def tab:Nat→List UInt8
 | 0=>(List.replicate 256 0).set 0 (spr 0)
 | k+1=>(tab k).set (pw k).toNat (spr (pw (255 - k)))
theorem xI (k:Nat):(tab k).length=256:=by
 induction k with
 | zero=>rw[tab,List.length_set,List.length_replicate]
 | succ k ih=>rw[tab,List.length_set,ih]
set_option maxRecDepth 100000
theorem JU:tab 256=SBL:=by decide +kernel
set_option maxRecDepth 512
def a8 (a b:List UInt8):List UInt8:=List.zipWith (· ^^^ ·) a b
theorem dS (a b:List UInt8) (n:Nat) (ha:a.length=n) (hb:b.length=n):(a8 a b).length=n:=by simp [a8,ha,hb]
theorem sV (a b:List UInt8) (j:Nat) (ha:j<a.length) (hb:j<b.length):(a8 a b).getD j 0=a.getD j 0 ^^^ b.getD j 0:=by
 simp [a8,List.getD_eq_getElem?_getD,List.getElem?_zipWith,ha,hb]
def fR (b:List UInt8):List UInt8:=b.map sb
def pK (i:Nat):Nat:=(i / 4+i) % 4*4+i % 4
def shR (b:List UInt8):List UInt8:=(List.range 16).map fun i=>b.getD (pK i) 0
def z6 (b:List UInt8) (i:Nat):UInt8:=dbl (b.getD i 0) ^^^ tpl (b.getD (4*(i / 4)+(i+1) % 4) 0) ^^^ b.getD (4*(i / 4)+(i+2) % 4) 0 ^^^ b.getD (4*(i / 4)+(i+3) % 4) 0
def fV (b:List UInt8):List UInt8:=(List.range 16).map (z6 b)
theorem iW (b:List UInt8):(fR b).length=b.length:=List.length_map _
theorem iG (b:List UInt8):(shR b).length=16:=by simp [shR]
theorem fp (b:List UInt8):(fV b).length=16:=by simp [fV]
theorem tu (b:List UInt8) (j:Nat) (h:j<b.length):(fR b).getD j 0=sb (b.getD j 0):=by
 simp [fR,List.getD_eq_getElem?_getD,h]
theorem Dz (b:List UInt8) (j:Nat) (h:j<16):(shR b).getD j 0=b.getD (pK j) 0:=by
 simp [shR,List.getD_eq_getElem?_getD,h]
theorem mD (b:List UInt8) (j:Nat) (h:j<16):(fV b).getD j 0=z6 b j:=by
 simp [fV,List.getD_eq_getElem?_getD,h]
def mark:Nat→UInt8
 | 0=>1
 | k+1=>dbl (mark k)
def gK (c:UInt8) (t:List UInt8):List UInt8:=[sb (t.getD 1 0) ^^^ c,sb (t.getD 2 0),sb (t.getD 3 0),sb (t.getD 0 0)]
def tK (ws:List (List UInt8)):List UInt8 :=
 if ws.length % 4=0 then gK (mark (ws.length / 4 - 1)) (ws.getD (ws.length - 1) []) else ws.getD (ws.length - 1) []
def Ej (key:List UInt8) (ws:List (List UInt8)):List UInt8 :=
 if ws.length<4 then (key.drop (4*ws.length)).take 4 else a8 (ws.getD (ws.length - 4) []) (tK ws)
def wk (key:List UInt8):Nat→List (List UInt8)
 | 0=>[]
 | n+1=>wk key n++[Ej key (wk key n)]
theorem dF (key:List UInt8) (n:Nat):(wk key n).length=n:=by
 induction n with
 | zero=>rfl
 | succ n ih=>simp [wk,ih]
theorem sY (key:List UInt8) (n:Nat) (h:n<4):wk key (n+1)=wk key n++[(key.drop (4*n)).take 4]:=by
 rw[wk,Ej,dF,if_pos h]
theorem sX (key:List UInt8) (n:Nat) (h:4≤n):wk key (n+1)=wk key n++[a8 ((wk key n).getD (n - 4) []) (tK (wk key n))]:=by
 rw[wk,Ej,dF,if_neg (by omega)]
theorem zF (key:List UInt8) (n:Nat) (h:n % 4=0):tK (wk key n)=gK (mark (n / 4 - 1)) ((wk key n).getD (n - 1) []):=by
 rw[tK,dF,if_pos h]
theorem xJ (key:List UInt8) (n:Nat) (h:n % 4≠0):tK (wk key n)=(wk key n).getD (n - 1) []:=by
 rw[tK,dF,if_neg h]
theorem jx {l:List (List UInt8)} {j:Nat} (h:j<l.length):l.getD j []∈l:=by
 rw[List.getD_eq_getElem?_getD,List.getElem?_eq_getElem h];exact List.getElem_mem h
theorem l6 (key:List UInt8) (hk:key.length=16) (n:Nat):∀ x∈wk key n,x.length=4:=by
 induction n with
 | zero=>intro x hx;simp [wk] at hx
 | succ n ih =>
  intro x hx
  rcases Nat.lt_or_ge n 4 with h | h
  ·rw[sY key n h] at hx
   rcases List.mem_append.1 hx with hx | hx
   ·exact ih x hx
   ·simp at hx;subst hx;simp;omega
  ·rw[sX key n h] at hx
   rcases List.mem_append.1 hx with hx | hx
   ·exact ih x hx
   ·simp at hx
    subst hx
    refine dS _ _ 4 (ih _ (jx (by rw[dF];omega))) ?_
    rcases Nat.eq_zero_or_pos (n % 4) with h4 | h4
    ·rw[zF key n h4];rfl
    ·rw[xJ key n (by omega)];exact ih _ (jx (by rw[dF];omega))
theorem eE:∀ (l:List (List UInt8)),(∀ x∈l,x.length=4)→l.flatten.length=4*l.length
 | [],_=>rfl
 | x::r,h=>by
  rw[List.flatten_cons,List.length_append,eE r (fun y hy=>h y (by simp [hy])),h x (by simp),List.length_cons];omega
theorem uk:∀ (l:List (List UInt8)) (_:∀ x∈l,x.length=4) (j m:Nat) (_:m<4) (_:j<l.length),l.flatten.getD (4*j+m) 0=(l.getD j []).getD m 0
 | [],_,j,m,_,hj=>by simp at hj
 | x::r,h,j,m,hm,hj=>by
  have hx:=h x (by simp)
  cases j with
  | zero=>rw[List.flatten_cons,List.getD_eq_getElem?_getD,List.getElem?_append_left (by omega)];simp [List.getD_eq_getElem?_getD]
  | succ j =>
   have:=uk r (fun y hy=>h y (by simp [hy])) j m hm (by simpa using hj)
   rw[List.flatten_cons,List.getD_eq_getElem?_getD,List.getElem?_append_right (by omega),show 4*(j+1)+m - x.length=4*j+m by omega,← List.getD_eq_getElem?_getD,this]
   simp [List.getD_eq_getElem?_getD]
def rks (key:List UInt8):List UInt8:=(wk key 44).flatten
def rk (key:List UInt8) (r:Nat):List UInt8:=((rks key).drop (16*r)).take 16
theorem iH (key:List UInt8) (hk:key.length=16):(rks key).length=176:=by
 rw[rks,eE _ (l6 key hk 44),dF]
theorem rZ (key:List UInt8) (hk:key.length=16) (r:Nat) (hr:r≤10):(rk key r).length=16:=by
 rw[rk,List.length_take,List.length_drop,iH key hk];omega
def rnd (key:List UInt8) (r:Nat) (b:List UInt8):List UInt8 :=
 a8 (if r<10 then fV (shR (fR b)) else shR (fR b)) (rk key r)
def st (key b:List UInt8):Nat→List UInt8
 | 0=>a8 b (rk key 0)
 | r+1=>rnd key (r+1) (st key b r)
def enc (key b:List UInt8):List UInt8:=st key b 10
theorem rS (key b:List UInt8) (hk:key.length=16) (hb:b.length=16):∀ r,r≤10→(st key b r).length=16
 | 0,_=>dS _ _ 16 hb (rZ key hk 0 (by omega))
 | r+1,h=>by
  rw[st,rnd]
  refine dS _ _ 16 ?_ (rZ key hk (r+1) h)
  split
  ·exact fp _
  ·exact iG _
theorem lU (key b:List UInt8) (hk:key.length=16) (hb:b.length=16):(enc key b).length=16:=rS key b hk hb 10 (by omega)
end Aes
end Go.Proofs.YthbmknpbcgnabaaGreatDoor
end
section
namespace Go.Proofs.YthbmknpbcgnabaaGreatDoor
namespace Aes
end Aes
end Go.Proofs.YthbmknpbcgnabaaGreatDoor
end
