/- Of the walk. -/
import Derived.Deep.RegionHeld3
import Derived.Test.YthbmknpbcgnabaaGreatDoorB02
set_option maxHeartbeats 40000000
section
namespace Go.Proofs.YthbmknpbcgnabaaGreatDoor.Hm
open Go.RowKit Sha
theorem lT:(Tryz.prog.info? 187).map (fun i=>(i.zero,i.size,i.bytes))=some (some (.int .u32 0),1,4):=by kernel_rfl
theorem bK:(Tryz.prog.info? 5).map (fun i=>(i.zero,i.size,i.bytes))=some (some (.int .u8 0),1,1):=by kernel_rfl
theorem nc (l:List UInt32):∀ y∈l.map V32,y.oneCell'=true:=fun y hy=>by obtain ⟨x,_,rfl⟩:=List.mem_map.1 hy;rfl
theorem bI (l:List UInt8):∀ y∈l.map V8,y.oneCell'=true:=fun y hy=>by obtain ⟨x,_,rfl⟩:=List.mem_map.1 hy;rfl
theorem az (w:World) (e:TypeId) (ys:List Value):bq (w.alloc (.cells ys.toArray e)) (.slice (some ⟨w.heap.size,0,none⟩) ys.length ys.length) ys :=
 .inr ⟨w.heap.size,0,ys.length,rfl,by simp,(Row.new w e ys).sees⟩
def wI (a b c d:UInt8):Nat→UInt32
 | 0=>0
 | 1=>UInt32.ofNat a.toNat
 | 2=>UInt32.ofNat (a.toNat*256+b.toNat)
 | 3=>UInt32.ofNat (a.toNat*65536+b.toNat*256+c.toNat)
 | _=>be a b c d
theorem Cr (a b c d:UInt8) (k:Nat) (hk:k<4) (x:UInt8) (hx:x=[a,b,c,d].getD k 0) :
  (((wI a b c d k).toNat:Int)*256+x.toNat) % 4294967296=((wI a b c d (k+1)).toNat:Int):=by
 have ha:=lt8 a;have hb:=lt8 b;have hc:=lt8 c;have hd:=lt8 d
 subst hx
 match k,hk with
 | 0,_=>simp only [wI];rw[toNat_ofNat32 (by omega)];simp;omega
 | 1,_=>simp only [wI];rw[toNat_ofNat32 (by omega),toNat_ofNat32 (by omega)];simp;omega
 | 2,_=>simp only [wI];rw[toNat_ofNat32 (by omega),toNat_ofNat32 (by omega)];simp;omega
 | 3,_=>simp only [wI];rw[toNat_ofNat32 (by omega),wE];simp;omega
theorem Dy (p:UInt32) (n k:Nat) (hk:k=2 ^ n):((p.toNat:Int) / (k:Int) % 4294967296)=((shr p n).toNat:Int):=by
 have h:=nj p
 have h2:p.toNat / k≤p.toNat:=Nat.div_le_self _ _
 rw[rU,← hk,← Int.natCast_ediv]
 generalize p.toNat / k=z at *
 omega
theorem GY (u v p q:UInt32) :
  (((u.toNat:Int)+v.toNat+bits .xor .u32 (bits .xor .u32 (rot p 7).toNat (rot p 18).toNat) ((p.toNat:Int) / 8 % 4294967296)) % 4294967296+bits .xor .u32 (bits .xor .u32 (rot q 17).toNat (rot q 19).toNat) ((q.toNat:Int) / 1024 % 4294967296)) % 4294967296=((mix u v p q).toNat:Int):=by
 have e1:=Dy p 3 8 rfl
 have e2:=Dy q 10 1024 rfl
 rw[show ((8:Nat):Int)=8 from rfl] at e1
 rw[show ((1024:Nat):Int)=1024 from rfl] at e2
 rw[e1,e2,← Eo]
 omega
set_option maxRecDepth 100000
theorem Ct (b off cap:Nat) (bs:List UInt8) (hbs:bs.length=64) (w:World) (hb:b<w.heap.size) (h:ah w b off (bs.map V8)) :
  Calls Tryz.prog 136 #[.slice (some ⟨b,off,none⟩) 64 cap] w fun e w'=>∃ v,e=.returned v∧Own w' w.heap.size 187 v ((words bs 64).map V32)∧Below w.heap.size w w':=by
 have Hbs:=ae hbs
 clear hbs
 go_enter Tryz.func136,Tryz.ntmps136
 go_wp2
 go_loopw [3,4,5,6,7,8] (fun m i _ _ _ _ wr=>∃ k:Nat,k≤64∧i=.int .i64 k∧Own wr w.heap.size 187 m ((words bs k).map V32)∧Below w.heap.size w wr) (fun _ i _ _ _ _ _=>64 - (intOf i).toNat)
 case atStart=>exact⟨0,by omega,rfl,Own.nil _ _ _,Below.refl _ _⟩
 case round =>
  obtain ⟨k,hk,rfl,hown,ak⟩:=hrel
  have hsz:=ak.size
  by_cases hlt:k<64
  ·by_cases h16:k<16
   ·have hs:=h.below ak hb
    have Hc:Hid (∀ j,j<4→wr.cell? ⟨b,off+(4*k+j),none⟩=some (.int .u8 ([bs.getD (4*k) 0,bs.getD (4*k+1) 0,bs.getD (4*k+2) 0,bs.getD (4*k+3) 0].getD j 0).toNat)):=by
     intro j hj
     match j,hj with
     | 0,_=>exact at8 hs _ (by rw[Hbs.out];omega)
     | 1,_=>exact at8 hs _ (by rw[Hbs.out];omega)
     | 2,_=>exact at8 hs _ (by rw[Hbs.out];omega)
     | 3,_=>exact at8 hs _ (by rw[Hbs.out];omega)
    have HW:=ae (pg bs k h16)
    clear hs
    generalize bs.getD (4*k) 0=x0 at *
    generalize bs.getD (4*k+1) 0=x1 at *
    generalize bs.getD (4*k+2) 0=x2 at *
    generalize bs.getD (4*k+3) 0=x3 at *
    have bp:=ae hown
    clear hown
    go_wp2
    go_loop [5,6] (fun n j=>∃ i:Nat,i≤4∧j=.int .i64 i∧n=.int .u32 (wI x0 x1 x2 x3 i).toNat) (fun _ j=>4 - (intOf j).toNat)
    case atStart=>exact⟨0,by omega,rfl,rfl⟩
    case round =>
     obtain ⟨i,hi,rfl,rfl⟩:=hrel
     by_cases NG:i<4
     ·have hc:=Hc.out i NG
      have Hst:=ae (Cr x0 x1 x2 x3 i NG _ rfl)
      generalize [x0,x1,x2,x3].getD i 0=x at *
      go_wp2
      go_round
      case rel=>exact⟨i+1,by omega,by go_num,int32 (by rw[← Hst.out];omega)⟩
      case measure=>simp [intOf];omega
     ·obtain rfl:i=4:=by omega
      rw[show ((4:Nat):Int)=4 from rfl]
      have HL:Hid (((words bs k).map V32).length+1≤100000000):=by show _≤_;rw[List.length_map,aH];omega
      have e4:wI x0 x1 x2 x3 4=be x0 x1 x2 x3:=rfl
      rw[e4]
      generalize be x0 x1 x2 x3=y at *
      go_wp2_with (at_builtin;refine aA rfl (.tmp 69) (.tmp 71) 157 rfl w.heap.size 187 Tryz.underlying157 lT rfl (by decide) _ ((words bs k).map V32) rfl (bp.out.alloc _) _ [V32 y] rfl (az wr 187 [V32 y]) (nc [y]) HL.out (by simp;omega) ?_;intro v' w1 eu hg1 _)
      go_roundw
      case rel =>
       refine⟨k+1,by omega,by go_num,?_,?_⟩
       ·rw[HW.out,List.map_append];exact eu
       ·exact au (ak.alloc hsz _) (bp.out.alloc _) hg1 (Nat.le_refl _) (by simp;omega)
      case measure=>simp [intOf];omega
   ·have QB:16≤k:=by omega
    obtain ⟨g,cg,hv,hg1,hg2,cd⟩:=hown.form (by rw[List.length_map,aH];omega)
    rw[List.length_map,aH] at hv
    have hg:∀ j,j<k→wr.cell? ⟨g,j,none⟩=some (.int .u32 ((words bs k).getD j 0).toNat):=fun j hj=>by
     have:=yI cd j (by rw[aH];omega)
     rwa [Nat.zero_add] at this
    have HW:=ae (o9 bs k QB)
    obtain ⟨u,hu⟩:∃ u,u=(words bs k).getD (k - 16) 0:=⟨_,rfl⟩
    obtain ⟨x,hx⟩:∃ v,v=(words bs k).getD (k - 7) 0:=⟨_,rfl⟩
    obtain ⟨p,hp⟩:∃ p,p=(words bs k).getD (k - 15) 0:=⟨_,rfl⟩
    obtain ⟨q,hq⟩:∃ q,q=(words bs k).getD (k - 2) 0:=⟨_,rfl⟩
    have g16:=hg (k - 16) (by omega)
    have g7:=hg (k - 7) (by omega)
    have g15:=hg (k - 15) (by omega)
    have g2:=hg (k - 2) (by omega)
    rw[← hu,← hx,← hp,← hq] at HW
    rw[← hp] at g15
    rw[← hq] at g2
    rw[← hu] at g16
    rw[← hx] at g7
    rw[hv] at hown ⊢
    have bp:=ae hown
    have HL:Hid (((words bs k).map V32).length+1≤100000000):=by show _≤_;rw[List.length_map,aH];omega
    clear hg hu hx hp hq cd hv hown
    go_wp2
    go_quiet ((go_at_call 137;exact Calls.quiet_of_same (nJ _ _ (by decide) (by decide) _)))
    rw[GY]
    generalize mix u x p q=y at *
    go_wp2_with (at_builtin;refine aA rfl (.tmp 69) (.tmp 71) 157 rfl w.heap.size 187 Tryz.underlying157 lT rfl (by decide) _ ((words bs k).map V32) rfl ((bp.out.drewN nq).alloc _) _ [V32 y] rfl (az (wr.drewN nq) 187 [V32 y]) (nc [y]) HL.out (by simp;omega) ?_;intro v' w1 eu hgr _)
    go_roundw
    case rel =>
     refine⟨k+1,by omega,by go_num,?_,?_⟩
     ·rw[HW.out,List.map_append];exact eu
     ·exact au ((below_drewN ak nq).alloc (by simpa using hsz) _) ((bp.out.drewN nq).alloc _) hgr (Nat.le_refl _) (by simp;omega)
    case measure=>simp [intOf];omega
  ·obtain rfl:k=64:=by omega
   rw[show ((64:Nat):Int)=64 from rfl]
   go_wp2
   go_ret
   exact⟨_,rfl,hown,ak⟩
end Go.Proofs.YthbmknpbcgnabaaGreatDoor.Hm
end
section
namespace Go.Proofs.YthbmknpbcgnabaaGreatDoor.Hm
open Go.RowKit Sha
theorem Mp {w:World} {g o:Nat} {t:St} (h:ah w g o (t.list.map V32)) :
  w.cell? ⟨g,o,none⟩=some (.int .u32 t.a.toNat)∧w.cell? ⟨g,o+1,none⟩=some (.int .u32 t.b.toNat)∧w.cell? ⟨g,o+2,none⟩=some (.int .u32 t.c.toNat)∧w.cell? ⟨g,o+3,none⟩=some (.int .u32 t.d.toNat) ∧
  w.cell? ⟨g,o+4,none⟩=some (.int .u32 t.e.toNat)∧w.cell? ⟨g,o+5,none⟩=some (.int .u32 t.f.toNat)∧w.cell? ⟨g,o+6,none⟩=some (.int .u32 t.g.toNat)∧w.cell? ⟨g,o+7,none⟩=some (.int .u32 t.h.toNat) :=
 ⟨h 0 _ rfl,h 1 _ rfl,h 2 _ rfl,h 3 _ rfl,h 4 _ rfl,h 5 _ rfl,h 6 _ rfl,h 7 _ rfl⟩
theorem vI {P:Program} {f:FuncId} {args:Array Value} {w:World} {a n:Nat} {v:Value} (h:Calls P f args (w.drewN (a+n)) fun e w'=>e=.returned v∧w'=w.drewN (a+n)) :
  Calls P f args (w.drewN (a+n)) fun e w'=>e=.returned v∧∃ m,w'=w.drewN (a+m):=h.mono fun _ _ k=>⟨k.1,n,k.2⟩
theorem GS (a b c d e f g h cc mm:UInt32) :
  (((h.toNat:Int)+bits .xor .u32 (bits .xor .u32 (rot e 6).toNat (rot e 11).toNat) (rot e 25).toNat+bits .xor .u32 (bits .and .u32 e.toNat f.toNat) (bits .and .u32 ((4294967295 - (e.toNat:Int)) % 4294967296) g.toNat)+cc.toNat) % 4294967296+mm.toNat) % 4294967296
   = ((one ⟨a,b,c,d,e,f,g,h⟩ cc mm).toNat:Int):=by
 have he:((4294967295 - (e.toNat:Int)) % 4294967296)=((~~~e).toNat:Int):=by
  rw[Mj]
  have:=nj (~~~e)
  generalize (~~~e).toNat=z at *
  omega
 rw[he,← Ed a b c d e f g h cc mm]
 omega
theorem BA (s t:St) (j:Nat) (hj:j<8):(s.plus t).list.take (j+1)=(s.plus t).list.take j++[s.list.getD j 0+t.list.getD j 0]:=by
 match j,hj with
 | 0,_=>rfl
 | 1,_=>rfl
 | 2,_=>rfl
 | 3,_=>rfl
 | 4,_=>rfl
 | 5,_=>rfl
 | 6,_=>rfl
 | 7,_=>rfl
theorem iv {w1 w2:World} {ys:Array Value} {e:TypeId} (h:(w1.alloc (.cells ys e)).grownBy w2 (Value.ownBlock (.slice (some ⟨w1.heap.size,0,none⟩) 0 0))):Below w1.heap.size w1 w2 :=
 ((Below.refl _ _).alloc (Nat.le_refl _) _).grown h (by simp) (fun k hk=>by simp [Value.ownBlock] at hk;omega)
set_option maxRecDepth 100000
theorem Gi (sb so sc:Nat) (s:St) (b off cap:Nat) (bs:List UInt8) (hbs:bs.length=64) (cb co cc:Nat) (C:List UInt32) (hC:C.length=64) (w:World)
  (hsl:sb<w.heap.size) (hs:ah w sb so (s.list.map V32)) (hb:b<w.heap.size) (h:ah w b off (bs.map V8)) (hcl:cb<w.heap.size) (hc:ah w cb co (C.map V32)) :
  Calls Tryz.prog 114 #[.slice (some ⟨sb,so,none⟩) 8 sc,.slice (some ⟨b,off,none⟩) 64 cap,.slice (some ⟨cb,co,none⟩) 64 cc] w fun e w' =>
   ∃ v,e=.returned v∧Own w' w.heap.size 187 v ((come C s bs).list.map V32)∧Below w.heap.size w w':=by
 have Hbs:=ae hbs
 have HC:=ae hC
 clear hbs hC
 go_enter Tryz.func114,Tryz.ntmps114
 go_wp2_with fail
 refine(Ct b off cap bs Hbs.out w hb h).mono ?_
 rintro e w1 ⟨m,rfl,hm,hb1⟩
 obtain ⟨gm,cm,hmv,RA,Qk,Jp⟩:=hm.form (by rw[List.length_map,aH];omega)
 rw[List.length_map,aH] at hmv
 rw[hmv]
 clear hmv hm
 have jf:=hb1.size
 have hs1:=hs.below hb1 hsl
 have HF:Hid (bq (w1.alloc (.cells #[] 187)) (.slice (some ⟨sb,so,none⟩) 8 sc) (s.list.map V32)):=.inr ⟨sb,so,sc,rfl,by simp;omega,hs1.alloc (by omega) _⟩
 have HO:Hid (Own (w1.alloc (.cells #[] 187)) w.heap.size 187 (.slice (some ⟨w1.heap.size,0,none⟩) 0 0) []):=Own.lit w1 _ _ [] jf (by decide)
 have H8:Hid (([]:List Value).length+(s.list.map V32).length≤100000000):=by show _≤_;rw[List.length_map];simp [St.list]
 have H1:=ae (nc s.list)
 clear hs1
 go_wp2_with (at_builtin;refine aA rfl (.tmp 18) (.tmp 19) 157 rfl w.heap.size 187 Tryz.underlying157 lT rfl (by decide) _ [] rfl HO.out _ (s.list.map V32) rfl HF.out H1.out H8.out (by simp;omega) ?_;intro v2 w2 aC hg2 _)
 have hb2:Below w1.heap.size w1 w2:=iv hg2
 obtain ⟨g,cg,hv,hg1,BV,cd⟩:=aC.form (by rw[List.nil_append,List.length_map];simp [St.list])
 rw[List.nil_append] at cd hv
 rw[List.length_map,show s.list.length=8 from rfl] at hv
 rw[hv]
 clear hv aC hg2 H8 H1 HF HO
 have kC:=hb2.size
 have HM:Hid (ah w2 gm 0 ((words bs 64).map V32)):=Jp.below hb2 Qk
 have HCs:Hid (ah w2 cb co (C.map V32)):=(hc.below hb1 hcl).below hb2 (by omega)
 have HS:Hid (ah w2 sb so (s.list.map V32)):=(hs.below hb1 hsl).below hb2 (by omega)
 have qb:Below w.heap.size w w2:=hb1.trans (hb2.mono jf)
 have OB:=ae cd
 clear Jp hc hs h cd hb1 hb2
 go_loopw [8,9,10,11,12,13] (fun v i _ _ _ _ wr=>∃ (k g cg:Nat) (a b c d e f g' h:UInt32),k≤64∧i=.int .i64 k∧v=.slice (some ⟨g,0,none⟩) 8 cg∧g<wr.heap.size∧Hid (⟨a,b,c,d,e,f,g',h⟩=xT C (words bs 64) s k)∧Hid (ah wr g 0 ((St.list ⟨a,b,c,d,e,f,g',h⟩).map V32))∧Below w2.heap.size w2 wr) (fun _ i _ _ _ _ _=>64 - (intOf i).toNat)
 case atStart=>exact⟨0,g,cg,_,_,_,_,_,_,_,_,by omega,rfl,rfl,BV,rfl,OB.out,Below.refl _ _⟩
 case round =>
  clear hg1 BV OB
  obtain ⟨k,g,cg,a,b,c,d,e,f,g',h,hk,rfl,rfl,hgl,Ht,Hv,ak⟩:=hrel
  have dD:=ak.size
  by_cases hlt:k<64
  ·have Hst:Hid (xT C (words bs 64) s (k+1)=rnd ⟨a,b,c,d,e,f,g',h⟩ (C.getD k 0) ((words bs 64).getD k 0)):=by rw[Ht.out];rfl
   have gC:wr.cell? ⟨cb,co+k,none⟩=some (.int .u32 (C.getD k 0).toNat):=yI (HCs.out.below ak (by omega)) k (by rw[HC.out];exact hlt)
   have gM:wr.cell? ⟨gm,k,none⟩=some (.int .u32 ((words bs 64).getD k 0).toNat):=by
    have:=yI (HM.out.below ak (by omega)) k (by rw[aH];exact hlt)
    rwa [Nat.zero_add] at this
   obtain ⟨c0,c1,c2,c3,c4,c5,c6,c7⟩:=Mp Hv.out
   simp only [Nat.zero_add] at c0 c1 c2 c3 c4 c5 c6 c7
   generalize C.getD k 0=kc at *
   generalize (words bs 64).getD k 0=mm at *
   go_wp2
   go_quiet ((go_at_call 137;exact Calls.quiet_of_same (nJ _ _ (by decide) (by decide) _)))
   go_wp2
   go_quiet ((go_at_call 137;exact vI (nJ _ _ (by decide) (by decide) _)))
   go_wp2
   rw[GS a b c d e f g' h kc mm,Dh a b c d e f g' h]
   obtain ⟨U,hU⟩:∃ U,U=one ⟨a,b,c,d,e,f,g',h⟩ kc mm:=⟨_,rfl⟩
   obtain ⟨T,hT⟩:∃ T,T=two ⟨a,b,c,d,e,f,g',h⟩:=⟨_,rfl⟩
   rw[← hU,← hT]
   have OH:Hid (xT C (words bs 64) s (k+1)=⟨U+T,a,b,c,d+U,e,f,g'⟩):=by show _=_;rw[Hst.out,hU,hT];rfl
   clear hU hT Hst
   refine gA (fun w3=>Hid (∃ n,w3=wr.drewN n)) ⟨_,World.drewN_drewN _ _ _⟩ ?_
   intro w3 Hw3
   have hh3:w3.heap.size=wr.heap.size:=by obtain ⟨n,rfl⟩:=Hw3.out;rfl
   have d0:w3.cell? ⟨g,0,none⟩=some (.int .u32 a.toNat):=by obtain ⟨n,rfl⟩:=Hw3.out;exact c0
   have d1:w3.cell? ⟨g,1,none⟩=some (.int .u32 b.toNat):=by obtain ⟨n,rfl⟩:=Hw3.out;exact c1
   have d2:w3.cell? ⟨g,2,none⟩=some (.int .u32 c.toNat):=by obtain ⟨n,rfl⟩:=Hw3.out;exact c2
   have d3:w3.cell? ⟨g,3,none⟩=some (.int .u32 d.toNat):=by obtain ⟨n,rfl⟩:=Hw3.out;exact c3
   have d4:w3.cell? ⟨g,4,none⟩=some (.int .u32 e.toNat):=by obtain ⟨n,rfl⟩:=Hw3.out;exact c4
   have d5:w3.cell? ⟨g,5,none⟩=some (.int .u32 f.toNat):=by obtain ⟨n,rfl⟩:=Hw3.out;exact c5
   have d6:w3.cell? ⟨g,6,none⟩=some (.int .u32 g'.toNat):=by obtain ⟨n,rfl⟩:=Hw3.out;exact c6
   have Jt:Below w2.heap.size w2 w3:=by obtain ⟨n,rfl⟩:=Hw3.out;exact below_drewN ak n
   have Hh3:=ae hh3
   have BR:=Jt.size
   clear c0 c1 c2 c3 c4 c5 c6 c7 gC gM hh3 ak Hw3 Hv
   refine wp_region_still_tail 26 (by kernel_rfl) (by kernel_rfl) ?_
   change wpStill _ _ w3.drew (fun a'=>wpList _ _ _ _ a' w3.drew) _ _
   simp only [List.take_succ_cons,List.take_zero,List.drop_succ_cons,List.drop_zero]
   repeat still_step
   refine wpStill_nil ?_
   go_wp2
   go_roundw
   case rel =>
    rw[jD,jD]
    exact⟨k+1,w3.heap.size,8,_,_,_,_,_,_,_,_,by omega,by go_num,rfl,by simp,OH.out.symm,(Row.new w3 187 ((St.list ⟨U+T,a,b,c,d+U,e,f,g'⟩).map V32)).drew.sees,(Jt.alloc BR _).drew⟩
   case measure=>simp [intOf];omega
  ·obtain rfl:k=64:=by omega
   rw[show ((64:Nat):Int)=64 from rfl]
   have OO:Hid (come C s bs=s.plus ⟨a,b,c,d,e,f,g',h⟩):=by show _=_;rw[Ht.out];rfl
   obtain ⟨t,ht⟩:∃ t:St,t=⟨a,b,c,d,e,f,g',h⟩:=⟨_,rfl⟩
   rw[← ht] at OO Hv
   have HSx:=ae (HS.out.below ak (by omega))
   have hbx:Below w.heap.size w wr:=qb.trans (ak.mono (by have:=qb.size;omega))
   clear ht Ht ak HS HM HCs qb
   obtain ⟨wx,hwx⟩:∃ wx:World,wx=wr:=⟨_,rfl⟩
   subst hwx
   go_wp2
   go_loopw [14,15] (fun out i wr=>∃ j:Nat,j≤8∧i=.int .i64 j∧Own wr wx.heap.size 187 out (((s.plus t).list.take j).map V32)∧Below wx.heap.size wx wr) (fun _ i _=>8 - (intOf i).toNat)
   case atStart=>exact⟨0,by omega,rfl,Own.nil _ _ _,Below.refl _ _⟩
   case round =>
    obtain ⟨j,hj,rfl,hown,ak⟩:=hrel
    have dD:=ak.size
    by_cases yn:j<8
    ·have gS:wr.cell? ⟨sb,so+j,none⟩=some (.int .u32 (s.list.getD j 0).toNat):=yI (HSx.out.below ak (by omega)) j (by simpa [St.list] using yn)
     have gV:wr.cell? ⟨g,j,none⟩=some (.int .u32 (t.list.getD j 0).toNat):=by
      have:=yI (Hv.out.below ak hgl) j (by simpa [St.list] using yn)
      rwa [Nat.zero_add] at this
     have HT:=ae (BA s t j yn)
     have HL:Hid ((((s.plus t).list.take j).map V32).length+1≤100000000):=by show _≤_;simp [St.list];omega
     generalize s.list.getD j 0=x at *
     generalize t.list.getD j 0=y at *
     have bp:=ae hown
     clear hown
     go_wp2
     go_region_law (refine cK rfl (.tmp 125) (.tmp 135) 157 rfl wx.heap.size 187 Tryz.underlying157 lT rfl (by decide) _ (((s.plus t).list.take j).map V32) rfl (bp.out.alloc _).drew _ [.int .u32 (((x.toNat:Int)+y.toNat) % 4294967296)] rfl (az wr 187 [.int .u32 (((x.toNat:Int)+y.toNat) % 4294967296)]) (fun y hy=>by rw[List.mem_singleton.1 hy];rfl) HL.out (by simp;omega) ?_;intro v' w4 ia hg4 _)
     all_goals
      go_wp2
      go_roundw
      case rel =>
       rw[jD] at ia
       refine⟨j+1,by omega,by go_num,?_,?_⟩
       ·rw[HT.out,List.map_append];exact ia
       ·exact au (ak.alloc dD _).drew (bp.out.alloc _).drew hg4 (Nat.le_refl _) (by simp;omega)
      case measure=>simp [intOf];omega
    ·obtain rfl:j=8:=by omega
     rw[show ((8:Nat):Int)=8 from rfl]
     have jg:Hid (Own wr w.heap.size 187 u14 ((come C s bs).list.map V32)):=by
      rw[OO.out]
      exact Own.base hown hbx.size
     clear hown
     go_wp2
     go_ret
     exact⟨_,rfl,jg.out,hbx.trans (ak.mono hbx.size)⟩
end Go.Proofs.YthbmknpbcgnabaaGreatDoor.Hm
end
section
namespace Go.Proofs.YthbmknpbcgnabaaGreatDoor.Hm
open Go.RowKit Sha
def lp (L:Nat):Nat→List UInt8
 | 0=>[]
 | i+1=>UInt8.ofNat (L / 256 ^ i)::lp L i
theorem GD (L:Nat):lp L 8=be8 L:=by simp [lp,be8]
theorem tq (L i:Nat):(lp L i).length=i:=by
 induction i with
 | zero=>rfl
 | succ i ih=>simp [lp,ih]
def sliceLen:Value→Nat
 | .slice _ n _=>n
 | _=>0
set_option maxRecDepth 100000
theorem zo (A:Option Addr) (n cap:Nat) (bs:List UInt8) (hn:bs.length=n) (hl:n≤1000000) (w:World) (hA:bq w (.slice A n cap) (bs.map V8)) :
  Calls Tryz.prog 113 #[.slice A n cap] w fun e w'=>∃ v,e=.returned v∧Own w' w.heap.size 5 v ((filled bs).map V8)∧Below w.heap.size w w':=by
 have HF:Hid (bq (w.alloc (.cells #[] 5)) (.slice A n cap) (bs.map V8)):=hA.alloc _
 have HO:Hid (Own (w.alloc (.cells #[] 5)) w.heap.size 5 (.slice (some ⟨w.heap.size,0,none⟩) 0 0) []):=Own.lit w _ _ [] (Nat.le_refl _) (by decide)
 have Hn:=ae hn
 have H1:=ae (bI bs)
 have HL:Hid (([]:List Value).length+(bs.map V8).length≤100000000):=by show _≤_;rw[List.length_map,hn];simp;omega
 have HL2:Hid ((bs.map V8).length+[V8 128].length≤100000000):=by show _≤_;rw[List.length_map,hn];simp;omega
 clear hA hn
 go_enter Tryz.func113,Tryz.ntmps113
 go_wp2_with (first
  | (at_builtin;refine aA rfl (.tmp 7) (.tmp 8) 22 rfl w.heap.size 5 Tryz.underlying22 bK rfl (by decide) _ [] rfl HO.out _ (bs.map V8) rfl HF.out H1.out HL.out (by simp) ?_;intro v1 w1 eu hg1 _;have hb1:Below w.heap.size w w1:=iv hg1;have jf:=hb1.size;rw[List.nil_append] at eu;have HO1:=ae eu;clear eu hg1)
  | (at_builtin;refine aA rfl (.tmp 9) (.tmp 10) 22 rfl w.heap.size 5 Tryz.underlying22 bK rfl (by decide) _ (bs.map V8) rfl (HO1.out.alloc _) _ [V8 128] rfl (az w1 5 [V8 128]) (bI [128]) HL2.out (by simp;omega) ?_;intro v2 w2 aC hg2 _;have hb2:Below w.heap.size w w2:=au (hb1.alloc jf _) (HO1.out.alloc _) hg2 (Nat.le_refl _) (by simp;omega);clear hg2))
 clear HF HO H1 HL HL2 HO1 hb1 jf
 have e0:bs.map V8++[V8 128]=(bs++[128]++List.replicate 0 0).map V8:=by simp
 rw[e0] at aC
 clear e0
 obtain ⟨g2,c2,hv2,_,BV,_⟩:=aC.form (by simp)
 have Jq:((bs++[128]++List.replicate 0 0).map V8).length=n+1:=by simp [Hn.out]
 rw[Jq] at hv2
 subst hv2
 obtain ⟨Z,hZ⟩:∃ Z,Z=(119 - n % 64) % 64:=⟨_,rfl⟩
 have hZ1:(n+1+Z) % 64=56:=by omega
 have hZ2:Z<64:=by omega
 have HZ:=ae hZ
 have HZ1:=ae hZ1
 clear hZ hZ1 Jq
 go_loopw [3] (fun v wr=>∃ j g c:Nat,j≤Z∧v=.slice (some ⟨g,0,none⟩) (n+1+j) c∧g<wr.heap.size∧Own wr w.heap.size 5 v ((bs++[128]++List.replicate j 0).map V8)∧Below w.heap.size w wr) (fun v _=>n+1+Z - sliceLen v)
 case atStart=>exact⟨0,g2,c2,by omega,rfl,BV,aC,hb2⟩
 case round =>
  obtain ⟨j,g,c,hj,hv,hgl,hown,ak⟩:=hrel
  have hsz:=ak.size
  by_cases hlt:j<Z
  ·have hne:(((n:Int)+1+j) % 64 != 56)=true:=by have:=HZ1.out;rw[bne_iff_ne];omega
   have HL:Hid (((bs++[128]++List.replicate j 0).map V8).length+[V8 0].length≤100000000):=by show _≤_;simp [Hn.out];omega
   have bp:=ae hown
   have HV:=ae hv
   clear hown
   rw[hv]
   clear hv
   go_wp2_with (at_builtin;refine aA rfl (.tmp 16) (.tmp 17) 22 rfl w.heap.size 5 Tryz.underlying22 bK rfl (by decide) _ _ rfl ((HV.out ▸ bp.out).alloc _) _ [V8 0] rfl (az wr 5 [V8 0]) (bI [0]) HL.out (by simp;omega) ?_;intro v' w3 aF hg3 _)
   have e1:(bs++[128]++List.replicate j 0).map V8++[V8 0]=(bs++[128]++List.replicate (j+1) 0).map V8:=by
    rw[List.replicate_succ',← List.append_assoc,List.map_append (l₂:=[(0:UInt8)])];rfl
   rw[e1] at aF
   clear e1
   have hl3:((bs++[128]++List.replicate (j+1) (0:UInt8)).map V8).length=n+1+(j+1):=by simp [Hn.out];omega
   obtain ⟨g3,c3,hv3,_,Qm,_⟩:=aF.form (by rw[hl3];omega)
   rw[hl3] at hv3
   subst hv3
   go_roundw
   case rel=>exact⟨j+1,g3,c3,by omega,rfl,Qm,aF,au (ak.alloc hsz _) ((HV.out ▸ bp.out).alloc _) hg3 (Nat.le_refl _) (by simp;omega)⟩
   case measure=>simp [sliceLen];omega
  ·obtain rfl:j=Z:=by omega
   have hne:(((n:Int)+1+j) % 64 != 56)=false:=by
    have:=HZ1.out
    rw[Bool.eq_false_iff,Ne,bne_iff_ne,Decidable.not_not];omega
   have HX:Hid (bs++[128]++List.replicate j 0++be8 (8*n)=filled bs):=by show _=_;rw[filled,Hn.out,HZ.out]
   generalize hxs:bs++[128]++List.replicate j 0=xs at *
   have HXL:Hid (xs.length=n+1+j):=by show _=_;rw[← hxs];simp [Hn.out];omega
   rw[hv] at hown ⊢
   have bp:=ae hown
   clear hown hv hxs HZ HZ1
   obtain ⟨wx,hwx⟩:∃ wx:World,wx=wr:=⟨_,rfl⟩
   subst hwx
   go_wp2
   go_loopw [4,5,6] (fun y v i wr=>∃ k X:Nat,k≤8∧i=.int .i64 k∧y=.int .u64 X∧Hid (X=8*n / 256 ^ k)∧Own wr wx.heap.size 5 v ((lp (8*n) k).map V8)∧Below wx.heap.size wx wr) (fun _ _ i _=>8 - (intOf i).toNat)
   case atStart =>
    refine⟨0,n*8,by omega,rfl,by go_num,?_,Own.nil _ _ _,Below.refl _ _⟩
    show _=_
    rw[Nat.pow_zero,Nat.div_one,Nat.mul_comm]
   case round =>
    obtain ⟨k,X,hk,rfl,rfl,HXk,cT,Aj⟩:=hrel
    have Ku:=Aj.size
    by_cases yn:k<8
    ·have hXb:X≤8*n:=by rw[HXk.out];exact Nat.div_le_self _ _
     have HO5:=ae cT
     have HT:Hid (lp (8*n) (k+1)=UInt8.ofNat X::lp (8*n) k):=by show _=_;rw[HXk.out];rfl
     have HL5:Hid ([Value.int .u8 ((X:Int) % 256)].length+((lp (8*n) k).map V8).length≤100000000):=by show _≤_;simp [tq];omega
     clear cT
     go_wp2_with (at_builtin;refine aA rfl (.tmp 30) (.tmp 31) 22 rfl wx.heap.size 5 Tryz.underlying22 bK rfl (by decide) _ [.int .u8 ((X:Int) % 256)] rfl (Own.lit wr wx.heap.size 5 [.int .u8 ((X:Int) % 256)] Ku (by simp)) _ ((lp (8*n) k).map V8) rfl (HO5.out.alloc _).from_ (bI _) HL5.out (by simp;omega) ?_;intro v6 w6 sA hg6 _)
     go_roundw
     case rel =>
      rw[iu] at sA
      refine⟨k+1,X / 256,by omega,by go_num,by go_num,?_,?_,?_⟩
      ·show _=_;rw[HXk.out,Nat.div_div_eq_div_mul,Nat.pow_succ]
      ·rw[HT.out];exact sA
      ·exact(Aj.alloc Ku _).grown hg6 (by simp;omega) (fun i hi=>by have h:some wr.heap.size=some i:=hi;cases h;exact Ku)
     case measure=>simp [intOf];omega
    ·obtain rfl:k=8:=by omega
     rw[show ((8:Nat):Int)=8 from rfl]
     rw[GD] at cT
     have HO5:=ae cT
     have HOx:Hid (Own wr w.heap.size 5 (.slice (some ⟨g,0,none⟩) (n+1+j) c) (xs.map V8)):=Own.below bp.out Aj (Nat.le_refl _)
     have HLx:Hid ((xs.map V8).length+((be8 (8*n)).map V8).length≤100000000):=by show _≤_;rw[List.length_map,List.length_map,HXL.out];simp [be8];omega
     have hbx:Below w.heap.size w wr:=ak.trans (Aj.mono hsz)
     clear cT HXk
     go_wp2_with (at_builtin;refine aA rfl (.tmp 35) (.tmp 36) 22 rfl w.heap.size 5 Tryz.underlying22 bK rfl (by decide) _ (xs.map V8) rfl HOx.out _ ((be8 (8*n)).map V8) rfl HO5.out.from_ (bI _) HLx.out hbx.size ?_;intro v7 w7 Nz hg7 _)
     go_ret
     refine⟨_,rfl,?_,au hbx HOx.out hg7 (Nat.le_refl _) hbx.size⟩
     rw[← HX.out,List.map_append]
     exact Nz
end Go.Proofs.YthbmknpbcgnabaaGreatDoor.Hm
end
section
namespace Go.Proofs.YthbmknpbcgnabaaGreatDoor.Hm
open Go.RowKit Sha
theorem Io (x:UInt32) :
  [Value.int .u8 ((x.toNat:Int) / 16777216 % 4294967296 % 256),.int .u8 ((x.toNat:Int) / 65536 % 4294967296 % 256),.int .u8 ((x.toNat:Int) / 256 % 4294967296 % 256),.int .u8 ((x.toNat:Int) % 256)]=(b4 x).map V8:=by
 have h:=nj x
 have e1:=iN x.toNat 16777216
 have e2:=iN x.toNat 65536
 have e3:=iN x.toNat 256
 have e4:=iu x.toNat
 simp only [b4,List.map_cons,List.map_nil,V8]
 rw[← e1,← e2,← e3,← e4]
 have h1:((x.toNat:Int) / 16777216 % 4294967296)=(x.toNat:Int) / 16777216:=by omega
 have h2:((x.toNat:Int) / 65536 % 4294967296)=(x.toNat:Int) / 65536:=by omega
 have h3:((x.toNat:Int) / 256 % 4294967296)=(x.toNat:Int) / 256:=by omega
 rw[h1,h2,h3]
 rfl
theorem qq {w w':World} {B:Nat} {e:TypeId} {v:Value} {ys:List Value} {p:Addr} {u:Value} (h:Own w B e v ys) (hg:w.grownBy w' v.ownBlock) (hB:B≤w.heap.size) (hp:p.block<B) (hc:w.cell? p=some u):w'.cell? p=some u :=
 (World.cell?_of_block (w:=w) (hg.block p.block (by omega) (fun e=>by have:=(h.lt e.symm).1;omega))).trans hc
set_option maxRecDepth 100000
theorem qE (A:Option Addr) (n cap:Nat) (bs:List UInt8) (hn:bs.length=n) (hl:n≤1000000) (rb ro rc:Nat) (s:St) (cb co cc:Nat) (C:List UInt32) (hC:C.length=64) (w:World)
  (hA:bq w (.slice A n cap) (bs.map V8))
  (hrl:rb<w.heap.size) (hr:ah w rb ro (s.list.map V32)) (hcl:cb<w.heap.size) (hc:ah w cb co (C.map V32)) :
  Calls Tryz.prog 80 #[.slice A n cap,.slice (some ⟨rb,ro,none⟩) 8 rc,.slice (some ⟨cb,co,none⟩) 64 cc] w fun e w' =>
   ∃ v,e=.returned v∧Own w' w.heap.size 5 v ((dig (run C s (filled bs) ((filled bs).length / 64))).map V8)∧Below w.heap.size w w':=by
 have HC:=ae hC
 have HLf:=ae (lz bs)
 have HMf:=ae (yz bs)
 clear hC
 go_enter Tryz.func80,Tryz.ntmps80
 go_wp2_with fail
 refine(zo A n cap bs hn hl w hA).mono ?_
 rintro e w1 ⟨v1,rfl,eu,hb1⟩
 obtain ⟨La,hLa⟩:∃ La,La=(filled bs).length:=⟨_,rfl⟩
 rw[← hLa] at HLf HMf
 have RL:La≤1000200:=by rw[HLf.out,hn];omega
 have Qw:0<La:=by rw[HLf.out];omega
 obtain ⟨ga,ca,hv,_,Ql,hca,cd⟩:=eu.cM (by rw[List.length_map,← hLa];exact Qw)
 rw[List.length_map,← hLa] at hv hca
 rw[hv]
 have HLa:=ae hLa
 have jf:=hb1.size
 have HX:Hid (ah w1 ga 0 ((filled bs).map V8)):=cd
 have HR:Hid (ah w1 rb ro (s.list.map V32)):=hr.below hb1 hrl
 have HCs:Hid (ah w1 cb co (C.map V32)):=hc.below hb1 hcl
 clear hA hr hc eu hv cd hLa HLf hn
 go_wp2
 go_loopw [7,9] (fun v i wr=>∃ k sb so sc:Nat,64*k≤La∧i=.int .i64 ((64*k:Nat):Int)∧v=.slice (some ⟨sb,so,none⟩) 8 sc∧sb<wr.heap.size∧Hid (ah wr sb so ((run C s (filled bs) k).list.map V32))∧Below w1.heap.size w1 wr) (fun _ i _=>La - (intOf i).toNat)
 case atStart=>exact⟨0,rb,ro,rc,by omega,rfl,rfl,by omega,HR.out,Below.refl _ _⟩
 case round =>
  obtain ⟨k,sb,so,sc,hk,rfl,rfl,hsl,Hs,ak⟩:=hrel
  have hsz:=ak.size
  by_cases hlt:64*k<La
  ·have Ry:64*k+64≤La:=by have:=HMf.out;omega
   have Hpl:Hid ((((filled bs).drop (64*k)).take 64).length=64):=by show _=_;rw[List.length_take,List.length_drop,← HLa.out];omega
   have HP:Hid (ah wr ga (64*k) ((((filled bs).drop (64*k)).take 64).map V8)):=by
    have h2:=(HX.out.below ak Ql).piece (64*k) 64
    rwa [← List.map_drop,← List.map_take,Nat.zero_add] at h2
   have uM:Hid (run C s (filled bs) (k+1)=come C (run C s (filled bs) k) (((filled bs).drop (64*k)).take 64)):=rfl
   generalize run C s (filled bs) k=sk at *
   generalize ((filled bs).drop (64*k)).take 64=piece at *
   have hkc:64*k<ca:=by omega
   have Rx:64*k+64≤ca:=by omega
   go_wp2_with fail
   refine(Gi sb so sc sk ga _ _ piece Hpl.out cb co cc C HC.out wr hsl Hs.out (by omega) HP.out (by omega) (HCs.out.below ak (by omega))).mono ?_
   rintro e w2 ⟨v2,rfl,aC,hb2⟩
   obtain ⟨g2,c2,hv2,_,BV,Af⟩:=aC.form (by simp [St.list])
   rw[show ((come C sk piece).list.map V32).length=8 from rfl] at hv2
   rw[hv2]
   clear aC hv2
   go_wp2
   go_roundw
   case rel=>exact⟨k+1,g2,0,c2,by omega,by go_num,rfl,BV,by rw[uM.out];exact Af,ak.trans (hb2.mono hsz)⟩
   case measure=>simp [intOf];omega
  ·have hk2:k=La / 64:=by omega
   have CM:Hid (run C s (filled bs) ((filled bs).length / 64)=run C s (filled bs) k):=by show _=_;rw[← HLa.out,hk2]
   generalize run C s (filled bs) k=t at *
   have hbx:Below w.heap.size w wr:=hb1.trans (ak.mono jf)
   obtain ⟨wx,hwx⟩:∃ wx:World,wx=wr:=⟨_,rfl⟩
   subst hwx
   clear ak HX HR HCs hk2
   obtain ⟨q,hq⟩:∃ q,q=64*k:=⟨_,rfl⟩
   rw[← hq] at hlt ⊢
   clear hq
   go_wp2
   go_loopw [10,11] (fun out i wr=>∃ j:Nat,j≤8∧i=.int .i64 j∧Own wr wx.heap.size 5 out ((bytesOf (t.list.take j)).map V8)∧Below wx.heap.size wx wr) (fun _ i _=>8 - (intOf i).toNat)
   case atStart=>exact⟨0,by omega,rfl,Own.nil _ _ _,Below.refl _ _⟩
   case round =>
    obtain ⟨j,hj,rfl,hown,ak⟩:=hrel
    have dD:=ak.size
    by_cases yn:j<8
    ·have gS:wr.cell? ⟨sb,so+j,none⟩=some (.int .u32 (t.list.getD j 0).toNat):=yI (Hs.out.below ak hsl) j (by simpa [St.list] using yn)
     have HT:=ae (kA t j yn)
     have HF4:=ae (Io (t.list.getD j 0))
     have HL:Hid (((bytesOf (t.list.take j)).map V8).length+4≤100000000):=by show _≤_;rw[List.length_map,bytesOf_length];simp [St.list];omega
     generalize t.list.getD j 0=x at *
     have bp:=ae hown
     clear hown
     go_wp2
     have gS0:wr.drew.cell? ⟨sb,so+j,none⟩=some (.int .u32 x.toNat):=gS
     have gS1:∀ o,(wr.alloc o).drew.cell? ⟨sb,so+j,none⟩=some (.int .u32 x.toNat):=fun o=>(World.cell?_alloc_lt wr o _ (by show sb<_;omega)).trans gS
     go_region_held3 (fun w'=>w'.cell? ⟨sb,so+j,none⟩=some (.int .u32 x.toNat)) (first | exact gS0 | exact gS1 _ | exact gS4)
      (first | (refine cK rfl (.tmp 33) (.tmp 57) 22 rfl wx.heap.size 5 Tryz.underlying22 bK rfl (by decide) _ ((bytesOf (t.list.take j)).map V8) rfl (bp.out.alloc _).drew _ [.int .u8 ((x.toNat:Int) / 16777216 % 4294967296 % 256),.int .u8 ((x.toNat:Int) / 65536 % 4294967296 % 256),.int .u8 ((x.toNat:Int) / 256 % 4294967296 % 256),.int .u8 ((x.toNat:Int) % 256)] rfl (az wr 5 [.int .u8 ((x.toNat:Int) / 16777216 % 4294967296 % 256),.int .u8 ((x.toNat:Int) / 65536 % 4294967296 % 256),.int .u8 ((x.toNat:Int) / 256 % 4294967296 % 256),.int .u8 ((x.toNat:Int) % 256)]) (HF4.out ▸ bI _) HL.out (by simp;omega) ?_;intro v' w4 ia hg4 _;have gS4:w4.cell? ⟨sb,so+j,none⟩=some (.int .u32 x.toNat):=qq (bp.out.alloc _).drew hg4 (by simp;omega) (by show sb<_;omega) (gS1 _)))
     all_goals
      go_wp2
      go_roundw
      case rel =>
       rw[HF4.out] at ia
       refine⟨j+1,by omega,by go_num,?_,?_⟩
       ·rw[HT.out,mK,List.map_append];exact ia
       ·exact au (ak.alloc dD _).drew (bp.out.alloc _).drew hg4 (Nat.le_refl _) (by simp;omega)
      case measure=>simp [intOf];omega
    ·obtain rfl:j=8:=by omega
     rw[show ((8:Nat):Int)=8 from rfl]
     have jg:Hid (Own wr w.heap.size 5 u10 ((dig (run C s (filled bs) ((filled bs).length / 64))).map V8)):=by
      rw[CM.out]
      exact Own.base hown hbx.size
     clear hown
     go_wp2
     go_ret
     exact⟨_,rfl,jg.out,hbx.trans (ak.mono hbx.size)⟩
end Go.Proofs.YthbmknpbcgnabaaGreatDoor.Hm
end
