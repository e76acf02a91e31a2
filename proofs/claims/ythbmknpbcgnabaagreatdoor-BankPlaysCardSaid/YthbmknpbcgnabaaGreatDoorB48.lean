import Derived.Deep.DeepHandedRow
import Derived.Deep.Grids
import Derived.Deep.Matrix
import Derived.Test.YthbmknpbcgnabaaGreatDoorB47
import Derived.WideKeyArr2
set_option maxRecDepth 100000
set_option maxHeartbeats 40000000
namespace Go.Proofs.YthbmknpbcgnabaaGreatDoor
open Go.RowKit Aes Ctr Sl Dsk
theorem wZ {w:World} {A0:Option Addr} {sl c0:Nat} {z:Int} {A2:Option Addr} {m c2:Nat} (hT:Hm.Tab w) (h:100<sl∨12<m∨(20<z∧z≤128)) :
  Calls Tryz.prog 3 #[.slice A0 sl c0,.int .i64 z,.slice A2 m c2] w fun e w'=>e=.returned (.bool true)∧Below w.heap.size w w':=by
 have HK:=ae (lZ w hT)
 clear hT
 rcases Nat.lt_or_ge 100 sl with g1 | q1
 ·clear h
  go_enter Tryz.func3,Tryz.ntmps3
  go_wp2_with fail
  refine HK.out.mono ?_
  rintro e w1 ⟨rfl,hb⟩
  go_wp2
  go_ret
  exact⟨rfl,hb⟩
 rcases Nat.lt_or_ge 12 m with g2 | q2
 ·clear h
  go_enter Tryz.func3,Tryz.ntmps3
  go_wp2_with fail
  refine HK.out.mono ?_
  rintro e w1 ⟨rfl,hb⟩
  go_wp2
  go_ret
  exact⟨rfl,hb⟩
 obtain ⟨g3,g4⟩:20<z∧z≤128:=by omega
 clear h
 go_enter Tryz.func3,Tryz.ntmps3
 go_wp2_with fail
 refine HK.out.mono ?_
 rintro e w1 ⟨rfl,hb⟩
 go_wp2
 go_ret
 exact⟨rfl,hb⟩
theorem zh {w:World} {vs:Value} {sec:List UInt8} {z:Int} {A2:Option Addr} {m c2:Nat} (hs:Arg w vs sec) (hsl:sec.length≤100) (hm:m≤12) (hz:z<8∨128<z) (hr:-9223372036854775808≤z∧z≤9223372036854775807) (hT:Hm.Tab w) :
  Calls Tryz.prog 3 #[vs,.int .i64 z,.slice A2 m c2] w fun e w'=>e=.returned (.bool true)∧Below w.heap.size w w':=by
 obtain ⟨A0,c0,rfl⟩:=hs.form
 have HDr:=ae (kM sec (by omega) _ w hT hs)
 have HDN:=ae (fun W=>qU 16 (by omega) (by omega) W)
 have HKn:Hid (∀ W,Below w.heap.size w W→Calls Tryz.prog 6 #[] W fun e w'=>e=.returned (.bool true)∧Below w.heap.size w w'):=fun W hW=>(lZ W (hT.stay hT.1 hW)).mono fun e w' ⟨he,hb⟩=>⟨he,hW.trans (hb.mono hW.size)⟩
 have HB0:Hid (∀ {W:World} {G:Nat→Prop} {d:Nat} {D:List Blk} {ks:List Value},aG W G d D→cz (kE sec) (mE sec) ks→Calls Tryz.prog 9 #[PT d,.agg ks.toArray,.int .i64 z] W fun e w'=>e=.returned (.tuple #[.pointer none,.int .i64 1])∧Below W.heap.size W w'):=fun hD hk=>kO _ _ _ z hD hk hr (hz.imp id .inl)
 have HM0:Hid (∀ {W:World} {G:Nat→Prop} {d:Nat} {D:List Blk} {ks:List Value} (rs:List Value),aG W G d D→ks.length=48→rs.length=34→Calls Tryz.prog 10 #[PT d,.agg ks.toArray,.int .i64 z,.agg rs.toArray] W fun e w'=>e=.returned (.tuple #[.pointer none,.int .i64 1])∧Below W.heap.size W w'):=fun rs hD hk h34=>mO _ hk z rs h34 hD hr (hz.imp id .inl)
 obtain ⟨sl,ny⟩:∃ x,x=sec.length:=⟨_,rfl⟩
 rw[← ny] at hsl HDr ⊢
 have hzk:=mU w
 have hex:z<8∨(¬ z<8∧128<z∧20<z∧¬ z≤128):=by omega
 have hno:¬ (20<z∧z≤128):=by omega
 clear hs hT ny hr hz
 rcases hex with h8 | ⟨h8,h128,h20,RN⟩
 all_goals
  go_enter Tryz.func3,Tryz.ntmps3
  go_wp2_with fail
  refine HDr.out.mono ?_
  rintro e w1 ⟨ks,Hks,rfl,hb1⟩
  have hkk:cz (kE sec) (mE sec) ks:=Hks.out
  generalize kE sec=ek at *
  generalize mE sec=mk at *
  have HK:=ae hkk
  have lh:Hid (ks.toArray.size=48):=hkk.size
  have aN:Hid (ks.toArray.all (·.oneCell')=true):=hkk.vec.one
  obtain ⟨x0,hx0⟩:∃ x,x=w1.heap.size:=⟨_,rfl⟩
  obtain ⟨w2,hw2⟩:∃ W,W=w1.alloc (.cells Z48.toArray 29):=⟨_,rfl⟩
  have HZ2:Hid (Row w2 x0 29 Z48):=by rw[hw2,hx0];exact Row.new w1 29 Z48
  have hB2:Below w1.heap.size w1 w2:=by rw[hw2];exact(Below.refl _ _).alloc (Nat.le_refl _) _
  obtain ⟨w3,hw3⟩:∃ W,W=w2.setRow x0 ks.toArray:=⟨_,rfl⟩
  have HX3:Hid (Row w3 x0 29 ks):=by rw[hw3];exact HZ2.out.whole ks
  have hB3:Below w1.heap.size w1 w3:=by rw[hw3];exact ag hB2 (by omega) _
  have HB3:Hid (Below w.heap.size w w3):=hb1.trans (hB3.mono hb1.size)
  have FU:=ae hx0
  have Kq:=mU w1
  have Ge:=ae (HDN.out w3)
  clear hkk Hks hb1 hB2 hB3 HDr hx0 HDN hzk
  go_wp2_with (first
   | (rw[← hw2,← FU.out];clear hw2 Kq;refine wpList_store_row rfl 29 (.tmp 7) (.tmp 63) rfl x0 ks.toArray rfl rfl 29 _ HZ2.out (by rw[lh.out];kernel_rfl) (by rw[lh.out];rfl) aN.out ?_;rw[← hw3];clear hw3))
  refine Ge.out.mono ?_
  rintro e w4 ⟨d,G,rfl,hD,hG,hb4⟩
  have HX4:=ae (HX3.out.below hb4 HX3.out.lt)
  have HB4:=ae (HB3.out.trans (hb4.mono HB3.out.size))
  have HD4:=ae hD
  have HF4:=ae (HB0.out hD HK.out)
  clear hD hG hb4 HX3 HB3 Ge HZ2 HB0
  go_wp2_with (first
   | (refine wpList_load_row rfl 29 (.tmp 7) rfl x0 rfl 29 ks.toArray (0,0) _ HX4.out Tryz.underlying29 rfl (by rw[lh.out];kernel_rfl) ?_))
  refine HF4.out.mono ?_
  rintro e w5 ⟨rfl,hb5⟩
  have HX5:=ae (HX4.out.below hb5 HX4.out.lt)
  have HB5:=ae (HB4.out.trans (hb5.mono HB4.out.size))
  have HD5:=ae (HD4.out.below hb5)
  clear hb5 HX4 HB4 HD4 HF4
  have hzr:=oT
  go_wp2_with (first
   | (refine wpList_load_row rfl 29 (.tmp 7) rfl x0 rfl 29 ks.toArray (0,0) _ HX5.out Tryz.underlying29 rfl (by rw[lh.out];kernel_rfl) ?_))
  refine(HM0.out _ HD5.out HK.out.vec.len rfl).mono ?_
  rintro e w6 ⟨rfl,hb6⟩
  have HK0:=ae (HKn.out w6 (HB5.out.trans (hb6.mono HB5.out.size)))
  clear hb6 HX5 HB5 HD5 HM0 hzr HKn
  go_wp2_with fail
  refine HK0.out.mono ?_
  rintro e w7 ⟨rfl,hb⟩
  go_wp2
  go_ret
  exact⟨rfl,hb⟩
theorem zj {w:World} {vs:Value} {sec:List UInt8} {z:Int} {A2:Option Addr} {m c2:Nat} {l:List JD} (hs:Arg w vs sec) (hJ:qK w (.slice A2 m c2) l) (hr:-9223372036854775808≤z∧z≤9223372036854775807) (hT:Hm.Tab w) :
  Calls Tryz.prog 3 #[vs,.int .i64 z,.slice A2 m c2] w fun e w'=>e=.returned (.bool true)∧Below w.heap.size w w':=by
 by_cases h:100<sec.length∨12<m∨(20<z∧z≤128)
 ·obtain ⟨A0,c0,rfl⟩:=hs.form
  exact wZ hT h
 ·by_cases hz:z<8∨128<z
  ·exact zh hs (by omega) (by omega) hz hr hT
  ·obtain ⟨n,rfl⟩:∃ n:Nat,z=(n:Int):=⟨z.toNat,by omega⟩
   exact uL hs (by omega) ⟨by omega,by omega⟩ hJ (by omega) hT
open Go.ChangeShapes Go.WideShapes Go.ChangeAt Go.Deep Hm.Sha
theorem PS:ownKnob Tryz.prog.godebug=none:=by kernel_rfl
theorem laidOut:laidOutB Tryz.prog=true:=by kernel_rfl
theorem gTab : Tryz.prog.globalNamed "padlock/sha256.cubeRoots" = some 0 := by kernel_rfl
theorem E5:(Tryz.prog.globals[0]?).map (·.type)=some 255:=by kernel_rfl
theorem Lh:Tryz.prog.cellsOf 255=64:=by kernel_rfl
theorem Li:Tryz.prog.cellsOf 187=1:=by kernel_rfl
theorem o5:Tryz.prog.cellsOf 5=1:=by kernel_rfl
theorem Fj:Tryz.prog.cellsOf 22=1:=by kernel_rfl
theorem IA:Tryz.prog.cellsOf 48=1:=by kernel_rfl
theorem tab_of {W : World} (h : Lib.TabIs Tryz.prog W "padlock/sha256.cubeRoots" .u32 (K0.map fun x => (x.toNat : Int))) : Hm.Tab W := by
 have hs:Hm.ah W 0 0 (K0.map Hm.V32):=by
  intro j u hu
  have hj:j<(K0.map fun x=>(x.toNat:Int)).length:=by
   have:=(List.getElem?_eq_some_iff.1 hu).1
   simpa using this
  have hc:=h.cell gTab j hj
  rw[Nat.zero_add]
  rw[List.getElem?_map] at hu
  obtain ⟨x,hx,rfl⟩:=Option.map_eq_some_iff.1 hu
  refine hc.trans ?_
  simp [Hm.V32,hx]
 exact⟨block_lt_of_cell (hs 0 _ rfl),hs⟩
theorem yJ {W:World} {a:Option Addr} {len cap:Nat} {zs:List Int}
  (h:(a=none∧len=0∧cap=0∧zs=[])∨∃ x,a=some x∧len≤cap∧cap≤maxLen∧zs.length=cap∧(∀ i,i<zs.length→W.cell? (x.add i)=some (.int .u8 (zs.getD i 0)))∧∀ n∈zs,(Lit.int .u8 n).wf=true) :
  ∃ bs:List UInt8,bs.length=len∧Arg W (.slice a len cap) bs:=by
 rcases h with ⟨rfl,rfl,rfl,rfl⟩ | ⟨x,rfl,hl,hm,hz,hc,hw⟩
 ·exact⟨[],rfl,.inl ⟨none,rfl,rfl⟩⟩
 ·rcases Nat.eq_zero_or_pos cap with h0 | h0
  ·obtain rfl:len=0:=by omega
   subst h0
   exact⟨[],rfl,.inl ⟨_,rfl,rfl⟩⟩
  ·obtain ⟨b,off,rfl,hc'⟩:=ints_at hc (by omega)
   have hb:b<W.heap.size:=block_lt_of_cell (hc' 0 (by omega))
   refine⟨(zs.take len).map fun n=>UInt8.ofNat n.toNat,by simp;omega,.inr ⟨b,off,cap,by simp;omega,hb,by simp;omega,?_⟩⟩
   intro j u hu
   rw[List.getElem?_map,List.getElem?_map] at hu
   obtain ⟨x,hx,rfl⟩:=Option.map_eq_some_iff.1 hu
   obtain ⟨z,hz1,rfl⟩:=Option.map_eq_some_iff.1 hx
   rw[List.getElem?_take] at hz1
   split at hz1
   ·have hj:j<zs.length:=(List.getElem?_eq_some_iff.1 hz1).1
    rw[hc' j hj]
    have hzz:zs.getD j 0=z:=by rw[List.getD_eq_getElem?_getD,hz1];rfl
    have hbd:=bounds_u8 (hw z (List.mem_of_getElem? hz1))
    rw[hzz,V8,bF (by omega)]
    congr 2
    omega
   ·cases hz1
theorem Arg.on {w:World} {v:Value} {bs:List UInt8} (h:Arg w v bs):cW w (fun k=>k<w.heap.size) v bs:=by
 rcases h with h | ⟨b,o,cap,e,hb,hl,hs⟩
 ·exact .inl h
 ·exact .inr ⟨b,o,cap,e,⟨hb,hb⟩,hl,hs⟩
section
variable {H:Type} {enc:TypeId × Value→H} {W:World}
theorem Ec {a0:Option Addr} {je kI:Nat} {d0:DataW H} {p0:List MemPlace}
  (h0:DataW.Trod enc Tryz.prog W 0 (fun _=>true) true 22 (.slice a0 je kI) d0 p0):∃ bs:List UInt8,bs.length=je∧Arg W (.slice a0 je kI) bs:=by
 obtain ⟨fuel,hf⟩:=h0
 rcases open_ints Tryz.underlying22 Tryz.underlying5 o5 hf with ⟨hcs,_⟩ | ⟨x,l,c,zs,hcs,_,hl,hm,hz,_,hcell,hwz⟩
 ·simp [Value.cells] at hcs
  obtain ⟨rfl,rfl,rfl⟩:=hcs
  exact yJ (.inl ⟨rfl,rfl,rfl,rfl⟩)
 ·simp [Value.cells] at hcs
  obtain ⟨rfl,rfl,rfl⟩:=hcs
  exact yJ (.inr ⟨_,rfl,hl,hm,by simpa using hz,hcell,hwz⟩)
theorem Bw {fuel:Nat} {c:Value} {x:DataW H × List MemPlace} (h:DataW.trod enc Tryz.prog W 0 (fun _=>true) true fuel 48 [c]=some x) :
  ∃ (ps:List (List UInt8)) (A:Option Addr) (cap:Nat),c=.slice A ps.length cap∧aI W (fun k=>k<W.heap.size) c ps:=by
 rcases open_int_rows Tryz.underlying48 Tryz.underlying22 Tryz.underlying5 Fj o5 h with ⟨hcs,_⟩ | ⟨x,je,kI,A,L,C,Z,hcs,_,hl,hm,_,hrow⟩
 ·obtain rfl:c=.slice none 0 0:=by simpa using hcs
  exact⟨[],none,0,rfl,.inl ⟨none,0,rfl,rfl⟩⟩
 ·obtain rfl:c=.slice (some x) je kI:=by simpa using hcs
  have each:∀ r,r<je→∃ bs:List UInt8,bs.length=L r∧Arg W (.slice (A r) (L r) (C r)) bs:=fun r hr=>by
   obtain ⟨_,h2,h3,h4,h5,h6,h7⟩:=hrow r (by omega)
   refine yJ (zs:=Z r) ?_
   cases hA:A r with
   | none =>
    have hc0:=h6 hA
    exact .inl ⟨rfl,by omega,hc0,List.eq_nil_of_length_eq_zero (by omega)⟩
   | some a'=>exact .inr ⟨a',rfl,h2,h3,h4,fun i hi=>(h7 a' hA).2 i (by omega),h5⟩
  obtain ⟨f,hf⟩:=choose_lt each
  rcases Nat.eq_zero_or_pos je with h0 | hpos
  ·subst h0
   exact⟨[],some x,kI,rfl,.inl ⟨some x,kI,rfl,rfl⟩⟩
  obtain ⟨b,off,spot⟩:=x
  have hc0:=(hrow 0 (by omega)).1
  have hspot:spot=none:=by simpa [Addr.add] using World.cell?_spot hc0
  subst hspot
  have hcj:∀ j,j<je→W.cell? ⟨b,off+j,none⟩=some (.slice (A j) (L j) (C j)):=fun j hj=>by
   rw[← Go.WideShapes.add_plain];exact(hrow j (by omega)).1
  have hb:b<W.heap.size:=block_lt_of_cell (hcj 0 hpos)
  refine⟨(List.range je).map f,some ⟨b,off,none⟩,kI,by simp,.inr ⟨b,off,kI,(List.range je).map fun r=>.slice (A r) (L r) (C r),by simp,hb,hb,fun j u hu=>?_,by simp,fun j v p hv hp=>?_⟩⟩
  ·rw[List.getElem?_map] at hu
   obtain ⟨i,hi,rfl⟩:=Option.map_eq_some_iff.1 hu
   have hlt:j<je:=by simpa using (List.getElem?_eq_some_iff.1 hi).1
   have hij:i=j:=by
    have:=(List.getElem?_eq_some_iff.1 hi).2
    simpa using this.symm
   subst hij
   exact hcj i hlt
  ·rw[List.getElem?_map] at hv hp
   obtain ⟨i,hi,rfl⟩:=Option.map_eq_some_iff.1 hv
   obtain ⟨i',hi',rfl⟩:=Option.map_eq_some_iff.1 hp
   rw[hi] at hi'
   cases hi'
   have hlt:i<je:=by
    have:=List.mem_of_getElem? hi
    simpa using this
   exact(hf i hlt).2.on
end
noncomputable def np (os:Os):World :=
 { World.holding Tryz.prog os ⟨#[],#[],[]⟩ with heap:=(World.holding Tryz.prog os ⟨#[],#[],[]⟩).heap.modify 0 fun
   | .cells _ t frozen=>.cells (K0.map Hm.V32).toArray t frozen
   | o=>o }
theorem IC:Tryz.prog.cellsOf 4=1:=by kernel_rfl
section
variable {H:Type} {enc:TypeId × Value→H} {W:World} {fuel:Nat} {c:Value} {x:DataW H × List MemPlace}
theorem Bx (h:DataW.trod enc Tryz.prog W 0 (fun _=>true) true fuel 49 [c]=some x):∃ (bs:List Bool) (a:Option Addr) (cap:Nat),c=.slice a bs.length cap∧bq W c (bs.map Value.bool):=by
 rcases open_bools Tryz.underlying49 Tryz.underlying4 IC h with ⟨hcs,_⟩ | ⟨a,l,cap,B,hcs,_,hl,hm,_,hcell⟩
 ·obtain rfl:c=.slice none 0 0:=by simpa using hcs
  exact⟨[],none,0,rfl,.inl ⟨none,rfl,rfl⟩⟩
 ·obtain rfl:c=.slice (some a) l cap:=by simpa using hcs
  rcases Nat.eq_zero_or_pos cap with h0 | h0
  ·obtain rfl:l=0:=by omega
   subst h0
   exact⟨[],_,_,rfl,.inl ⟨_,rfl,rfl⟩⟩
  ·obtain ⟨b,off,spot⟩:=a
   have hspot:spot=none:=by simpa [Addr.add] using World.cell?_spot (hcell 0 (by omega))
   subst hspot
   have hc:∀ j,j<cap→W.cell? ⟨b,off+j,none⟩=some (.bool (B j)):=fun j hj=>by
    rw[← Go.WideShapes.add_plain];exact hcell j hj
   refine⟨(List.range l).map B,some ⟨b,off,none⟩,cap,by simp,.inr ⟨b,off,cap,by simp,block_lt_of_cell (hc 0 h0),fun j u hu=>?_⟩⟩
   rw[List.getElem?_map,List.getElem?_map] at hu
   obtain ⟨z,hz,rfl⟩:=Option.map_eq_some_iff.1 hu
   obtain ⟨i,hi,rfl⟩:=Option.map_eq_some_iff.1 hz
   have hj:j<l:=by simpa using (List.getElem?_eq_some_iff.1 hi).1
   have hij:i=j:=by
    have:=(List.getElem?_eq_some_iff.1 hi).2
    simpa using this.symm
   rw[hij,hc j (by omega)]
end
theorem kH:Tryz.prog.cellsOf 3=1:=by kernel_rfl
theorem AD:Tryz.prog.cellsOf 51=6:=by kernel_rfl
theorem AB:Tryz.prog.cellsOf 53=9:=by kernel_rfl
theorem IB:Tryz.prog.cellsOf 49=1:=by kernel_rfl
section
variable {H:Type} {enc:TypeId × Value→H} {W:World} {fuel:Nat} {c:Value} {x:DataW H × List MemPlace}
theorem Bv (h:DataW.trod enc Tryz.prog W 0 (fun _=>true) true fuel 22 [c]=some x):∃ A n cap,c=.slice A n cap:=by
 rcases open_ints Tryz.underlying22 Tryz.underlying5 o5 h with ⟨hcs,_⟩ | ⟨a,l,cap,zs,hcs,_⟩
 ·exact⟨none,0,0,by simpa using hcs⟩
 ·exact⟨some a,l,cap,by simpa using hcs⟩
theorem J4 {cs:List Value} (h:DataW.trod enc Tryz.prog W 0 (fun _=>true) true fuel 51 cs=some x):∃ d:TD,cs=d.cells∧d.ok W:=by
 obtain ⟨xs,n,_,_,hlen,hxl,hf⟩:=DataW.trod_struct Tryz.underlying51 h
 rw[AD] at hlen
 match cs,xs,hlen,hxl with
 | [c0,c1,c2,c3,c4,c5],[x0,x1,x2,x3,x4,x5],_,_ =>
  have f0:DataW.trod enc Tryz.prog W 0 (fun _=>true) true n 3 [c0]=some x0:=by have:=hf 0 _ rfl;simpa [kH] using this
  have f1:DataW.trod enc Tryz.prog W 0 (fun _=>true) true n 3 [c1]=some x1:=by have:=hf 1 _ rfl;simpa [kH] using this
  have f2:DataW.trod enc Tryz.prog W 0 (fun _=>true) true n 3 [c2]=some x2:=by have:=hf 2 _ rfl;simpa [kH] using this
  have f3:DataW.trod enc Tryz.prog W 0 (fun _=>true) true n 5 [c3]=some x3:=by have:=hf 3 _ rfl;simpa [o5] using this
  have f4:DataW.trod enc Tryz.prog W 0 (fun _=>true) true n 22 [c4]=some x4:=by have:=hf 4 _ rfl;simpa [Fj] using this
  have f5:DataW.trod enc Tryz.prog W 0 (fun _=>true) true n 49 [c5]=some x5:=by have:=hf 5 _ rfl;simpa [IB] using this
  obtain ⟨n0,e0,_,w0⟩:=DataW.trod_int Tryz.underlying3 f0
  obtain ⟨n1,e1,_,_⟩:=DataW.trod_int Tryz.underlying3 f1
  obtain ⟨n2,e2,_,_⟩:=DataW.trod_int Tryz.underlying3 f2
  obtain ⟨n3,e3,_,w3⟩:=DataW.trod_int Tryz.underlying5 f3
  have hb:=Bv f4
  obtain ⟨ks,_,_,_,hk⟩:=Bx f5
  have b0:=bounds_i64 w0
  have b3:=bounds_u8 w3
  refine⟨⟨n0,n1,n2,UInt8.ofNat n3.toNat,c4,c5,ks⟩,?_,hb,hk,b0.1,(by show n0≤_;omega)⟩
  injection e0 with e0
  injection e1 with e1
  injection e2 with e2
  injection e3 with e3
  rw[e0,e1,e2,e3]
  unfold TD.cells
  rw[bF (by omega)]
  congr 4
  rw[Int.toNat_of_nonneg (by omega)]
theorem J5 {cs:List Value} (h:DataW.trod enc Tryz.prog W 0 (fun _=>true) true fuel 53 cs=some x):∃ d:JD,cs=d.cells∧d.ok W:=by
 obtain ⟨xs,n,_,_,hlen,hxl,hf⟩:=DataW.trod_struct Tryz.underlying53 h
 rw[AB] at hlen
 match cs,xs,hlen,hxl with
 | [c0,c1,c2,c3,c4,c5,c6,c7,c8],[x0,x1,x2,x3],_,_ =>
  have f0:DataW.trod enc Tryz.prog W 0 (fun _=>true) true n 3 [c0]=some x0:=by have:=hf 0 _ rfl;simpa [kH] using this
  have f1:DataW.trod enc Tryz.prog W 0 (fun _=>true) true n 3 [c1]=some x1:=by have:=hf 1 _ rfl;simpa [kH] using this
  have f2:DataW.trod enc Tryz.prog W 0 (fun _=>true) true n 48 [c2]=some x2:=by have:=hf 2 _ rfl;simpa [IA] using this
  have f3:DataW.trod enc Tryz.prog W 0 (fun _=>true) true n 51 [c3,c4,c5,c6,c7,c8]=some x3:=by have:=hf 3 _ rfl;simpa [AD] using this
  obtain ⟨n0,e0,_,w0⟩:=DataW.trod_int Tryz.underlying3 f0
  obtain ⟨n1,e1,_,w1⟩:=DataW.trod_int Tryz.underlying3 f1
  obtain ⟨ps,_,_,_,hp⟩:=Bw f2
  obtain ⟨t,ht,hto⟩:=J4 f3
  have b0:=bounds_i64 w0
  have b1:=bounds_i64 w1
  refine⟨⟨n0,n1,c2,ps,t⟩,?_,hp,hto,b0.1,(by show n0≤_;omega),b1.1,(by show n1≤_;omega)⟩
  injection e0 with e0
  injection e1 with e1
  rw[e0,e1]
  show _=[.int .i64 n0,.int .i64 n1,c2]++t.cells
  rw[← ht]
  rfl
theorem BD {a0:Option Addr} {je kI:Nat} {d0:DataW H} {p0:List MemPlace} (h0:DataW.Trod enc Tryz.prog W 0 (fun _=>true) true 23 (.slice a0 je kI) d0 p0) :
  ∃ l:List JD,l.length=je∧qK W (.slice a0 je kI) l:=by
 obtain ⟨fuel,hf⟩:=h0
 rcases open_slice Tryz.underlying23 hf with ⟨hcs,_⟩ | ⟨a,l,cap,m,n,D,Pl,hcs,_,hl,hm,hmm,_,hx⟩
 ·simp [Value.cells] at hcs
  obtain ⟨rfl,rfl,rfl⟩:=hcs
  exact⟨[],rfl,none,0,rfl,fun h=>by simp at h,fun d h=>by cases h⟩
 ·simp [Value.cells] at hcs
  obtain ⟨rfl,rfl,rfl⟩:=hcs
  simp only [if_true] at hmm
  rw[AB] at hx
  have each:∀ i,i<je→∃ d:JD,d.ok W∧∀ j u,d.cells[j]? = some u→W.cell? ((a.add (i*9)).add j)=some u:=fun i hi=>by
   obtain ⟨cs',hc,ht⟩:=hx i (by omega)
   obtain ⟨_,hcl,hat⟩:=World.cells?_some hc
   obtain ⟨d,rfl,hok⟩:=J5 ht
   refine⟨d,hok,fun j u hu=>?_⟩
   rw[hat j (by have:=(List.getElem?_eq_some_iff.1 hu).1;omega)]
   exact hu
  haveI:Inhabited JD:=⟨⟨0,0,.bool false,[],⟨0,0,0,0,.bool false,.bool false,[]⟩⟩⟩
  obtain ⟨f,hf⟩:=choose_lt each
  refine⟨(List.range je).map f,by simp,some a,kI,by simp,fun hpos=>?_,fun d hd=>?_⟩
  ·have Ny:0<je:=by simpa using hpos
   obtain ⟨b,off,spot⟩:=a
   have hc0:=(hf 0 Ny).2 0 _ rfl
   have hspot:spot=none:=by simpa [Addr.add] using World.cell?_spot hc0
   subst hspot
   have hc1:W.cell? ⟨b,off,none⟩=some (.int .i64 (f 0).what):=by simpa [Addr.add] using hc0
   refine⟨b,off,rfl,block_lt_of_cell hc1,fun i d hd j u hu=>?_⟩
   rw[List.getElem?_map] at hd
   obtain ⟨i',hi',rfl⟩:=Option.map_eq_some_iff.1 hd
   have hlt:i<je:=by simpa using (List.getElem?_eq_some_iff.1 hi').1
   have hii:i'=i:=by
    have:=(List.getElem?_eq_some_iff.1 hi').2
    simpa using this.symm
   subst hii
   have:=(hf i' hlt).2 j u hu
   rwa [Go.WideShapes.add_plain,Go.WideShapes.add_plain] at this
  ·obtain ⟨i,hi,rfl⟩:=List.mem_map.1 hd
   exact(hf i (by simpa using hi)).1
end
end Go.Proofs.YthbmknpbcgnabaaGreatDoor
