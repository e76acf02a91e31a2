/- Of the walk. -/
import Derived.Deep.RegionWith
import Derived.Laws.BytesArg
import Derived.Laws.MakeOwn
import Derived.Laws.StructEq
import Derived.Test.YthbmknpbcgnabaaGreatDoorB03
import Derived.Test.YthbmknpbcgnabaaGreatDoorB04
import Derived.Test.YthbmknpbcgnabaaGreatDoorB05
set_option maxHeartbeats 40000000
section
namespace Go.Proofs.YthbmknpbcgnabaaGreatDoor.Hm
open Go.RowKit Sha
def PEq (n f d:Nat):Prop:=gU n=kT n f d
theorem PEq.no {n f d:Nat} (h:PEq n (f+1) d) (hd:d*d≤n) (hm:n % d=0):gU n=false:=by
 rw[h,kT,if_pos hd,if_pos hm]
theorem PEq.on {n f d:Nat} (h:PEq n (f+1) d) (hd:d*d≤n) (hm:¬ n % d=0):PEq n f (d+1):=by
 unfold PEq at h ⊢
 rw[h,kT,if_pos hd,if_neg hm]
theorem PEq.yes {n f d:Nat} (h:PEq n f d) (hd:¬ d*d≤n):gU n=true:=by
 rw[h]
 cases f with
 | zero=>rfl
 | succ f=>rw[kT,if_neg hd]
theorem CB (n:Nat) (h2:2≤n) (hn:n≤1000) (w:World) :
  Calls Tryz.prog 111 #[.int .u64 n] w fun e w'=>e=.returned (.bool (gU n))∧w=w':=by
 go_enter Tryz.func111,Tryz.ntmps111
 go_wp2
 go_loop [3] (fun t=>∃ d f:Nat,2≤d∧d+f=n+2∧t=.int .u64 d∧PEq n f d) (fun t=>n+2 - (intOf t).toNat)
 case atStart=>exact⟨2,n,by omega,by omega,rfl,rfl⟩
 case round =>
  obtain ⟨d,f,hd,hf,rfl,hp⟩:=hrel
  have hd2:d≤n+2:=by omega
  have hmul:d*d≤1002*1002:=Nat.mul_le_mul (by omega) (by omega)
  have hmi:(d:Int)*d=((d*d:Nat):Int):=by rw[Int.natCast_mul]
  by_cases hdd:d*d≤n
  ·have hdn:d≤n:=Nat.le_trans (Nat.le_mul_of_pos_left d (by omega)) hdd
   obtain ⟨g,rfl⟩:∃ g,f=g+1:=⟨f - 1,by omega⟩
   by_cases hm:n % d=0
   ·have jg:=hp.no hdd hm
    have HF:=ae jg
    have HM:=ae hmi
    have hle:(d:Int)*d≤n:=by rw[hmi];omega
    have hmb:((n:Int) % (d:Int) == 0)=true:=by rw[← Int.natCast_emod,hm];rfl
    clear jg hmi hp hm hdd hf
    go_wp2
    go_ret
    exact⟨by rw[HF.out];rfl,rfl⟩
   ·have hnx:=hp.on hdd hm
    have hle:(d:Int)*d≤n:=by rw[hmi];omega
    have hmb:((n:Int) % (d:Int) == 0)=false:=by
     rw[← Int.natCast_emod,beq_eq_false_iff_ne];omega
    clear hmi hp hm hdd
    go_wp2
    go_round
    case rel=>exact⟨d+1,g,by omega,by omega,by go_num,hnx⟩
    case measure=>simp [intOf];omega
  ·have jg:=hp.yes hdd
   have HF:=ae jg
   have hle:(n:Int)<(d:Int)*d:=by rw[hmi];omega
   clear jg hmi hp hdd hf
   go_wp2
   go_ret
   exact⟨by rw[HF.out];simp;omega,rfl⟩
theorem CA (x:Int) (n:Nat) (hx:x=(n:Int)) (h2:2≤n) (hn:n≤1000) (w:World) :
  Calls Tryz.prog 111 #[.int .u64 x] w fun e w'=>e=.returned (.bool (gU n))∧w=w':=by
 subst hx
 exact CB n h2 hn w
theorem nM (z:Int) (n:Nat) (hz:z=(n:Int)) (hn:n<18446744073709551616) (c:Bool) (w:World) :
  Calls Tryz.prog 112 #[.int .u64 z,.bool c] w fun e w'=>∃ x:UInt32,Hid (x=UInt32.ofNat (ax n c))∧e=.returned (.int .u32 x.toNat)∧Below w.heap.size w w':=by
 subst hz
 have h:∀ c,(UInt32.ofNat (ax n c)).toNat=ax n c:=fun c=>toNat_ofNat32 (Nat.mod_lt _ (by omega))
 cases c
 ·exact(yR n hn w).mono fun e w' k=>⟨_,rfl,by rw[h];exact k.1,k.2⟩
 ·exact(Cy n hn w).mono fun e w' k=>⟨_,rfl,by rw[h];exact k.1,k.2⟩
def CEq (k:Nat) (l:List UInt32):Prop:=l=jQ k
def REq (k:Nat) (l:List UInt32):Prop:=l=lN k
theorem CEq.few {k:Nat} {l:List UInt32} (h:CEq k l) (hk:k<310):l.length<64:=by
 rw[h,jQ,List.length_map];exact xV k hk
theorem CEq.all {l:List UInt32} (h:CEq 310 l):l=K0:=h.trans xS
theorem REq.all {l:List UInt32} (h:REq 310 l):l=R0.list:=h.trans xR
theorem y7 {k:Nat} {l m:List UInt32} (h:REq k l) (g:CEq k m):l.length=min 8 m.length:=by
 rw[h,g,lN,jQ,List.length_map,List.length_map,List.length_take]
theorem CEq.skip {k:Nat} {l:List UInt32} (h:CEq k l) (hp:gU (k+2)=false):CEq (k+1) l:=by
 unfold CEq jQ at *
 rw[bW,hp]
 exact h
theorem REq.skip {k:Nat} {l:List UInt32} (h:REq k l) (hp:gU (k+2)=false):REq (k+1) l:=by
 unfold REq lN at *
 rw[bW,hp]
 exact h
theorem CEq.more {k:Nat} {l:List UInt32} (h:CEq k l) (hp:gU (k+2)=true) {x:UInt32} (hx:x=UInt32.ofNat (ax (k+2) true)):CEq (k+1) (l++[x]):=by
 unfold CEq jQ at *
 rw[bW,hp,if_pos rfl,List.map_append,h,hx]
 rfl
theorem REq.more {k:Nat} {l m:List UInt32} (h:REq k l) (g:CEq k m) (hl:l.length<8) (hp:gU (k+2)=true) {x:UInt32} (hx:x=UInt32.ofNat (ax (k+2) false)):REq (k+1) (l++[x]):=by
 have hlen:=y7 h g
 have hm:(bW k).length<8:=by
  rw[g,jQ,List.length_map] at hlen
  omega
 unfold REq lN at *
 have e1:(bW k++[k+2]).take 8=bW k++[k+2]:=List.take_of_length_le (by rw[List.length_append];simp only [List.length_cons,List.length_nil];omega)
 have e2:(bW k).take 8=bW k:=List.take_of_length_le (by omega)
 rw[bW,hp,if_pos rfl,e1,h,e2,hx,List.map_append]
 rfl
theorem REq.full {k:Nat} {l m:List UInt32} (h:REq k l) (g:CEq k m) (hl:¬ l.length<8) (hp:gU (k+2)=true):REq (k+1) l:=by
 have hlen:=y7 h g
 have hm:8≤(bW k).length:=by
  rw[g,jQ,List.length_map] at hlen
  omega
 unfold REq lN at *
 rw[bW,hp,if_pos rfl,h,List.take_append_of_le_length hm]
def j8 (r c:Value):Prop:=∀ g,r.ownBlock=some g→c.ownBlock≠some g
theorem j8.symm {r c:Value} (h:j8 r c):j8 c r:=fun g e k=>h g k e
theorem j8.keep {w w':World} {B:Nat} {e:TypeId} {r c:Value} {ys:List Value} (h:j8 r c) (hc:Own w B e c ys) (hg:w.grownBy w' r.ownBlock):Own w' B e c ys:=by
 refine hc.kept hg ?_
 cases hr:r.ownBlock with
 | none=>cases c.ownBlock <;> simp
 | some g=>exact .inr (h g hr)
theorem j8.next {w:World} {B:Nat} {e:TypeId} {r r' c:Value} {ys:List Value} (h:j8 r c) (hc:Own w B e c ys) (hr:r'.ownBlock=r.ownBlock∨r'.ownBlock=some w.heap.size):j8 r' c:=by
 intro g e1 e2
 rcases hr with k | k
 ·exact h g (k ▸ e1) e2
 ·have:=(hc.lt e2).2
  rw[k] at e1
  cases e1
  omega
theorem Own.shape {w:World} {B:Nat} {e:TypeId} {v:Value} {ys:List Value} (h:Own w B e v ys):∃ A c,v=.slice A ys.length c:=by
 rcases h.2 with ⟨rfl,h0⟩ | ⟨g,cap,cur,rfl,_⟩
 ·exact⟨none,0,by rw[h0]⟩
 ·exact⟨_,_,rfl⟩
set_option maxRecDepth 100000
theorem lD (w:World) :
  Calls Tryz.prog 79 #[] w fun e w'=>∃ r c,e=.returned (.tuple #[r,c])∧Own w' w.heap.size 187 r (R0.list.map V32)∧Own w' w.heap.size 187 c (K0.map V32)∧Below w.heap.size w w':=by
 go_enter Tryz.func79,Tryz.ntmps79
 go_wp2
 go_loopw [2,3,4] (fun r c n wr=>∃ (k:Nat) (l m:List UInt32),k≤310∧n=.int .u64 ((k:Int)+2)∧REq k l∧CEq k m∧Own wr w.heap.size 187 r (l.map V32)∧Own wr w.heap.size 187 c (m.map V32)∧j8 r c∧Below w.heap.size w wr) (fun _ _ n _=>400 - (intOf n).toNat)
 case atStart=>exact⟨0,[],[],by omega,rfl,rfl,rfl,Own.nil _ _ _,Own.nil _ _ _,(fun g e=>by cases e),Below.refl _ _⟩
 case round =>
  obtain ⟨k,l,m,hk,rfl,hR,hC,hro,hco,hap,ak⟩:=hrel
  have hsz:=ak.size
  obtain ⟨A2,c2,hv2⟩:=hco.shape
  obtain ⟨A1,c1,hv1⟩:=hro.shape
  rw[List.length_map] at hv1 hv2
  have hlen:=y7 hR hC
  by_cases hlt:k<310
  ·have NF:=hC.few hlt
   have Hro:=ae hro
   have Hco:=ae hco
   have HV1:=ae hv1
   have HV2:=ae hv2
   have hpr:=fun W=>CA ((k:Int)+2) (k+2) (by omega) (by omega) (by omega) W
   have HPR:=ae hpr
   cases hp:gU (k+2)
   ·have hR2:=hR.skip hp
    have hC2:=hC.skip hp
    rw[hp] at HPR
    rw[hv1,hv2]
    clear hpr hv1 hv2 hro hco hlen hR hC
    go_wp2_with fail
    refine(HPR.out wr).mono ?_
    rintro e w1 ⟨rfl,rfl⟩
    go_wp2
    go_roundw
    case rel=>exact⟨k+1,l,m,by omega,by go_num,hR2,hC2,HV1.out ▸ Hro.out,HV2.out ▸ Hco.out,HV1.out ▸ HV2.out ▸ hap,ak⟩
    case measure=>simp [intOf];omega
   ·rw[hp] at HPR
    by_cases hl8:l.length<8
    ·have HRm:Hid (∀ x:UInt32,x=UInt32.ofNat (ax (k+2) false)→REq (k+1) (l++[x])):=fun x hx=>hR.more hC hl8 hp hx
     have HCm:Hid (∀ x:UInt32,x=UInt32.ofNat (ax (k+2) true)→CEq (k+1) (m++[x])):=fun x hx=>hC.more hp hx
     rw[hv1] at Hro hap
     rw[hv2] at Hco hap
     rw[hv1,hv2]
     clear hpr hv1 hv2 hro hco hlen hR hC HV1 HV2
     go_wp2_with fail
     refine(HPR.out wr).mono ?_
     rintro e w1 ⟨rfl,rfl⟩
     go_wp2_with fail
     refine(nM _ (k+2) (by omega) (by omega) false wr).mono ?_
     rintro e w1 ⟨x,HX,rfl,hb1⟩
     have LI:Hid (Own w1 w.heap.size 187 (.slice A1 l.length c1) (l.map V32)):=Own.below Hro.out hb1 (Nat.le_refl _)
     have LN:Hid (Own w1 w.heap.size 187 (.slice A2 m.length c2) (m.map V32)):=Own.below Hco.out hb1 (Nat.le_refl _)
     have NZ:Below w.heap.size w w1:=ak.trans (hb1.mono hsz)
     have jf:=NZ.size
     have HL1:Hid ((l.map V32).length+[V32 x].length≤100000000):=by show _≤_;rw[List.length_map];simp;omega
     have Hap:=ae hap
     clear hap
     go_wp2_with (at_builtin;refine aA rfl (.tmp 16) (.tmp 19) 157 rfl w.heap.size 187 Tryz.underlying157 lT rfl (by decide) _ (l.map V32) rfl (LI.out.alloc _) _ [V32 x] rfl (az w1 187 [V32 x]) (nc [x]) HL1.out (by simp;omega) ?_;intro r2 w2 aC hg2 Ik)
     have QQ:Hid (Own w2 w.heap.size 187 r2 ((l++[x]).map V32)):=by rw[List.map_append];exact aC
     have Q3:Hid (Own w2 w.heap.size 187 (.slice A2 m.length c2) (m.map V32)):=Hap.out.keep (LN.out.alloc _) hg2
     have OS:Hid (j8 r2 (.slice A2 m.length c2)):=Hap.out.next (LN.out.alloc _) Ik
     have qb:Below w.heap.size w w2:=au (NZ.alloc jf _) (LI.out.alloc _) hg2 (Nat.le_refl _) (by simp;omega)
     clear aC hg2 Ik LI LN Hap Hro Hco HL1
     refine(nM _ (k+2) (by omega) (by omega) true w2).mono ?_
     rintro e w3 ⟨y,HY,rfl,hb3⟩
     have FX:Hid (Own w3 w.heap.size 187 r2 ((l++[x]).map V32)):=Own.below QQ.out hb3 (Nat.le_refl _)
     have F9:Hid (Own w3 w.heap.size 187 (.slice A2 m.length c2) (m.map V32)):=Own.below Q3.out hb3 (Nat.le_refl _)
     have ET:Below w.heap.size w w3:=qb.trans (hb3.mono qb.size)
     have BR:=ET.size
     have HL3:Hid ((m.map V32).length+[V32 y].length≤100000000):=by show _≤_;rw[List.length_map];simp;omega
     go_wp2_with (at_builtin;refine aA rfl (.tmp 21) (.tmp 24) 157 rfl w.heap.size 187 Tryz.underlying157 lT rfl (by decide) _ (m.map V32) rfl (F9.out.alloc _) _ [V32 y] rfl (az w3 187 [V32 y]) (nc [y]) HL3.out (by simp;omega) ?_;intro c4 w4 ia hg4 KT)
     go_roundw
     case rel =>
      refine⟨k+1,_,_,by omega,by go_num,HRm.out x HX.out,HCm.out y HY.out,OS.out.symm.keep (FX.out.alloc _) hg4,by rw[List.map_append];exact ia,(j8.next OS.out.symm (FX.out.alloc _) KT).symm,au (ET.alloc BR _) (F9.out.alloc _) hg4 (Nat.le_refl _) (by simp;omega)⟩
     case measure=>simp [intOf];omega
    ·have HRf:Hid (REq (k+1) l):=hR.full hC hl8 hp
     have HCm:Hid (∀ x:UInt32,x=UInt32.ofNat (ax (k+2) true)→CEq (k+1) (m++[x])):=fun x hx=>hC.more hp hx
     rw[hv1] at Hro hap
     rw[hv2] at Hco hap
     rw[hv1,hv2]
     have Hap:=ae hap
     clear hpr hv1 hv2 hro hco hlen hR hC HV1 HV2 hap
     go_wp2_with fail
     refine(HPR.out wr).mono ?_
     rintro e w1 ⟨rfl,rfl⟩
     go_wp2_with fail
     refine(nM _ (k+2) (by omega) (by omega) true wr).mono ?_
     rintro e w3 ⟨y,HY,rfl,hb3⟩
     have FX:Hid (Own w3 w.heap.size 187 (.slice A1 l.length c1) (l.map V32)):=Own.below Hro.out hb3 (Nat.le_refl _)
     have F9:Hid (Own w3 w.heap.size 187 (.slice A2 m.length c2) (m.map V32)):=Own.below Hco.out hb3 (Nat.le_refl _)
     have ET:Below w.heap.size w w3:=ak.trans (hb3.mono ak.size)
     have BR:=ET.size
     have HL3:Hid ((m.map V32).length+[V32 y].length≤100000000):=by show _≤_;rw[List.length_map];simp;omega
     go_wp2_with (at_builtin;refine aA rfl (.tmp 21) (.tmp 24) 157 rfl w.heap.size 187 Tryz.underlying157 lT rfl (by decide) _ (m.map V32) rfl (F9.out.alloc _) _ [V32 y] rfl (az w3 187 [V32 y]) (nc [y]) HL3.out (by simp;omega) ?_;intro c4 w4 ia hg4 KT)
     go_roundw
     case rel =>
      refine⟨k+1,_,_,by omega,by go_num,HRf.out,HCm.out y HY.out,Hap.out.symm.keep (FX.out.alloc _) hg4,by rw[List.map_append];exact ia,(j8.next Hap.out.symm (FX.out.alloc _) KT).symm,au (ET.alloc BR _) (F9.out.alloc _) hg4 (Nat.le_refl _) (by simp;omega)⟩
     case measure=>simp [intOf];omega
  ·obtain rfl:k=310:=by omega
   have hm:m=K0:=hC.all
   have hl:l=R0.list:=hR.all
   subst hm hl
   rw[show K0.length=64 from rfl] at hv2
   rw[hv2] at hco ⊢
   have Hro:=ae hro
   have Hco:=ae hco
   clear hR hC hlen hv1 hv2 hro hco
   go_wp2
   go_ret2
   exact⟨_,_,rfl,Hro.out,Hco.out,ak⟩
end Go.Proofs.YthbmknpbcgnabaaGreatDoor.Hm
end
section
namespace Go.Proofs.YthbmknpbcgnabaaGreatDoor.Hm
open Go.RowKit Sha
theorem Own.arg {w:World} {B:Nat} {v:Value} {bs:List UInt8} (h:Own w B 5 v (bs.map V8)):Arg w v bs:=by
 rcases h.2 with ⟨rfl,h0⟩ | ⟨g,cap,cur,rfl,_,hg,hc,_⟩
 ·exact .inl ⟨none,rfl,List.eq_nil_of_length_eq_zero (by simpa using h0)⟩
 ·rw[List.length_map] at hc
  refine .inr ⟨g,0,cap,by rw[List.length_map],(Array.getElem?_eq_some_iff.1 hg).1,hc,fun j u hu=>?_⟩
  have:=World.ownsRow.cells h (g:=g) rfl j u hu
  rwa [bD] at this
theorem dy {w:World} {v:Value} {bs:List UInt8} (h:Arg w v bs):bq w v (bs.map V8):=by
 rcases h with ⟨A,e,rfl⟩ | ⟨b,o,c,e,hb,_,hs⟩
 ·exact .inl ⟨A,e,rfl⟩
 ·exact .inr ⟨b,o,c,by rw[List.length_map];exact e,hb,hs⟩
theorem Arg.src {w:World} {A:Option Addr} {n cap:Nat} {bs:List UInt8} (h:Arg w (.slice A n cap) bs) (hp:0<bs.length):∃ ad,A=some ad∧∀ (j:Nat) v,(bs.map V8)[j]? = some v→w.cell? (ad.add j)=some v:=by
 rcases h with ⟨A',e,rfl⟩ | ⟨b,o,c,e,_,_,hs⟩
 ·simp at hp
 ·injection e with e1 _ _
  refine⟨_,e1,fun j v hv=>?_⟩
  rw[bD]
  exact hs j v hv
theorem Arg.form {w:World} {v:Value} {bs:List UInt8} (h:Arg w v bs):∃ A cap,v=.slice A bs.length cap:=by
 rcases h with ⟨A,e,rfl⟩ | ⟨b,o,c,e,_⟩
 ·exact⟨A,0,e⟩
 ·exact⟨_,c,e⟩
theorem Row.arg {w:World} {g:Nat} {t:TypeId} {bs:List UInt8} (h:Row w g t (bs.map V8)) (n:Nat) (hn:bs.length=n):Arg w (.slice (some ⟨g,0,none⟩) n n) bs :=
 .inr ⟨g,0,n,by rw[hn],h.lt,by omega,h.sees⟩
def aw (bs:List UInt8):ByteArray:=⟨bs.toArray⟩
theorem vu {a b:List UInt8}:aw a=aw b ↔ a=b:=by
 constructor
 ·intro h
  have:=congrArg (fun x:ByteArray=>x.data.toList) h
  simpa [aw] using this
 ·intro h;rw[h]
set_option maxRecDepth 100000
theorem bS {w:World} {v:Value} {bs:List UInt8} (h:Arg w v bs):(convert 22 9 v).run Tryz.prog w=.ok (.string (aw bs)) w:=by
 rcases h with ⟨A,rfl,rfl⟩ | ⟨b,o,cap,rfl,_,_,hs⟩
 ·cases A with
  | none=>exact run_convert_bytes_nil w 22 5 Tryz.underlying22 Tryz.underlying5 0 0 9 Tryz.underlying9
  | some ad =>
   rw[run_convert_bytes_string w 22 9 5 (some ad) 0 0 Tryz.underlying22 Tryz.underlying5 Tryz.underlying9]
   exact run_bytesToString w ad 0 0 [] (by simp [loadCells,loadCellsFrom])
 ·have hx:=run_convert_bytes_arg (P:=Tryz.prog) w 22 5 Tryz.underlying22 Tryz.underlying5 b o bs.length cap (bs.map fun x=>(x.toNat:Int)) (by simp) (fun i hi=>by
   have:=at8 hs i hi
   rw[this]
   simp [hi]) 9 Tryz.underlying9
  rw[hx]
  congr 2
  unfold aw
  have:(strOfNums (bs.map fun x=>(x.toNat:Int))).data.toList=bs:=by
   rw[strOfNums_data,List.map_map]
   conv=>rhs;rw[← List.map_id bs]
   apply List.map_congr_left
   intro x _
   simp
  cases hq:strOfNums (bs.map fun x=>(x.toNat:Int)) with
  | mk d=>rw[hq] at this;simp at this;rw[← this]
set_option maxRecDepth 512
def dg (bs:List UInt8):List UInt8:=dig (rP K0 bs)
theorem iz (bs:List UInt8):(dg bs).length=32:=lW _
def Tab (w:World):Prop:=0<w.heap.size∧ah w 0 0 (K0.map V32)
theorem Tab.below {w w':World} (h:Tab w) (hb:Below w.heap.size w w'):Tab w':=⟨Nat.lt_of_lt_of_le h.1 hb.size,h.2.below hb h.1⟩
def Vec (n:Nat) (bs:List UInt8) (rs:List Value):Prop:=rs=bs.map V8∧bs.length=n
section
variable {n:Nat} {bs:List UInt8} {rs:List Value}
theorem Vec.len (h:Vec n bs rs):rs.length=n:=by rw[h.1,List.length_map,h.2]
theorem Vec.size (h:Vec n bs rs):rs.toArray.size=n:=by rw[List.size_toArray,h.len]
theorem Vec.one (h:Vec n bs rs):rs.toArray.all (·.oneCell')=true:=by rw[h.1];exact ku bs
theorem Vec.mk (n:Nat) (bs:List UInt8) (h:bs.length=n):Vec n bs (bs.map V8):=⟨rfl,h⟩
theorem Vec.row {w:World} {g:Nat} {t:TypeId} (h:Vec n bs rs) (hr:Row w g t rs):Row w g t (bs.map V8):=h.1 ▸ hr
end
theorem AJ (v:Value) (bs:List UInt8) (hn:bs.length≤1000000) (w:World) (hT:Tab w) (h:Arg w v bs) :
  Calls Tryz.prog 128 #[v] w fun e w'=>∃ rs:List Value,Hid (Vec 32 (dg bs) rs)∧e=.returned (.agg rs.toArray)∧Below w.heap.size w w' :=
 (IG v K0 gi bs hn w hT.1 hT.2 h).mono fun _ _ h=>⟨_,Vec.mk 32 (dg bs) (iz bs),h⟩
def bf (key:List UInt8):List UInt8:=aS 64 (if 64<key.length then dg key else key)
theorem il (key:List UInt8):(bf key).length=64:=by
 rw[bf]
 split
 ·exact aB _ _ (by rw[iz];omega)
 ·exact aB _ _ (by omega)
def dZ (k:List UInt8) (m:UInt8):List UInt8:=k.map (· ^^^ m)
theorem gu (k:List UInt8) (m:UInt8):(dZ k m).length=k.length:=List.length_map _
def mac (key b:List UInt8):List UInt8:=dg (dZ (bf key) 92++dg (dZ (bf key) 54++b))
theorem eD (key b:List UInt8):(mac key b).length=32:=iz _
theorem dV (x y:UInt8):bits .xor .u8 (x.toNat:Int) y.toNat=((x ^^^ y).toNat:Int):=by
 rw[u8_xor_nat _ _ (lt8 x) (lt8 y),UInt8.toNat_xor]
theorem rE (k:List UInt8) (m:UInt8) (j:Nat) (h:j<k.length):dZ (k.take (j+1)) m=dZ (k.take j) m++[k.getD j 0 ^^^ m]:=by
 unfold dZ
 rw[List.take_succ_eq_append_getElem h,List.map_append,List.getD_eq_getElem?_getD,List.getElem?_eq_getElem h]
 rfl
def pX (n:Nat):List UInt8:=[UInt8.ofNat (n / 16777216),UInt8.ofNat (n / 65536),UInt8.ofNat (n / 256),UInt8.ofNat n]
def joined:List (List UInt8)→List UInt8
 | []=>[]
 | p::r=>pX p.length++p++joined r
theorem vQ (l:List (List UInt8)) (p:List UInt8):joined (l++[p])=joined l++(pX p.length++p):=by
 induction l with
 | nil=>simp [joined]
 | cons a r ih=>rw[List.cons_append,joined,joined,ih];simp only [List.append_assoc]
theorem om (l:List (List UInt8)) (j:Nat) (p:List UInt8) (h:l[j]? = some p):joined (l.take (j+1))=joined (l.take j)++(pX p.length++p):=by
 rw[List.take_add_one,h,Option.toList_some,vQ]
def iQ (w:World) (vs:List Value) (ps:List (List UInt8)):Prop:=vs.length=ps.length∧∀ (j:Nat) v p,vs[j]? = some v→ps[j]? = some p→Arg w v p
def dz (w:World) (v:Value) (ps:List (List UInt8)):Prop :=
 ∃ A cap vs,v=.slice A ps.length cap∧iQ w vs ps∧(0<ps.length→∃ b o,A=some ⟨b,o,none⟩∧b<w.heap.size∧ah w b o vs)
theorem iQ.below {w w':World} {vs:List Value} {ps:List (List UInt8)} (h:iQ w vs ps) (hb:Below w.heap.size w w'):iQ w' vs ps:=⟨h.1,fun j v p hv hp=>(h.2 j v p hv hp).below hb⟩
theorem dz.below {w w':World} {v:Value} {ps:List (List UInt8)} (h:dz w v ps) (hb:Below w.heap.size w w'):dz w' v ps:=by
 obtain ⟨A,cap,vs,e,hv,hs⟩:=h
 refine⟨A,cap,vs,e,hv.below hb,fun hp=>?_⟩
 obtain ⟨b,o,eA,hl,hs⟩:=hs hp
 exact⟨b,o,eA,Nat.lt_of_lt_of_le hl hb.size,hs.below hb hl⟩
theorem dz.at_ {w:World} {A:Option Addr} {n cap:Nat} {ps:List (List UInt8)} (h:dz w (.slice A n cap) ps) (j:Nat) (hj:j<n) :
  ∃ b o A' c' p,A=some ⟨b,o,none⟩∧b<w.heap.size∧ps[j]? = some p∧w.cell? ⟨b,o+j,none⟩=some (.slice A' p.length c')∧Arg w (.slice A' p.length c') p:=by
 obtain ⟨A0,kI,vs,e,hv,hs⟩:=h
 injection e with e1 e2 e3
 subst e1 e2 e3
 obtain ⟨b,o,eA,hl,hs⟩:=hs (by omega)
 have hvj:j<vs.length:=by rw[hv.1];exact hj
 have hp:=List.getElem?_eq_getElem hj
 have hvv:=List.getElem?_eq_getElem hvj
 have ha:=hv.2 j _ _ hvv hp
 obtain ⟨A',c',e'⟩:=ha.form
 refine⟨b,o,A',c',_,eA,hl,hp,?_,?_⟩
 ·rw[← e'];exact hs j _ hvv
 ·rw[← e'];exact ha
theorem dz.len {w:World} {A:Option Addr} {n cap:Nat} {ps:List (List UInt8)} (h:dz w (.slice A n cap) ps):ps.length=n:=by
 obtain ⟨A0,kI,vs,e,hv,hs⟩:=h
 injection e with e1 e2 e3
 exact e2.symm
end Go.Proofs.YthbmknpbcgnabaaGreatDoor.Hm
end
section
namespace Go.Proofs.YthbmknpbcgnabaaGreatDoor.Hm
open Go.RowKit Sha
end Go.Proofs.YthbmknpbcgnabaaGreatDoor.Hm
end
