/- Of the walk. -/
import Derived.Test.YthbmknpbcgnabaaGreatDoorB10
set_option maxHeartbeats 40000000
section
namespace Go.Proofs.YthbmknpbcgnabaaGreatDoor
open Go.RowKit Aes
def Z4:List Value:=List.replicate 4 (.int .u8 0)
theorem uV (w:World):(zeroValue 269).run Tryz.prog w=.ok (.agg Z4.toArray) w:=by kernel_rfl
theorem Jy {wr:World} {g:Nat} {t:TypeId} {new old:List UInt8} (hn:new.length=4) (ho:old.length=4) (h:Row wr g t ((upd new old 4).map V8)) :
  ∃ ts:List Value,Hid (Vec 4 new ts)∧Hid (Row wr g t ts)∧Hid (ts.toArray.size=4)∧Hid (ts.toArray.all (·.oneCell')=true):=by
 have hv:=Vec.mk 4 new hn
 refine⟨_,hv,?_,hv.size,hv.one⟩
 rw[l9 hn ho] at h
 exact h
set_option maxRecDepth 100000
theorem x8 (S:Nat) (b:List UInt8) (rs:List Value) (hv:Vec 4 b rs) (w:World) (hl:S<w.heap.size) (hS:ah w S 0 (SBL.map V8)) :
  Calls Tryz.prog 184 #[.pointer (some ⟨S,0,none⟩),.agg rs.toArray] w fun e w'=>∃ ts:List Value,Hid (Vec 4 (fR b) ts)∧e=.returned (.agg ts.toArray)∧Below w.heap.size w w':=by
 have HV:=ae hv
 have HS:=ae hS
 have Hsz:Hid (rs.toArray.size=4):=hv.size
 have HR0:Hid (Row ((w.alloc (.cells rs.toArray 269)).alloc (.cells Z4.toArray 269)) w.heap.size 269 rs):=(Row.new w 269 rs).alloc _
 have hz:=uV
 have dc:Hid (b.length=(fR b).length):=(iW b).symm
 have cA:Hid ((fR b).length=4):=(iW b).trans hv.2
 clear hv hS
 go_enter Tryz.func184,Tryz.ntmps184
 go_wp2_with (refine wpList_load_row rfl 269 (.tmp 3) rfl w.heap.size rfl 269 rs.toArray (0,0) _ HR0.out Tryz.underlying269 rfl (by rw[Hsz.out];kernel_rfl) ?_)
 clear hz
 go_loopw [5,6,8] (fun _ _ i wr=>∃ k:Nat,k≤4∧i=.int .i64 k∧Row wr w.heap.size 269 ((upd (fR b) b k).map V8)∧Row wr (w.heap.size+1) 269 Z4∧Below w.heap.size w wr) (fun _ _ i _=>4 - (intOf i).toNat)
 case atStart=>exact⟨0,by omega,rfl,by rw[fC];exact HV.out.row HR0.out,Row.newAt _ Z4 (by simp),((Below.refl _ _).alloc (Nat.le_refl _) _).alloc (by simp) _⟩
 case round =>
  obtain ⟨k,hk,rfl,hrow,hzr,ak⟩:=hrel
  by_cases hlt:k<4
  ·have hix:=jP 269 4 Tryz.underlying269 rs k hlt _ (HV.out.at_ k hlt)
   have HN:Hid ((fR b).getD k 0=sb (b.getD k 0)):=tu b k (by rw[HV.out.2];exact hlt)
   have hc:wr.cell? ⟨w.heap.size,k,none⟩=some (.int .u8 (b.getD k 0).toNat):=dJ hrow dc.out k (Nat.le_refl _) (by rw[cA.out];exact hlt)
   generalize b.getD k 0=x at *
   have hx:=lt8 x
   have hs:wr.cell? ⟨S,x.toNat,none⟩=some (.int .u8 (sb x).toNat):=by
    have:=at8 (HS.out.below ak hl) x.toNat (by rw[eF];exact hx)
    rwa [Nat.zero_add,uF] at this
   have hf:wr.frozen? ⟨w.heap.size,k,none⟩=false:=hrow.free k
   have dR:=ae hrow
   clear hrow
   go_wp2
   go_roundw
   case rel =>
    refine⟨k+1,by omega,by go_num,eY dR.out dc.out (by rw[cA.out];exact hlt) (by rw[HN.out]),hzr.apart (by show w.heap.size+1≠w.heap.size;omega) _,ak.setCell (by show w.heap.size≤w.heap.size;omega) _⟩
   case measure=>simp [intOf];omega
  ·obtain rfl:k=4:=by omega
   rw[show ((4:Nat):Int)=4 from rfl]
   obtain ⟨ts,Hts,HRt,Htz,aN⟩:=Jy cA.out (dc.out.trans cA.out) hrow
   clear hrow
   go_wp2_with (first
    | (refine wpList_load_row rfl 269 (.tmp 3) rfl w.heap.size rfl 269 ts.toArray (0,0) _ HRt.out Tryz.underlying269 rfl (by rw[Htz.out];kernel_rfl) ?_)
    | (refine wpList_store_row rfl 269 (.tmp 4) (.tmp 20) rfl (w.heap.size+1) ts.toArray rfl rfl 269 _ hzr (by rw[Htz.out];kernel_rfl) (by rw[Htz.out];rfl) aN.out ?_))
   have bj:=hzr.whole ts
   have hinfo:(Tryz.prog.info? 269).map (·.size)=some ts.toArray.size:=by rw[Htz.out];kernel_rfl
   refine bodyPost_ret (v:=.agg ts.toArray) (results_cell_row rfl _ _ (w.heap.size+1) 269 ts.toArray (0,0) _ rfl bj Tryz.underlying269 rfl hinfo) rfl ?_
   exact⟨ts,Hts,rfl,ag ak (by omega) _⟩
theorem mL (v u:List UInt8) (rs us:List Value) (hv:Vec 4 v rs) (hu:Vec 4 u us) (w:World) :
  Calls Tryz.prog 187 #[.agg rs.toArray,.agg us.toArray] w fun e w'=>∃ ts:List Value,Hid (Vec 4 (a8 v u) ts)∧e=.returned (.agg ts.toArray)∧Below w.heap.size w w':=by
 have HV:=ae hv
 have HU:=ae hu
 have Hsz:Hid (us.toArray.size=4):=hu.size
 have HR1:Hid (Row (((w.alloc (.cells rs.toArray 269)).alloc (.cells us.toArray 269)).alloc (.cells Z4.toArray 269)) (w.heap.size+1) 269 us):=(Row.newAt 269 us (by simp)).alloc _
 have hz:=uV
 have cA:Hid ((a8 v u).length=4):=dS _ _ 4 hv.2 hu.2
 have dc:Hid (v.length=(a8 v u).length):=hv.2.trans cA.out.symm
 clear hv hu
 go_enter Tryz.func187,Tryz.ntmps187
 go_wp2_with (refine wpList_load_row rfl 269 (.tmp 3) rfl (w.heap.size+1) rfl 269 us.toArray (0,0) _ HR1.out Tryz.underlying269 rfl (by rw[Hsz.out];kernel_rfl) ?_)
 clear hz
 go_loopw [5,6,8] (fun _ _ i wr=>∃ k:Nat,k≤4∧i=.int .i64 k∧Row wr w.heap.size 269 ((upd (a8 v u) v k).map V8)∧Row wr (w.heap.size+1+1) 269 Z4∧Below w.heap.size w wr) (fun _ _ i _=>4 - (intOf i).toNat)
 case atStart=>exact⟨0,by omega,rfl,by rw[fC];exact HV.out.row (((Row.new w 269 rs).alloc _).alloc _),Row.newAt _ Z4 (by simp),(((Below.refl _ _).alloc (Nat.le_refl _) _).alloc (by simp) _).alloc (by simp;omega) _⟩
 case round =>
  obtain ⟨k,hk,rfl,hrow,hzr,ak⟩:=hrel
  by_cases hlt:k<4
  ·have hix:=jP 269 4 Tryz.underlying269 us k hlt _ (HU.out.at_ k hlt)
   have HN:Hid ((a8 v u).getD k 0=v.getD k 0 ^^^ u.getD k 0):=sV v u k (by rw[HV.out.2];exact hlt) (by rw[HU.out.2];exact hlt)
   have hc:wr.cell? ⟨w.heap.size,k,none⟩=some (.int .u8 (v.getD k 0).toNat):=dJ hrow dc.out k (Nat.le_refl _) (by rw[cA.out];exact hlt)
   have HX:=ae (dV (v.getD k 0) (u.getD k 0))
   generalize v.getD k 0=x at *
   generalize u.getD k 0=y at *
   have hf:wr.frozen? ⟨w.heap.size,k,none⟩=false:=hrow.free k
   have dR:=ae hrow
   clear hrow
   go_wp2
   go_roundw
   case rel =>
    refine⟨k+1,by omega,by go_num,eY dR.out dc.out (by rw[cA.out];exact hlt) (by rw[HN.out];exact HX.out),hzr.apart (by show w.heap.size+1+1≠w.heap.size;omega) _,ak.setCell (by show w.heap.size≤w.heap.size;omega) _⟩
   case measure=>simp [intOf];omega
  ·obtain rfl:k=4:=by omega
   rw[show ((4:Nat):Int)=4 from rfl]
   obtain ⟨ts,Hts,HRt,Htz,aN⟩:=Jy cA.out (dc.out.trans cA.out) hrow
   clear hrow
   go_wp2_with (first
    | (refine wpList_load_row rfl 269 (.tmp 2) rfl w.heap.size rfl 269 ts.toArray (0,0) _ HRt.out Tryz.underlying269 rfl (by rw[Htz.out];kernel_rfl) ?_)
    | (refine wpList_store_row rfl 269 (.tmp 4) (.tmp 19) rfl (w.heap.size+1+1) ts.toArray rfl rfl 269 _ hzr (by rw[Htz.out];kernel_rfl) (by rw[Htz.out];rfl) aN.out ?_))
   have bj:=hzr.whole ts
   have hinfo:(Tryz.prog.info? 269).map (·.size)=some ts.toArray.size:=by rw[Htz.out];kernel_rfl
   refine bodyPost_ret (v:=.agg ts.toArray) (results_cell_row rfl _ _ (w.heap.size+1+1) 269 ts.toArray (0,0) _ rfl bj Tryz.underlying269 rfl hinfo) rfl ?_
   exact⟨ts,Hts,rfl,ag ak (by omega) _⟩
theorem pM (a b c d:UInt8) (rs:List Value) (hv:Vec 4 [a,b,c,d] rs) (w:World) :
  Calls Tryz.prog 185 #[.agg rs.toArray] w fun e w'=>∃ ts:List Value,Hid (Vec 4 [b,c,d,a] ts)∧e=.returned (.agg ts.toArray)∧Below w.heap.size w w':=by
 have HV:=ae hv
 have hz:=uV
 have hrow:Row ((w.alloc (.cells rs.toArray 269)).alloc (.cells Z4.toArray 269)) w.heap.size 269 ([a,b,c,d].map V8):=hv.row ((Row.new w 269 rs).alloc _)
 have HZ:Hid (Row ((w.alloc (.cells rs.toArray 269)).alloc (.cells Z4.toArray 269)) (w.heap.size+1) 269 Z4):=Row.newAt 269 Z4 (by simp)
 have HB:Hid (Below w.heap.size w ((w.alloc (.cells rs.toArray 269)).alloc (.cells Z4.toArray 269))):=((Below.refl _ _).alloc (Nat.le_refl _) _).alloc (by simp) _
 have c0:=mz hrow 0 (by simp)
 have c1:=mz hrow 1 (by simp)
 have c2:=mz hrow 2 (by simp)
 have c3:=mz hrow 3 (by simp)
 simp only [List.getD_cons_zero,List.getD_cons_succ] at c0 c1 c2 c3
 clear hrow hv
 obtain ⟨ts,hts⟩:∃ ts:List Value,ts=[b,c,d,a].map V8:=⟨_,rfl⟩
 have Hts:Hid (Vec 4 [b,c,d,a] ts):=⟨hts,rfl⟩
 have Htz:Hid (ts.toArray.size=4):=Hts.out.size
 have aN:Hid (ts.toArray.all (·.oneCell')=true):=Hts.out.one
 have HTS:=ae hts
 clear hts
 go_enter Tryz.func185,Tryz.ntmps185
 go_wp2_with (refine wpList_store_row rfl 269 (.tmp 2) (.tmp 11) rfl (w.heap.size+1) ts.toArray rfl (by rw[HTS.out];rfl) 269 _ HZ.out (by rw[Htz.out];kernel_rfl) (by rw[Htz.out];rfl) aN.out ?_)
 have bj:=HZ.out.whole ts
 have hinfo:(Tryz.prog.info? 269).map (·.size)=some ts.toArray.size:=by rw[Htz.out];kernel_rfl
 refine bodyPost_ret (v:=.agg ts.toArray) (results_cell_row rfl _ _ (w.heap.size+1) 269 ts.toArray (0,0) _ rfl bj Tryz.underlying269 rfl hinfo) rfl ?_
 exact⟨ts,Hts,rfl,ag HB.out (by omega) _⟩
end Go.Proofs.YthbmknpbcgnabaaGreatDoor
end
section
namespace Go.Proofs.YthbmknpbcgnabaaGreatDoor
open Go.RowKit Aes
def DA (cs:List Value):Nat→List Value→List Value
 | _,[]=>cs
 | o,v::r=>DA (cs.set o v) (o+1) r
theorem Row.uA {g:Nat} {t:TypeId}:∀ (ds cs:List Value) (o:Nat) (w:World),Row w g t cs→Row (w.setCells g o ds) g t (DA cs o ds)
 | [],_,_,_,h=>h
 | v::r,cs,o,w,h=>by rw[World.setCells,DA];exact Row.uA r (cs.set o v) (o+1) _ (h.set o v)
theorem Row.qp {g g':Nat} {t:TypeId} (hg:g≠g'):∀ (ds cs:List Value) (o:Nat) (w:World),Row w g t cs→Row (w.setCells g' o ds) g t cs
 | [],_,_,_,h=>h
 | v::r,cs,o,w,h=>by rw[World.setCells];exact Row.qp hg r cs (o+1) _ (h.apart hg v)
theorem dv {a:World} {B g:Nat} (hg:B≤g):∀ (ds:List Value) (o:Nat) (w:World),Below B a w→Below B a (w.setCells g o ds)
 | [],_,_,h=>h
 | v::r,o,w,h=>by rw[World.setCells];exact dv hg r (o+1) _ (h.setCell hg v)
theorem Row.DU {w:World} {g:Nat} {t:TypeId} {cs:List Value} (h:Row w g t cs) (o:Nat) (ds:List Value) (hd:∀ j v,ds[j]? = some v→cs[o+j]? = some v):w.rangeAt g o ds:=fun j v hv=>by
 rw[h.cell];exact hd j v hv
theorem Row.gw {w:World} {g:Nat} {t:TypeId} {cs:List Value} (h:Row w g t cs) (o n:Nat) (hn:o+n≤cs.length):w.there g o n:=fun j hj =>
 ⟨by rw[h.cell,List.getElem?_eq_getElem (by omega)];rfl,h.free _⟩
def kL:List Value:=List.replicate 176 (.int .u8 0)
theorem uU (w:World):(zeroValue 270).run Tryz.prog w=.ok (.agg kL.toArray) w:=by kernel_rfl
def fl (key:List UInt8) (n:Nat):List UInt8:=(wk key n).flatten
def z8 (k:Nat):UInt8:=Aes.mark k
def wd (key:List UInt8) (n j:Nat):List UInt8:=(wk key n).getD j []
theorem kW (key:List UInt8) (hk:key.length=16) (n:Nat):(fl key n).length=4*n:=by rw[fl,eE _ (l6 key hk n),dF]
theorem Ip (key:List UInt8) (n:Nat) (h:n<4):fl key (n+1)=fl key n++(key.drop (4*n)).take 4:=by
 rw[fl,sY key n h,List.flatten_append];simp [fl]
theorem Aw (key:List UInt8) (n:Nat) (h:4≤n):fl key (n+1)=fl key n++a8 (wd key n (n - 4)) (tK (wk key n)):=by
 rw[fl,sX key n h,List.flatten_append];simp [fl,wd]
theorem mW (key:List UInt8) (hk:key.length=16) (n j:Nat) (h:j<n):(wd key n j).length=4:=l6 key hk n _ (jx (by rw[dF];exact h))
theorem L8 (key:List UInt8) (hk:key.length=16) (n j m:Nat) (h:j<n) (hm:m<4):(fl key n).getD (4*j+m) 0=(wd key n j).getD m 0:=uk _ (l6 key hk n) j m hm (by rw[dF];exact h)
theorem kj {w:World} {g:Nat} {t:TypeId} {key:List UInt8} (hk:key.length=16) (n j:Nat) (hj:j<n) (hn:n≤44) (h:Row w g t ((aS 176 (fl key n)).map V8)) (ds:List Value) (hd:Vec 4 (wd key n j) ds):w.rangeAt g (j*4) ds:=by
 refine h.DU _ _ fun m v hv=>?_
 have hm:m<4:=by have:=(List.getElem?_eq_some_iff.1 hv).1;rw[hd.len] at this;exact this
 rw[List.getElem?_map,mB _ _ _ (by omega),show j*4+m=4*j+m by omega,L8 key hk n j m hj hm]
 rw[hd.at_ m hm] at hv
 exact hv
theorem Iy (l x:List UInt8) (o:Nat) (ho:o=l.length) (hx:x.length=4) (hn:o+4≤176):splice ((aS 176 l).map V8) o (x.map V8)=(aS 176 (l++x)).map V8:=by
 subst ho
 rw[splice,← List.map_take,List.length_map,← List.map_drop,← List.map_append,← List.map_append]
 congr 1
 unfold aS
 rw[List.take_left' rfl,List.drop_append,List.drop_eq_nil_of_le (by omega),List.nil_append,List.drop_replicate,List.length_append,hx,List.append_assoc]
 congr 2
 congr 1
 omega
theorem Oq (key:List UInt8):kL=(aS 176 (fl key 0)).map V8:=by
 rw[kL,fl,wk,List.flatten_nil,aS,List.nil_append,List.map_replicate];rfl
theorem Jk (l x y:List UInt8) (zs:List Value) (hz:Vec 4 (a8 x y) zs) (o:Nat) (ho:l.length=o) (hn:o+4≤176):DA ((aS 176 l).map V8) o zs=(aS 176 (l++a8 x y)).map V8:=by
 subst ho
 have hl:=hz.2
 rw[hz.1]
 match h:a8 x y,hl with
 | [a,b,c,d],_ =>
  simp only [List.map_cons,List.map_nil,DA]
  rw[← List.map_set,← List.map_set,← List.map_set,← List.map_set]
  rw[na 176 l a b c d hn]
theorem four (l:List UInt8) (h:l.length=4):∃ a b c d:UInt8,l=[a,b,c,d]:=by
 match l,h with
 | [a,b,c,d],_=>exact⟨_,_,_,_,rfl⟩
theorem On:Tryz.prog.underlying 25=some (.array (Tryz.prog.arrayLen 25) (Tryz.prog.elem 25)):=by kernel_rfl
theorem Jj:Tryz.prog.arrayLen 25=16:=by kernel_rfl
theorem QF (W:World):(sizeOf (Tryz.prog.elem 25)).run Tryz.prog W=.ok 1 W:=by kernel_rfl
theorem Bg (O o:Nat) (ho:o<16) (W:World) :
  (Instr.sliceAt 25 (.pointer (some ⟨O,0,none⟩)) (some (.int .i64 (o:Int))) none none).run Tryz.prog W=.ok (.slice (some ⟨O,o,none⟩) (16 - o) (16 - o)) W:=by
 rw[run_sliceAt_array_l W 25 ⟨O,0,none⟩ On .i64 _ (by omega) (by rw[Jj];omega),QF,Jj,show ((o:Nat):Int).toNat=o by omega]
 simp only [Result.andThen_ok,slicedAt]
 rw[if_neg (by omega),Nat.mul_one]
 congr 3
 unfold Addr.add
 split <;> simp_all
set_option maxRecDepth 100000
theorem q8 (S:Nat) (key:List UInt8) (rs:List Value) (hv:Vec 16 key rs) (w:World) (hl:S<w.heap.size) (hS:ah w S 0 (SBL.map V8)) :
  Calls Tryz.prog 174 #[.agg rs.toArray,.pointer (some ⟨S,0,none⟩)] w fun e w'=>∃ ts:List Value,Hid (Vec 176 (rks key) ts)∧e=.returned (.agg ts.toArray)∧Below w.heap.size w w':=by
 have HV:=ae hv
 have HS:=ae hS
 have hz:=uU
 clear hv hS
 go_enter Tryz.func174,Tryz.ntmps174
 go_wp2
 clear hz
 go_loopw [6,10] (fun _ i wr=>∃ k:Nat,k≤4∧i=.int .i64 k∧Row wr w.heap.size 25 rs∧Row wr (w.heap.size+1) 270 kL∧Row wr (w.heap.size+1+1) 270 ((aS 176 (fl key k)).map V8)∧Below w.heap.size w wr) (fun _ i _=>4 - (intOf i).toNat)
 case atStart =>
  refine⟨0,by omega,rfl,((Row.new w 25 rs).alloc _).alloc _,(Row.newAt _ kL (by simp)).alloc _,?_,(((Below.refl _ _).alloc (Nat.le_refl _) _).alloc (by simp) _).alloc (by simp;omega) _⟩
  rw[← Oq]
  exact Row.newAt _ kL (by simp)
 case round =>
  obtain ⟨k,hk,rfl,hr0,hzr,hrow,ak⟩:=hrel
  by_cases hlt:k<4
  ·have HF:=ae (Ip key k hlt)
   have Hxl:Hid (((key.drop (4*k)).take 4).length=4):=by show _=_;rw[List.length_take,List.length_drop,HV.out.2];omega
   have HL:Hid (4*k=(fl key k).length):=(kW key HV.out.2 k).symm
   have HSp:=ae (Iy (fl key k) ((key.drop (4*k)).take 4) (4*k) HL.out Hxl.out (by omega))
   have LS:Hid (∀ (j:Nat) v,(((key.drop (4*k)).take 4).map V8)[j]? = some v→wr.cell? ⟨w.heap.size,4*k+j,none⟩=some v):=fun j v hv=>by
    have:=(HV.out.row hr0).sees.piece (4*k) 4 j v (by rw[← List.map_drop,← List.map_take];exact hv)
    rwa [Nat.zero_add] at this
   have H1:=ae (bI ((key.drop (4*k)).take 4))
   have Hcl:Hid (((aS 176 (fl key k)).map V8).length=176):=by show _=_;rw[List.length_map,aB _ _ (by rw[← HL.out];omega)]
   obtain ⟨xs,hxs⟩:∃ xs,xs=((key.drop (4*k)).take 4).map V8:=⟨_,rfl⟩
   obtain ⟨cs,hcs⟩:∃ cs,cs=(aS 176 (fl key k)).map V8:=⟨_,rfl⟩
   have Oy:Hid (xs.length=4):=by rw[hxs];show _=_;rw[List.length_map];exact Hxl.out
   rw[← hxs] at LS H1 HSp
   rw[← hcs] at Hcl HSp hrow
   rw[← HF.out] at HSp
   have dR:=ae hrow
   clear hxs hcs hrow HF
   obtain ⟨o,ho⟩:∃ o,o=4*k:=⟨_,rfl⟩
   rw[← ho] at LS HSp
   have e1:IntKind.i64.wrap ((k:Int)*4)=(o:Int):=by rw[IntWalk.i64_in _ (by omega)];omega
   have hsl:=fun W=>Bg w.heap.size o (by omega) W
   have QW:Hid (xs.length=Nat.min (16 - o) 4):=by rw[Oy.out];exact(Nat.min_eq_right (by omega)).symm
   have Q0:Hid (k*4+xs.length≤cs.length):=by rw[Oy.out,Hcl.out];show _≤_;omega
   have Hok:Hid (o=k*4):=by show _=_;omega
   clear ho
   go_wp2
   have Qg:(k:Int)<44:=by omega
   refine wp_region_still_tail 6 (by kernel_rfl) (by kernel_rfl) ?_
   simp only [List.take_succ_cons,List.take_zero,List.drop_succ_cons,List.drop_zero]
   repeat still_step
   refine wpStill_nil ?_
   clear e1 hsl Qg
   change wpList _ _ _ _ _ wr.drew
   have OC:Hid (wr.drew.heap[w.heap.size+1+1]? = some (.cells cs.toArray 270 (0,0))):=dR.out.drew
   have QT:Hid (0<xs.length→(some (⟨w.heap.size+1+1,k*4,none⟩:Addr))=some ⟨w.heap.size+1+1,k*4,none⟩∧∃ ad,(some (⟨w.heap.size,o,none⟩:Addr))=some ad∧∀ (j:Nat) v,xs[j]? = some v→wr.drew.cell? (ad.add j)=some v):=by
    intro _
    refine⟨rfl,_,rfl,fun j v hv=>?_⟩
    rw[bD]
    exact LS.out j v hv
   have HB:Hid (Below (w.heap.size+1+1) wr.drew wr.drew):=Below.refl _ _
   go_wp2_with (refine wpList_copy_splice rfl (.tmp 15) (.tmp 18) 22 22 rfl 5 Tryz.underlying22 qj _ _ 4 4 (16 - o) (16 - o) rfl rfl (w.heap.size+1+1) (k*4) cs 270 OC.out xs QW.out QT.out Q0.out H1.out (w.heap.size+1+1) wr.drew HB.out (Nat.le_refl _) ?_;intro w1 Hg1 hb1)
   go_roundw
   case rel =>
    refine⟨k+1,by omega,by go_num,hr0.drew.below hb1 (by omega),hzr.drew.below hb1 (by omega),?_,(below_drewN ak 1).trans (hb1.mono (by omega))⟩
    have:=Hg1.out
    rw[← Hok.out,HSp.out] at this
    exact this
   case measure=>simp [intOf];omega
  ·obtain rfl:k=4:=by omega
   rw[show ((4:Nat):Int)=4 from rfl]
   go_wp2
   go_loopw [7,8,9] (fun m i _ wr=>∃ (n:Nat) (x:UInt8),n≤40∧i=.int .i64 ((n:Int)+4)∧m=.int .u8 x.toNat∧Hid (x=z8 ((n+3) / 4))∧Row wr (w.heap.size+1) 270 kL∧Row wr (w.heap.size+1+1) 270 ((aS 176 (fl key (n+4))).map V8)∧Below w.heap.size w wr) (fun _ i _ _=>44 - (intOf i).toNat)
   case atStart=>exact⟨0,1,by omega,rfl,rfl,(show (1:UInt8)=z8 0 from rfl),hzr,hrow,ak⟩
   case round =>
    clear hr0 hzr hrow ak
    obtain ⟨n,x,hn,rfl,rfl,Hx,hzr,hrow,ak⟩:=hrel
    by_cases hlt:n<40
    ·have dR:=ae hrow
     obtain ⟨ts,hts⟩:∃ ts:List Value,ts=(wd key (n+4) (n+3)).map V8:=⟨_,rfl⟩
     have Hts:Hid (Vec 4 (wd key (n+4) (n+3)) ts):=⟨hts,mW key HV.out.2 _ _ (by omega)⟩
     have Htz:Hid (ts.toArray.size=4):=Hts.out.size
     have aN:Hid (ts.toArray.all (·.oneCell')=true):=Hts.out.one
     have IM:Hid ((Tryz.prog.info? 269).map (·.size)=some ts.length):=by show _=_;rw[Hts.out.len];kernel_rfl
     have HRg:Hid (wr.rangeAt (w.heap.size+1+1) ((n+3)*4) ts):=kj HV.out.2 (n+4) (n+3) (by omega) (by omega) hrow ts Hts.out
     have hz:=uV
     clear hts hrow
     have HB0:Hid (Below wr.heap.size wr ((wr.alloc (.cells Z4.toArray 269)).setRow wr.heap.size ts.toArray)):=ag ((Below.refl _ _).alloc (Nat.le_refl _) _) (Nat.le_refl _) _
     have HT0:Hid (Row ((wr.alloc (.cells Z4.toArray 269)).setRow wr.heap.size ts.toArray) wr.heap.size 269 ts):=(Row.new wr 269 Z4).whole ts
     have Kv:((wr.alloc (.cells Z4.toArray 269)).setRow wr.heap.size ts.toArray).heap.size=wr.heap.size+1:=by simp
     have dD:w.heap.size+1+1<wr.heap.size:=dR.out.lt
     by_cases h4:n % 4=0
     ·have hB:((n:Int) % 4 == 0)=true:=by simp;omega
      go_wp2_with (first
       | (refine wpList_load_mid rfl 269 (.tmp 27) rfl (w.heap.size+1+1) ((n+3)*4) rfl ts _ HRg.out Tryz.underlying269 rfl IM.out ?_)
       | (refine wpList_store_row rfl 269 (.tmp 9) (.tmp 28) rfl wr.heap.size ts.toArray rfl rfl 269 _ (Row.new wr _ Z4) (by rw[Htz.out];kernel_rfl) (by rw[Htz.out];rfl) aN.out ?_)
       | (refine wpList_load_row rfl 269 (.tmp 9) rfl wr.heap.size rfl 269 ts.toArray (0,0) _ HT0.out Tryz.underlying269 rfl (by rw[Htz.out];kernel_rfl) ?_))
      generalize (wr.alloc (.cells Z4.toArray 269)).setRow wr.heap.size ts.toArray=w1 at *
      obtain ⟨a,b,c,d,hw4⟩:=four _ Hts.out.2
      have HW4:=ae hw4
      rw[hw4] at Hts
      clear hw4
      refine(pM a b c d ts Hts.out w1).mono ?_
      rintro e w2 ⟨qs,Hqs,rfl,hb2⟩
      go_wp2_with fail
      refine(x8 S [b,c,d,a] qs Hqs.out w2 ?_ ?_).mono ?_
      ·have:=hb2.size;omega
      ·exact(HS.out.below (ak.trans ((HB0.out.trans (hb2.mono (by omega))).mono (by omega))) hl)
      rintro e w3 ⟨us,Hus,rfl,hb3⟩
      have HT3:Hid (Row w3 wr.heap.size 269 ts):=(HT0.out.below hb2 (by omega)).below hb3 (by have:=hb2.size;omega)
      have HB3:Hid (Below wr.heap.size wr w3):=HB0.out.trans ((hb2.trans (hb3.mono hb2.size)).mono (by omega))
      have Huz:Hid (us.toArray.size=4):=Hus.out.size
      have JF:Hid (us.toArray.all (·.oneCell')=true):=Hus.out.one
      have hT4:Row (w3.setRow wr.heap.size us.toArray) wr.heap.size 269 us:=HT3.out.whole us
      have hB4:Below wr.heap.size wr (w3.setRow wr.heap.size us.toArray):=ag HB3.out (Nat.le_refl _) _
      have hc0:(w3.setRow wr.heap.size us.toArray).cell? ⟨wr.heap.size,0,none⟩=some (.int .u8 (sb b).toNat):=mz (Hus.out.row hT4) 0 (by rw[Hus.out.2];omega)
      have hf0:(w3.setRow wr.heap.size us.toArray).frozen? ⟨wr.heap.size,0,none⟩=false:=hT4.free 0
      have HXm:=ae (dV (sb b) x)
      obtain ⟨vs,hvs⟩:∃ vs:List Value,vs=us.set 0 (.int .u8 (bits .xor .u8 ((sb b).toNat:Int) x.toNat)):=⟨_,rfl⟩
      have HT4:Hid (Row ((w3.setRow wr.heap.size us.toArray).setCell ⟨wr.heap.size,0,none⟩ (.int .u8 (bits .xor .u8 ((sb b).toNat:Int) x.toNat))) wr.heap.size 269 vs):=by rw[hvs];exact hT4.set 0 _
      have hB5:Below wr.heap.size wr ((w3.setRow wr.heap.size us.toArray).setCell ⟨wr.heap.size,0,none⟩ (.int .u8 (bits .xor .u8 ((sb b).toNat:Int) x.toNat))):=hB4.setCell (Nat.le_refl _) _
      have HR4:Hid (Row ((w3.setRow wr.heap.size us.toArray).setCell ⟨wr.heap.size,0,none⟩ (.int .u8 (bits .xor .u8 ((sb b).toNat:Int) x.toNat))) (w.heap.size+1+1) 270 ((aS 176 (fl key (n+4))).map V8)):=dR.out.below hB5 dD
      have HZ4:Hid (Row ((w3.setRow wr.heap.size us.toArray).setCell ⟨wr.heap.size,0,none⟩ (.int .u8 (bits .xor .u8 ((sb b).toNat:Int) x.toNat))) (w.heap.size+1) 270 kL):=hzr.below hB5 (by omega)
      have HB4:Hid (Below w.heap.size w ((w3.setRow wr.heap.size us.toArray).setCell ⟨wr.heap.size,0,none⟩ (.int .u8 (bits .xor .u8 ((sb b).toNat:Int) x.toNat)))):=ak.trans (hB5.mono (by omega))
      have Hvs:Hid (Vec 4 (tK (wk key (n+4))) vs):=by
       refine⟨?_,?_⟩
       ·rw[hvs,Hus.out.1,HXm.out,zF key (n+4) (by omega),show (n+4) / 4 - 1=(n+3) / 4 by omega]
        have e3:(wk key (n+4)).getD (n+4 - 1) []=[a,b,c,d]:=HW4.out
        rw[e3,show Aes.mark ((n+3) / 4)=x from Hx.out.symm]
        rfl
       ·rw[zF key (n+4) (by omega)];rfl
      have Hy:Hid (dbl x=z8 ((n+1+3) / 4)):=by
       show _=_
       rw[Hx.out,show (n+1+3) / 4=(n+3) / 4+1 by omega];rfl
      clear hvs hT4 hB4 hB5 HW4 hb2 hb3 HXm Hus Hx hzr
      go_wp2_with (first
       | (refine wpList_store_row rfl 269 (.tmp 9) (.tmp 35) rfl wr.heap.size us.toArray rfl rfl 269 _ HT3.out (by rw[Huz.out];kernel_rfl) (by rw[Huz.out];exact Htz.out) JF.out ?_)
       | (go_at_call 186;refine(lV _ _).mono ?_;rintro e w' ⟨rfl,rfl⟩))
      clear hc0 hf0 HT3 HB3 Huz JF hB
      generalize (w3.setRow wr.heap.size us.toArray).setCell ⟨wr.heap.size,0,none⟩ (.int .u8 (bits .xor .u8 ((sb b).toNat:Int) x.toNat))=w4 at *
      obtain ⟨ps,hps⟩:∃ ps:List Value,ps=(wd key (n+4) n).map V8:=⟨_,rfl⟩
      have Hps:Hid (Vec 4 (wd key (n+4) n) ps):=⟨hps,mW key HV.out.2 _ _ (by omega)⟩
      clear hps
      have HFl:Hid (fl key (n+1+4)=fl key (n+4)++a8 (wd key (n+4) n) (tK (wk key (n+4)))):=by
       show _=_
       have:=Aw key (n+4) (by omega)
       rwa [Nat.add_sub_cancel] at this
      have HLn:Hid ((fl key (n+4)).length=(n+4)*4):=by show _=_;rw[kW key HV.out.2];omega
      have HD:Hid (Calls Tryz.prog 187 #[.agg ps.toArray,.agg vs.toArray] w4.drew fun e w'=>∃ zs:List Value,Hid (Vec 4 (a8 (wd key (n+4) n) (tK (wk key (n+4)))) zs)∧zs.length=4∧(∀ v∈zs,v.oneCell'=true)∧Hid (Row w' (w.heap.size+1+1) 270 ((aS 176 (fl key (n+4))).map V8))∧Hid (Row w' (w.heap.size+1) 270 kL)∧(w'.rangeAt (w.heap.size+1+1) (n*4) ps∧w'.rangeAt wr.heap.size 0 vs∧w'.there (w.heap.size+1+1) ((n+4)*4) 4)∧e=.returned (.agg zs.toArray)∧Hid (Below w.heap.size w w')) :=
       (mL _ _ ps vs Hps.out Hvs.out w4.drew).mono fun e w' ⟨zs,hzs,he,hb⟩=>by
        have hb':Below w4.heap.size w4 w':=⟨hb.os,hb.tape,hb.output,hb.size,hb.block⟩
        have hr':=HR4.out.below hb' HR4.out.lt
        exact⟨zs,hzs,hzs.out.len,by rw[hzs.out.1];exact bI _,hr',HZ4.out.below hb' HZ4.out.lt,⟨kj HV.out.2 (n+4) n (by omega) (by omega) hr' ps Hps.out,(HT4.out.below hb' HT4.out.lt).sees,hr'.gw _ _ (by rw[List.length_map,aB _ _ (by rw[HLn.out];omega)];omega)⟩,he,HB4.out.trans (hb'.mono HB4.out.size)⟩
      have hS4:w4.drew.rangeAt (w.heap.size+1+1) (n*4) ps∧w4.drew.rangeAt wr.heap.size 0 vs∧w4.drew.there (w.heap.size+1+1) ((n+4)*4) 4 :=
       ⟨kj HV.out.2 (n+4) n (by omega) (by omega) HR4.out.drew ps Hps.out,HT4.out.drew.sees,HR4.out.drew.gw _ _ (by rw[List.length_map,aB _ _ (by rw[HLn.out];omega)];omega)⟩
      have hi1:(Tryz.prog.info? 269).map (·.size)=some ps.length:=by rw[Hps.out.len];kernel_rfl
      have hi2:(Tryz.prog.info? 269).map (·.size)=some vs.length:=by rw[Hvs.out.len];kernel_rfl
      have KW:wr.heap.size≠w.heap.size+1+1:=by omega
      have hpl:ps.length=4:=Hps.out.len
      have e4:IntKind.i64.wrap ((n:Int)+4 - 4)=(n:Int):=by rw[IntWalk.i64_in _ (by omega)];omega
      have e0:IntKind.i64.wrap (n:Int)=(n:Int):=by rw[IntWalk.i64_in _ (by omega)]
      have b0:(n:Int)<44:=by omega
      have b4:(n:Int)+4<44:=by omega
      have b5:0≤(n:Int)+4:=by omega
      have b6:((n:Int)+4).toNat=n+4:=by omega
      clear HT4 HR4 HZ4 HB4 Hts Htz aN IM HRg HB0 HT0 Kv Hvs Hps
      refine wp_region_held_drew (S:=(fun W=>W.rangeAt (w.heap.size+1+1) (n*4) ps∧W.rangeAt wr.heap.size 0 vs∧W.there (w.heap.size+1+1) ((n+4)*4) 4)) (by kernel_rfl) (hS4) (fun aa=>?_)
      refine tkh 0 43 rfl aa ?_ (Or.inl ⟨by rfl,by intro w hSw;clear hSw;go_simp;with_reducible rfl⟩)
      try go_frame
      refine tkh 1 44 rfl aa ?_ (Or.inl ⟨by rfl,by intro w hSw;clear hSw;go_simp;with_reducible rfl⟩)
      try go_frame
      refine tkh 2 45 rfl aa ?_ (Or.inl ⟨by rfl,by intro w hSw;clear hSw;go_simp;with_reducible rfl⟩)
      try go_frame
      refine tkh 3 46 rfl aa ?_ (Or.inl ⟨by rfl,by intro w hSw;clear hSw;go_simp;with_reducible rfl⟩)
      try go_frame
      refine tkh 4 47 (v:=.agg ps.toArray) rfl aa ?_ (yieldsIf_load_mid (by rfl) 269 (.tmp 46) rfl (w.heap.size+1+1) (n*4) rfl ps _ (fun _ h=>h.1) Tryz.underlying269 rfl hi1)
      try go_frame
      refine tkh 5 48 (v:=.agg vs.toArray) rfl aa ?_ (yieldsIf_load_mid (by rfl) 269 (.tmp 9) rfl wr.heap.size 0 rfl vs _ (fun _ h=>h.2.1) Tryz.underlying269 rfl hi2)
      try go_frame
      refine rdq 6 49 fun K hK=>?_
      go_simp
      go_at_call 187
      refine HD.out.mono ?_
      rintro e w5 ⟨zs,Hzs,hrl,hr1,HR5,HZ5,hS5,rfl,hb5⟩
      refine hK.out _ _ (hS5) (fun aa=>?_)
      clear hK K
      try go_frame
      refine tkh 7 50 rfl aa ?_ (Or.inl ⟨by rfl,by intro w hSw;clear hSw;go_simp;with_reducible rfl⟩)
      try go_frame
      refine rdn 8 fun K hK=>?_
      have EJ:Hid (zs.toArray.size=4):=Hzs.out.size
      rw[if_pos (by rfl)]
      refine wp_store_mid 269 (.tmp 50) (.tmp 49) rfl (w.heap.size+1+1) ((n+4)*4) zs.toArray rfl rfl (EJ.out ▸ hS5.2.2) (by rw[EJ.out];kernel_rfl) (all_oneCell_toArray hr1) ?_
      refine hK.out _ _ ⟨World.rangeAt_setCells_apart hS5.1 _ _ _ (.inr (.inl (by omega))),World.rangeAt_setCells_apart hS5.2.1 _ _ _ (.inl KW),World.there_setCells hS5.2.2 _ _ _⟩ (fun aa=>?_)
      clear hK K
      try go_frame
      refine wpAnyH_done (by kernel_rfl) ?_ _
      clear aa
      all_goals
       clear hS4 hS5 hi1 hi2 e4 e0 b0 b4 b5 b6 hpl
       go_wp2
       go_roundw
       case rel =>
        refine⟨n+1,_,by omega,by go_num,rfl,Hy.out,HZ5.out.qp (by omega) _ _ _ _,?_,dv (by omega) _ _ _ hb5.out⟩
        have h5:=Row.uA zs _ ((n+4)*4) w5 HR5.out
        rw[Jk _ _ _ zs Hzs.out ((n+4)*4) HLn.out (by omega),← HFl.out] at h5
        exact h5
       case measure=>simp [intOf];omega
     ·have hB:((n:Int) % 4 == 0)=false:=by simp;omega
      go_wp2_with (first
       | (refine wpList_load_mid rfl 269 (.tmp 27) rfl (w.heap.size+1+1) ((n+3)*4) rfl ts _ HRg.out Tryz.underlying269 rfl IM.out ?_)
       | (refine wpList_store_row rfl 269 (.tmp 9) (.tmp 28) rfl wr.heap.size ts.toArray rfl rfl 269 _ (Row.new wr _ Z4) (by rw[Htz.out];kernel_rfl) (by rw[Htz.out];rfl) aN.out ?_))
      generalize (wr.alloc (.cells Z4.toArray 269)).setRow wr.heap.size ts.toArray=w4 at *
      have HR4:Hid (Row w4 (w.heap.size+1+1) 270 ((aS 176 (fl key (n+4))).map V8)):=dR.out.below HB0.out dD
      have HZ4:Hid (Row w4 (w.heap.size+1) 270 kL):=hzr.below HB0.out (by omega)
      have HB4:Hid (Below w.heap.size w w4):=ak.trans (HB0.out.mono (by omega))
      obtain ⟨vs,hvs⟩:∃ vs:List Value,vs=ts:=⟨_,rfl⟩
      have HT4:Hid (Row w4 wr.heap.size 269 vs):=by rw[hvs];exact HT0.out
      have Hvs:Hid (Vec 4 (tK (wk key (n+4))) vs):=by
       rw[hvs,xJ key (n+4) (by omega)]
       exact Hts.out
      have Hy:Hid (x=z8 ((n+1+3) / 4)):=by
       show _=_
       rw[Hx.out,show (n+1+3) / 4=(n+3) / 4 by omega]
      clear hvs hB hzr Hx
      obtain ⟨ps,hps⟩:∃ ps:List Value,ps=(wd key (n+4) n).map V8:=⟨_,rfl⟩
      have Hps:Hid (Vec 4 (wd key (n+4) n) ps):=⟨hps,mW key HV.out.2 _ _ (by omega)⟩
      clear hps
      have HFl:Hid (fl key (n+1+4)=fl key (n+4)++a8 (wd key (n+4) n) (tK (wk key (n+4)))):=by
       show _=_
       have:=Aw key (n+4) (by omega)
       rwa [Nat.add_sub_cancel] at this
      have HLn:Hid ((fl key (n+4)).length=(n+4)*4):=by show _=_;rw[kW key HV.out.2];omega
      have HD:Hid (Calls Tryz.prog 187 #[.agg ps.toArray,.agg vs.toArray] w4.drew fun e w'=>∃ zs:List Value,Hid (Vec 4 (a8 (wd key (n+4) n) (tK (wk key (n+4)))) zs)∧zs.length=4∧(∀ v∈zs,v.oneCell'=true)∧Hid (Row w' (w.heap.size+1+1) 270 ((aS 176 (fl key (n+4))).map V8))∧Hid (Row w' (w.heap.size+1) 270 kL)∧(w'.rangeAt (w.heap.size+1+1) (n*4) ps∧w'.rangeAt wr.heap.size 0 vs∧w'.there (w.heap.size+1+1) ((n+4)*4) 4)∧e=.returned (.agg zs.toArray)∧Hid (Below w.heap.size w w')) :=
       (mL _ _ ps vs Hps.out Hvs.out w4.drew).mono fun e w' ⟨zs,hzs,he,hb⟩=>by
        have hb':Below w4.heap.size w4 w':=⟨hb.os,hb.tape,hb.output,hb.size,hb.block⟩
        have hr':=HR4.out.below hb' HR4.out.lt
        exact⟨zs,hzs,hzs.out.len,by rw[hzs.out.1];exact bI _,hr',HZ4.out.below hb' HZ4.out.lt,⟨kj HV.out.2 (n+4) n (by omega) (by omega) hr' ps Hps.out,(HT4.out.below hb' HT4.out.lt).sees,hr'.gw _ _ (by rw[List.length_map,aB _ _ (by rw[HLn.out];omega)];omega)⟩,he,HB4.out.trans (hb'.mono HB4.out.size)⟩
      have hS4:w4.drew.rangeAt (w.heap.size+1+1) (n*4) ps∧w4.drew.rangeAt wr.heap.size 0 vs∧w4.drew.there (w.heap.size+1+1) ((n+4)*4) 4 :=
       ⟨kj HV.out.2 (n+4) n (by omega) (by omega) HR4.out.drew ps Hps.out,HT4.out.drew.sees,HR4.out.drew.gw _ _ (by rw[List.length_map,aB _ _ (by rw[HLn.out];omega)];omega)⟩
      have hi1:(Tryz.prog.info? 269).map (·.size)=some ps.length:=by rw[Hps.out.len];kernel_rfl
      have hi2:(Tryz.prog.info? 269).map (·.size)=some vs.length:=by rw[Hvs.out.len];kernel_rfl
      have KW:wr.heap.size≠w.heap.size+1+1:=by omega
      have hpl:ps.length=4:=Hps.out.len
      have e4:IntKind.i64.wrap ((n:Int)+4 - 4)=(n:Int):=by rw[IntWalk.i64_in _ (by omega)];omega
      have e0:IntKind.i64.wrap (n:Int)=(n:Int):=by rw[IntWalk.i64_in _ (by omega)]
      have b0:(n:Int)<44:=by omega
      have b4:(n:Int)+4<44:=by omega
      have b5:0≤(n:Int)+4:=by omega
      have b6:((n:Int)+4).toNat=n+4:=by omega
      clear HT4 HR4 HZ4 HB4 Hts Htz aN IM HRg HB0 HT0 Kv Hvs Hps
      refine wp_region_held_drew (S:=(fun W=>W.rangeAt (w.heap.size+1+1) (n*4) ps∧W.rangeAt wr.heap.size 0 vs∧W.there (w.heap.size+1+1) ((n+4)*4) 4)) (by kernel_rfl) (hS4) (fun aa=>?_)
      refine tkh 0 43 rfl aa ?_ (Or.inl ⟨by rfl,by intro w hSw;clear hSw;go_simp;with_reducible rfl⟩)
      try go_frame
      refine tkh 1 44 rfl aa ?_ (Or.inl ⟨by rfl,by intro w hSw;clear hSw;go_simp;with_reducible rfl⟩)
      try go_frame
      refine tkh 2 45 rfl aa ?_ (Or.inl ⟨by rfl,by intro w hSw;clear hSw;go_simp;with_reducible rfl⟩)
      try go_frame
      refine tkh 3 46 rfl aa ?_ (Or.inl ⟨by rfl,by intro w hSw;clear hSw;go_simp;with_reducible rfl⟩)
      try go_frame
      refine tkh 4 47 (v:=.agg ps.toArray) rfl aa ?_ (yieldsIf_load_mid (by rfl) 269 (.tmp 46) rfl (w.heap.size+1+1) (n*4) rfl ps _ (fun _ h=>h.1) Tryz.underlying269 rfl hi1)
      try go_frame
      refine tkh 5 48 (v:=.agg vs.toArray) rfl aa ?_ (yieldsIf_load_mid (by rfl) 269 (.tmp 9) rfl wr.heap.size 0 rfl vs _ (fun _ h=>h.2.1) Tryz.underlying269 rfl hi2)
      try go_frame
      refine rdq 6 49 fun K hK=>?_
      go_simp
      go_at_call 187
      refine HD.out.mono ?_
      rintro e w5 ⟨zs,Hzs,hrl,hr1,HR5,HZ5,hS5,rfl,hb5⟩
      refine hK.out _ _ (hS5) (fun aa=>?_)
      clear hK K
      try go_frame
      refine tkh 7 50 rfl aa ?_ (Or.inl ⟨by rfl,by intro w hSw;clear hSw;go_simp;with_reducible rfl⟩)
      try go_frame
      refine rdn 8 fun K hK=>?_
      have EJ:Hid (zs.toArray.size=4):=Hzs.out.size
      rw[if_pos (by rfl)]
      refine wp_store_mid 269 (.tmp 50) (.tmp 49) rfl (w.heap.size+1+1) ((n+4)*4) zs.toArray rfl rfl (EJ.out ▸ hS5.2.2) (by rw[EJ.out];kernel_rfl) (all_oneCell_toArray hr1) ?_
      refine hK.out _ _ ⟨World.rangeAt_setCells_apart hS5.1 _ _ _ (.inr (.inl (by omega))),World.rangeAt_setCells_apart hS5.2.1 _ _ _ (.inl KW),World.there_setCells hS5.2.2 _ _ _⟩ (fun aa=>?_)
      clear hK K
      try go_frame
      refine wpAnyH_done (by kernel_rfl) ?_ _
      clear aa
      all_goals
       clear hS4 hS5 hi1 hi2 e4 e0 b0 b4 b5 b6 hpl
       go_wp2
       go_roundw
       case rel =>
        refine⟨n+1,_,by omega,by go_num,rfl,Hy.out,HZ5.out.qp (by omega) _ _ _ _,?_,dv (by omega) _ _ _ hb5.out⟩
        have h5:=Row.uA zs _ ((n+4)*4) w5 HR5.out
        rw[Jk _ _ _ zs Hzs.out ((n+4)*4) HLn.out (by omega),← HFl.out] at h5
        exact h5
       case measure=>simp [intOf];omega
    ·obtain rfl:n=40:=by omega
     rw[show ((40:Nat):Int)=40 from rfl]
     have hfull:aS 176 (fl key (40+4))=rks key:=by
      have:=ix (fl key 44)
      rw[kW key HV.out.2] at this
      exact this
     rw[hfull] at hrow
     obtain ⟨ts,hts⟩:∃ ts:List Value,ts=(rks key).map V8:=⟨_,rfl⟩
     rw[← hts] at hrow
     have Hts:Hid (Vec 176 (rks key) ts):=⟨hts,iH key HV.out.2⟩
     have Htz:Hid (ts.toArray.size=176):=Hts.out.size
     have aN:Hid (ts.toArray.all (·.oneCell')=true):=Hts.out.one
     clear hts hfull
     go_wp2_with (first
      | (refine wpList_load_row rfl 270 (.tmp 5) rfl (w.heap.size+1+1) rfl 270 ts.toArray (0,0) _ hrow Tryz.underlying270 rfl (by rw[Htz.out];kernel_rfl) ?_)
      | (refine wpList_store_row rfl 270 (.tmp 4) (.tmp 51) rfl (w.heap.size+1) ts.toArray rfl rfl 270 _ hzr (by rw[Htz.out];kernel_rfl) (by rw[Htz.out];rfl) aN.out ?_))
     have bj:=hzr.whole ts
     have hinfo:(Tryz.prog.info? 270).map (·.size)=some ts.toArray.size:=by rw[Htz.out];kernel_rfl
     refine bodyPost_ret (v:=.agg ts.toArray) (results_cell_row rfl _ _ (w.heap.size+1) 270 ts.toArray (0,0) _ rfl bj Tryz.underlying270 rfl hinfo) rfl ?_
     exact⟨ts,Hts,rfl,ag ak (by omega) _⟩
end Go.Proofs.YthbmknpbcgnabaaGreatDoor
end
section
namespace Go.Proofs.YthbmknpbcgnabaaGreatDoor
open Go.RowKit Aes
def gD:List Value:=List.replicate 256 (.int .u8 0)
theorem AI:gD=(List.replicate 256 (0:UInt8)).map V8:=by unfold gD;rw[List.map_replicate];rfl
theorem Gu (w:World):(zeroValue 265).run Tryz.prog w=.ok (.agg gD.toArray) w:=by kernel_rfl
theorem zA (w:World):(zeroValue 266).run Tryz.prog w=.ok (.agg gD.toArray) w:=by kernel_rfl
def pwK (k:Nat):UInt8:=pw k
def jR (k:Nat):List UInt8:=(List.range k).map pw
def tr (k:Nat):List UInt8:=tab k
theorem DW:pwK 0=1:=rfl
theorem DX (k:Nat):pwK (k+1)=tpl (pwK k):=rfl
theorem gz (k:Nat):(jR k).length=k:=by simp [jR]
theorem Bz (k:Nat):jR (k+1)=jR k++[pwK k]:=by simp [jR,List.range_succ];rfl
theorem zR (j:Nat) (h:j<256):(jR 256).getD j 0=pwK j:=by simp [jR,List.getD_eq_getElem?_getD,h];rfl
theorem A8:tr 0=(List.replicate 256 0).set 0 (spr 0):=rfl
theorem A9 (k:Nat):tr (k+1)=(tr k).set (pwK k).toNat (spr (pwK (255 - k))):=rfl
theorem Dj:tr 256=SBL:=JU
theorem vt (k:Nat):(tr k).length=256:=xI k
theorem D9 (k:Nat) (h:k<256):(aS 256 (jR k)).set k (pwK k)=aS 256 (jR (k+1)):=by
 have:=eb 256 (jR k) (pwK k) (by rw[gz];exact h)
 rw[gz] at this
 rw[this,Bz]
theorem vz (w:World):Calls Tryz.prog 183 #[.int .u8 0] w fun e w'=>e=.returned (.int .u8 (spr 0).toNat)∧w=w':=pI 0 w
set_option maxRecDepth 100000
theorem yg (w:World) :
  Calls Tryz.prog 173 #[] w fun e w'=>∃ ts:List Value,Hid (Vec 256 SBL ts)∧e=.returned (.agg ts.toArray)∧Below w.heap.size w w':=by
 have hz:=Gu
 have hz2:=zA
 go_enter Tryz.func173,Tryz.ntmps173
 go_wp2
 clear hz
 go_loopw [2,3,7] (fun p _ i wr=>∃ (k:Nat) (x:UInt8),k≤256∧i=.int .i64 k∧p=.int .u8 x.toNat∧Hid (x=pwK k)∧Row wr w.heap.size 266 gD∧Row wr (w.heap.size+1) 265 ((aS 256 (jR k)).map V8)∧Below w.heap.size w wr) (fun _ _ i _=>256 - (intOf i).toNat)
 case atStart =>
  refine⟨0,1,by omega,rfl,rfl,DW.symm,(Row.new w 266 gD).alloc _,?_,((Below.refl _ _).alloc (Nat.le_refl _) _).alloc (by simp) _⟩
  have e:(aS 256 (jR 0)).map V8=gD:=by rw[AI];rfl
  rw[e]
  exact Row.newAt _ gD (by simp)
 case round =>
  obtain ⟨k,x,hk,rfl,rfl,Hx,hr0,hrow,ak⟩:=hrel
  by_cases hlt:k<256
  ·have hc:=qu hrow k hlt
   have hf:wr.frozen? ⟨w.heap.size+1,k,none⟩=false:=hrow.free k
   generalize (jR k).getD k 0=y at *
   have HP:=ae (D9 k hlt)
   rw[← Hx.out] at HP
   have HP2:=ae (DX k)
   rw[← Hx.out] at HP2
   have dR:=ae hrow
   clear hrow hz2
   go_wp2_with (go_at_call 182;refine(pz _ _).mono ?_;rintro e w' ⟨rfl,rfl⟩)
   go_roundw
   case rel =>
    refine⟨k+1,_,by omega,by go_num,rfl,HP2.out.symm,hr0.apart (by show w.heap.size≠w.heap.size+1;omega) _,?_,ak.setCell (by show w.heap.size≤w.heap.size+1;omega) _⟩
    rw[← HP.out,List.map_set]
    exact dR.out.set k _
   case measure=>simp [intOf];omega
  ·obtain rfl:k=256:=by omega
   rw[show ((256:Nat):Int)=256 from rfl]
   have hfull:aS 256 (jR 256)=jR 256:=by have:=ix (jR 256);rwa [gz] at this
   rw[hfull] at hrow
   clear hfull
   obtain ⟨ps,hps⟩:∃ ps:List Value,ps=(jR 256).map V8:=⟨_,rfl⟩
   have HPS:Hid (Vec 256 (jR 256) ps):=⟨hps,gz 256⟩
   rw[← hps] at hrow
   clear hps
   have Hpz:Hid (ps.toArray.size=256):=HPS.out.size
   have hsz:w.heap.size+1<wr.heap.size:=hrow.lt
   go_wp2_with fail
   refine(vz _).mono ?_
   rintro e w' ⟨rfl,rfl⟩
   clear hz2
   obtain ⟨S,hS⟩:∃ S,S=wr.heap.size:=⟨_,rfl⟩
   rw[← hS]
   have Nw:Row (wr.alloc (.cells gD.toArray 266)) w.heap.size 266 gD:=hr0.alloc _
   have hrow':Row (wr.alloc (.cells gD.toArray 266)) (w.heap.size+1) 265 ps:=hrow.alloc _
   have hrs:Row (wr.alloc (.cells gD.toArray 266)) S 266 gD:=Row.newAt _ gD hS.symm
   have Jv:Below w.heap.size w (wr.alloc (.cells gD.toArray 266)):=ak.alloc (by omega) _
   have hSl:w.heap.size+1<S:=by omega
   clear hr0 hrow ak hsz hS
   generalize wr.alloc (.cells gD.toArray 266)=w2 at *
   have hc0:w2.cell? ⟨S,0,none⟩=some (.int .u8 0):=(hrs.cell 0).trans rfl
   have hf0:w2.frozen? ⟨S,0,none⟩=false:=hrs.free 0
   have HR1:Hid (Row (w2.setCell ⟨S,0,none⟩ (.int .u8 (spr 0).toNat)) (w.heap.size+1) 265 ps):=hrow'.apart (by show w.heap.size+1≠S;omega) _
   have HR2:Hid (Row (w2.setCell ⟨S,0,none⟩ (.int .u8 (spr 0).toNat)) S 266 ((tr 0).map V8)):=by
    rw[A8,List.map_set,← AI]
    exact hrs.set 0 _
   have HR0:Hid (Row (w2.setCell ⟨S,0,none⟩ (.int .u8 (spr 0).toNat)) w.heap.size 266 gD):=Nw.apart (by show w.heap.size≠S;omega) _
   have HB0:Hid (Below w.heap.size w (w2.setCell ⟨S,0,none⟩ (.int .u8 (spr 0).toNat))):=Jv.setCell (by show w.heap.size≤S;omega) _
   clear Nw hrow' hrs Jv
   go_wp2_with (refine wpList_load_row rfl 265 (.tmp 1) rfl (w.heap.size+1) rfl 265 ps.toArray (0,0) _ HR1.out Tryz.underlying265 rfl (by rw[Hpz.out];kernel_rfl) ?_)
   clear hc0 hf0
   go_loopw [5,6,19] (fun _ _ i wr=>∃ k:Nat,k≤256∧i=.int .i64 k∧Row wr w.heap.size 266 gD∧Row wr (w.heap.size+1) 265 ps∧Row wr S 266 ((tr k).map V8)∧Below w.heap.size w wr) (fun _ _ i _=>256 - (intOf i).toNat)
   case atStart=>exact⟨0,by omega,rfl,HR0.out,HR1.out,HR2.out,HB0.out⟩
   case round =>
    clear HR0 HR1 HR2 HB0
    obtain ⟨k,hk,rfl,hr0,hrow,hrs,ak⟩:=hrel
    by_cases hlt:k<256
    ·have hix:=jP 265 256 Tryz.underlying265 ps k hlt _ (HPS.out.at_ k hlt)
     have hc:wr.cell? ⟨w.heap.size+1,255 - k,none⟩=some (.int .u8 ((jR 256).getD (255 - k) 0).toNat):=mz (HPS.out.row hrow) _ (by rw[gz];omega)
     rw[zR k hlt] at hix
     rw[zR (255 - k) (by omega)] at hc
     have HT:=ae (A9 k)
     generalize pwK k=x at *
     generalize pwK (255 - k)=y at *
     have hx:=lt8 x
     have hcs:wr.cell? ⟨S,x.toNat,none⟩=some (.int .u8 ((tr k).getD x.toNat 0).toNat):=mz hrs _ (by rw[vt];exact hx)
     have hf:wr.frozen? ⟨S,x.toNat,none⟩=false:=hrs.free _
     generalize (tr k).getD x.toNat 0=z at *
     have Hrs:=ae hrs
     clear hrs
     go_wp2_with (go_at_call 183;refine(pI _ _).mono ?_;rintro e w' ⟨rfl,rfl⟩)
     go_roundw
     case rel =>
      refine⟨k+1,by omega,by go_num,hr0.apart (by show w.heap.size≠S;omega) _,hrow.apart (by show w.heap.size+1≠S;omega) _,?_,ak.setCell (by show w.heap.size≤S;omega) _⟩
      rw[HT.out,List.map_set]
      exact Hrs.out.set _ _
     case measure=>simp [intOf];omega
    ·obtain rfl:k=256:=by omega
     rw[show ((256:Nat):Int)=256 from rfl]
     rw[Dj] at hrs
     obtain ⟨ts,hts⟩:∃ ts:List Value,ts=SBL.map V8:=⟨_,rfl⟩
     rw[← hts] at hrs
     have Hts:Hid (Vec 256 SBL ts):=⟨hts,eF⟩
     have Htz:Hid (ts.toArray.size=256):=Hts.out.size
     have aN:Hid (ts.toArray.all (·.oneCell')=true):=Hts.out.one
     clear hts
     go_wp2_with (first
      | (refine wpList_load_row rfl 266 (.tmp 4) rfl S rfl 266 ts.toArray (0,0) _ hrs Tryz.underlying266 rfl (by rw[Htz.out];kernel_rfl) ?_)
      | (refine wpList_store_row rfl 266 (.tmp 0) (.tmp 31) rfl w.heap.size ts.toArray rfl rfl 266 _ hr0 (by rw[Htz.out];kernel_rfl) (by rw[Htz.out];rfl) aN.out ?_))
     have bj:=hr0.whole ts
     have hinfo:(Tryz.prog.info? 266).map (·.size)=some ts.toArray.size:=by rw[Htz.out];kernel_rfl
     refine bodyPost_ret (v:=.agg ts.toArray) (results_cell_row rfl _ _ w.heap.size 266 ts.toArray (0,0) _ rfl bj Tryz.underlying266 rfl hinfo) rfl ?_
     exact⟨ts,Hts,rfl,ag ak (Nat.le_refl _) _⟩
end Go.Proofs.YthbmknpbcgnabaaGreatDoor
end
