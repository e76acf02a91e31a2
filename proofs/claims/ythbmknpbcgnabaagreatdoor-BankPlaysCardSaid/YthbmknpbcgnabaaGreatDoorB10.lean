/- Of the walk. -/
import Derived.Test.YthbmknpbcgnabaaGreatDoorB08
import Derived.Test.YthbmknpbcgnabaaGreatDoorB09
set_option maxHeartbeats 40000000
section
namespace Go.Proofs.YthbmknpbcgnabaaGreatDoor
open Go.RowKit Aes
theorem Lb (x:UInt8) (h:x.toNat<128):(x.toNat:Int)*2=((dbl x).toNat:Int):=by
 have:x<128:=h
 rw[dbl,if_pos this,UInt8.toNat_add];omega
theorem Lc (x:UInt8) (h:¬ x.toNat<128):bits .xor .u8 (((x.toNat:Int)*2) % 256) 27=((dbl x).toNat:Int):=by
 have:¬ x<128:=h
 rw[dbl,if_neg this,← dV,UInt8.toNat_add]
 congr 1
 omega
set_option maxRecDepth 100000
theorem lV (x:UInt8) (w:World) :
  Calls Tryz.prog 186 #[.int .u8 x.toNat] w fun e w'=>e=.returned (.int .u8 (dbl x).toNat)∧w=w':=by
 by_cases h:x.toNat<128
 ·have HD:=ae (Lb x h)
  go_enter Tryz.func186,Tryz.ntmps186
  go_wp2
  go_ret
  exact⟨Bt HD.out,rfl⟩
 ·have HD:=ae (Lc x h)
  go_enter Tryz.func186,Tryz.ntmps186
  go_wp2
  go_ret
  exact⟨Bt HD.out,rfl⟩
theorem pz (x:UInt8) (w:World) :
  Calls Tryz.prog 182 #[.int .u8 x.toNat] w fun e w'=>e=.returned (.int .u8 (tpl x).toNat)∧w=w':=by
 have HX:=ae (dV (dbl x) x)
 go_enter Tryz.func182,Tryz.ntmps182
 go_wp2_with (go_at_call 186;refine(lV x _).mono ?_;rintro e w' ⟨rfl,rfl⟩)
 go_ret
 exact⟨Bt HX.out,rfl⟩
set_option maxRecDepth 512
theorem DI (x:UInt8) (n:Nat) (h:n≤8) (a b:Int) (ha:a=((x.toNat*2 ^ n % 256:Nat):Int)) (hb:b=((x.toNat / 2 ^ (8 - n):Nat):Int)):bits .or .u8 a b=((rotl x n).toNat:Int):=by
 have hx:=lt8 x
 have hp:0<2 ^ n:=Nat.two_pow_pos n
 have hq:x.toNat / 2 ^ (8 - n)<2 ^ n:=by
  rw[Nat.div_lt_iff_lt_mul (Nat.two_pow_pos _),← Nat.pow_add,show n+(8 - n)=8 by omega];exact hx
 have h8:(256:Nat)=2 ^ (8 - n)*2 ^ n:=by rw[← Nat.pow_add,show 8 - n+n=8 by omega]
 have hm:x.toNat*2 ^ n % 256=x.toNat % 2 ^ (8 - n)*2 ^ n:=by rw[h8,Nat.mul_mod_mul_right]
 have h1:x.toNat*2 ^ n % 256<256:=Nat.mod_lt _ (by omega)
 have h2:x.toNat / 2 ^ (8 - n)<256:=Nat.lt_of_le_of_lt (Nat.div_le_self _ _) hx
 have hj:x.toNat*2 ^ n % 256 ||| x.toNat / 2 ^ (8 - n)=x.toNat*2 ^ n % 256+x.toNat / 2 ^ (8 - n):=nat_join n _ _ (by rw[hm,Nat.mul_mod_left]) hq
 have hlt:x.toNat*2 ^ n % 256+x.toNat / 2 ^ (8 - n)<256:=by
  rw[hm]
  have h3:x.toNat % 2 ^ (8 - n)<2 ^ (8 - n):=Nat.mod_lt _ (Nat.two_pow_pos _)
  have h4:x.toNat % 2 ^ (8 - n)*2 ^ n+2 ^ n≤2 ^ (8 - n)*2 ^ n:=by rw[← Nat.succ_mul];exact Nat.mul_le_mul_right _ h3
  omega
 rw[ha,hb,u8_or_nat _ _ h1 h2,hj,rotl,bF hlt]
set_option maxRecDepth 100000
theorem Br (x:UInt8) (n:Int) (h1:1≤n) (h2:n≤4) (w:World) :
  Calls Tryz.prog 188 #[.int .u8 x.toNat,.int .i64 n] w fun e w'=>e=.returned (.int .u8 (rotl x n.toNat).toNat)∧w=w':=by
 have e1:bits .and .u64 1 7=1:=by decide
 have e2:bits .and .u64 2 7=2:=by decide
 have e3:bits .and .u64 3 7=3:=by decide
 have e4:bits .and .u64 4 7=4:=by decide
 obtain rfl | rfl | rfl | rfl:n=1∨n=2∨n=3∨n=4:=by omega
 all_goals
  go_enter Tryz.func188,Tryz.ntmps188
  go_wp2
  go_ret
  exact⟨Bt (DI x _ (by decide) _ _ (by simp) (by simp)),rfl⟩
set_option maxRecDepth 512
theorem Dt (x:UInt8) (k:Nat) (n:Int) (hn:n=(k:Int)+1):bits .xor .u8 ((xM x k).toNat:Int) (rotl x n.toNat).toNat=((xM x (k+1)).toNat:Int):=by
 rw[dV,xM,hn,show ((k:Int)+1).toNat=k+1 by omega]
set_option maxRecDepth 100000
theorem pI (x:UInt8) (w:World) :
  Calls Tryz.prog 183 #[.int .u8 x.toNat] w fun e w'=>e=.returned (.int .u8 (spr x).toNat)∧w=w':=by
 have H0:Hid (bits .xor .u8 (x.toNat:Int) 99=((xM x 0).toNat:Int)):=dV x 99
 go_enter Tryz.func183,Tryz.ntmps183
 go_wp2
 go_loop [3,4] (fun o i=>∃ k:Nat,k≤4∧i=.int .i64 ((k:Int)+1)∧o=.int .u8 (xM x k).toNat) (fun _ i=>5 - (intOf i).toNat)
 case atStart=>exact⟨0,by omega,rfl,G9 H0.out⟩
 case round =>
  obtain ⟨k,hk,rfl,rfl⟩:=hrel
  by_cases hlt:k<4
  ·have HS:=ae (Dt x k ((k:Int)+1) rfl)
   go_wp2_with (go_at_call 188;refine(Br x _ (by omega) (by omega) _).mono ?_;rintro e w' ⟨rfl,rfl⟩)
   go_round
   case rel=>exact⟨k+1,by omega,by go_num,G9 HS.out⟩
   case measure=>simp [intOf];omega
  ·obtain rfl:k=4:=by omega
   go_wp2
   go_ret
   exact⟨rfl,rfl⟩
end Go.Proofs.YthbmknpbcgnabaaGreatDoor
end
section
namespace Go.Proofs.YthbmknpbcgnabaaGreatDoor
open Go.RowKit Aes
def Z16:List Value:=List.replicate 16 (.int .u8 0)
theorem qD:Z16=(List.replicate 16 (0:UInt8)).map V8:=rfl
theorem lF (w:World):(zeroValue 25).run Tryz.prog w=.ok (.agg Z16.toArray) w:=by kernel_rfl
theorem uj {wr:World} {g:Nat} {t:TypeId} {new old:List UInt8} (hn:new.length=16) (ho:old.length=16) (h:Row wr g t ((upd new old 16).map V8)) :
  ∃ ts:List Value,Hid (Vec 16 new ts)∧Hid (Row wr g t ts)∧Hid (ts.toArray.size=16)∧Hid (ts.toArray.all (·.oneCell')=true):=by
 have hv:=Vec.mk 16 new hn
 refine⟨_,hv,?_,hv.size,hv.one⟩
 rw[l9 hn ho] at h
 exact h
set_option maxRecDepth 100000
theorem n9 (S:Nat) (b:List UInt8) (rs:List Value) (hv:Vec 16 b rs) (w:World) (hl:S<w.heap.size) (hS:ah w S 0 (SBL.map V8)) :
  Calls Tryz.prog 176 #[.pointer (some ⟨S,0,none⟩),.agg rs.toArray] w fun e w'=>∃ ts:List Value,Hid (Vec 16 (fR b) ts)∧e=.returned (.agg ts.toArray)∧Below w.heap.size w w':=by
 have HV:=ae hv
 have HS:=ae hS
 have Hsz:Hid (rs.toArray.size=16):=hv.size
 have HR0:Hid (Row ((w.alloc (.cells rs.toArray 25)).alloc (.cells Z16.toArray 25)) w.heap.size 25 rs):=(Row.new w 25 rs).alloc _
 have hz:=lF
 have dc:Hid (b.length=(fR b).length):=(iW b).symm
 have cA:Hid ((fR b).length=16):=(iW b).trans hv.2
 clear hv hS
 go_enter Tryz.func176,Tryz.ntmps176
 go_wp2_with (refine wpList_load_row rfl 25 (.tmp 3) rfl w.heap.size rfl 25 rs.toArray (0,0) _ HR0.out Tryz.underlying25 rfl (by rw[Hsz.out];kernel_rfl) ?_)
 clear hz
 go_loopw [5,6,8] (fun _ _ i wr=>∃ k:Nat,k≤16∧i=.int .i64 k∧Row wr w.heap.size 25 ((upd (fR b) b k).map V8)∧Row wr (w.heap.size+1) 25 Z16∧Below w.heap.size w wr) (fun _ _ i _=>16 - (intOf i).toNat)
 case atStart=>exact⟨0,by omega,rfl,by rw[fC];exact HV.out.row HR0.out,Row.newAt _ Z16 (by simp),((Below.refl _ _).alloc (Nat.le_refl _) _).alloc (by simp) _⟩
 case round =>
  obtain ⟨k,hk,rfl,hrow,hzr,ak⟩:=hrel
  by_cases hlt:k<16
  ·have hix:=jP 25 16 Tryz.underlying25 rs k hlt _ (HV.out.at_ k hlt)
   have HN:Hid ((fR b).getD k 0=sb (b.getD k 0)):=tu b k (by rw[HV.out.2];exact hlt)
   have hc:wr.cell? ⟨w.heap.size,k,none⟩=some (.int .u8 (b.getD k 0).toNat):=dJ hrow dc.out k (Nat.le_refl _) (by rw[cA.out];exact hlt)
   generalize b.getD k 0=x at *
   have hx:=lt8 x
   have hs:wr.cell? ⟨S,x.toNat,none⟩=some (.int .u8 (sb x).toNat):=by
    have:=at8 (HS.out.below ak hl) x.toNat (by rw[eF];exact hx)
    rwa [Nat.zero_add,uF] at this
   have hf:wr.frozen? ⟨w.heap.size,k,none⟩=false:=hrow.free k
   have dR:=ae hrow
   clear hrow
   go_wp2
   go_roundw
   case rel =>
    refine⟨k+1,by omega,by go_num,eY dR.out dc.out (by rw[cA.out];exact hlt) (by rw[HN.out]),hzr.apart (by show w.heap.size+1≠w.heap.size;omega) _,ak.setCell (by show w.heap.size≤w.heap.size;omega) _⟩
   case measure=>simp [intOf];omega
  ·obtain rfl:k=16:=by omega
   rw[show ((16:Nat):Int)=16 from rfl]
   obtain ⟨ts,Hts,HRt,Htz,aN⟩:=uj cA.out (dc.out.trans cA.out) hrow
   clear hrow
   go_wp2_with (first
    | (refine wpList_load_row rfl 25 (.tmp 3) rfl w.heap.size rfl 25 ts.toArray (0,0) _ HRt.out Tryz.underlying25 rfl (by rw[Htz.out];kernel_rfl) ?_)
    | (refine wpList_store_row rfl 25 (.tmp 4) (.tmp 20) rfl (w.heap.size+1) ts.toArray rfl rfl 25 _ hzr (by rw[Htz.out];kernel_rfl) (by rw[Htz.out];rfl) aN.out ?_))
   have bj:=hzr.whole ts
   have hinfo:(Tryz.prog.info? 25).map (·.size)=some ts.toArray.size:=by rw[Htz.out];kernel_rfl
   refine bodyPost_ret (v:=.agg ts.toArray) (results_cell_row rfl _ _ (w.heap.size+1) 25 ts.toArray (0,0) _ rfl bj Tryz.underlying25 rfl hinfo) rfl ?_
   exact⟨ts,Hts,rfl,ag ak (by omega) _⟩
end Go.Proofs.YthbmknpbcgnabaaGreatDoor
end
section
namespace Go.Proofs.YthbmknpbcgnabaaGreatDoor
open Go.RowKit Aes
theorem GJ (k:Nat):pK k<16:=by unfold pK;omega
set_option maxRecDepth 100000
theorem ko (b:List UInt8) (rs:List Value) (hv:Vec 16 b rs) (w:World) :
  Calls Tryz.prog 177 #[.agg rs.toArray] w fun e w'=>∃ ts:List Value,Hid (Vec 16 (shR b) ts)∧e=.returned (.agg ts.toArray)∧Below w.heap.size w w':=by
 have HV:=ae hv
 have hz:=lF
 have dc:Hid ((List.replicate 16 (0:UInt8)).length=(shR b).length):=by show _=_;rw[iG,List.length_replicate]
 have cA:Hid ((shR b).length=16):=iG b
 clear hv
 go_enter Tryz.func177,Tryz.ntmps177
 go_wp2
 clear hz
 go_loopw [4,5,6,7] (fun _ _ _ i wr=>∃ k:Nat,k≤16∧i=.int .i64 k∧Row wr w.heap.size 25 rs∧Row wr (w.heap.size+1) 25 Z16∧Row wr (w.heap.size+1+1) 25 ((upd (shR b) (List.replicate 16 0) k).map V8)∧Below w.heap.size w wr) (fun _ _ _ i _=>16 - (intOf i).toNat)
 case atStart =>
  refine⟨0,by omega,rfl,((Row.new w 25 rs).alloc _).alloc _,(Row.newAt _ Z16 (by simp)).alloc _,?_,(((Below.refl _ _).alloc (Nat.le_refl _) _).alloc (by simp) _).alloc (by simp;omega) _⟩
  rw[fC,← qD]
  exact Row.newAt _ Z16 (by simp)
 case round =>
  obtain ⟨k,hk,rfl,hr0,hzr,hrow,ak⟩:=hrel
  by_cases hlt:k<16
  ·have HN:Hid ((shR b).getD k 0=b.getD (pK k) 0):=Dz b k hlt
   have hc:wr.cell? ⟨w.heap.size,pK k,none⟩=some (.int .u8 (b.getD (pK k) 0).toNat):=mz (HV.out.row hr0) _ (by rw[HV.out.2];exact GJ k)
   have hc2:wr.cell? ⟨w.heap.size+1+1,k,none⟩=some (.int .u8 ((List.replicate 16 (0:UInt8)).getD k 0).toNat):=dJ hrow dc.out k (Nat.le_refl _) (by rw[cA.out];exact hlt)
   have hf:wr.frozen? ⟨w.heap.size+1+1,k,none⟩=false:=hrow.free k
   generalize b.getD (pK k) 0=x at *
   generalize (List.replicate 16 (0:UInt8)).getD k 0=y at *
   unfold pK at hc
   have dR:=ae hrow
   clear hrow
   go_wp2
   go_roundw
   case rel =>
    refine⟨k+1,by omega,by go_num,hr0.apart (by show w.heap.size≠w.heap.size+1+1;omega) _,hzr.apart (by show w.heap.size+1≠w.heap.size+1+1;omega) _,eY dR.out dc.out (by rw[cA.out];exact hlt) (by rw[HN.out]),ak.setCell (by show w.heap.size≤w.heap.size+1+1;omega) _⟩
   case measure=>simp [intOf];omega
  ·obtain rfl:k=16:=by omega
   rw[show ((16:Nat):Int)=16 from rfl]
   obtain ⟨ts,Hts,HRt,Htz,aN⟩:=uj cA.out (List.length_replicate) hrow
   clear hrow
   go_wp2_with (first
    | (refine wpList_load_row rfl 25 (.tmp 3) rfl (w.heap.size+1+1) rfl 25 ts.toArray (0,0) _ HRt.out Tryz.underlying25 rfl (by rw[Htz.out];kernel_rfl) ?_)
    | (refine wpList_store_row rfl 25 (.tmp 2) (.tmp 26) rfl (w.heap.size+1) ts.toArray rfl rfl 25 _ hzr (by rw[Htz.out];kernel_rfl) (by rw[Htz.out];rfl) aN.out ?_))
   have bj:=hzr.whole ts
   have hinfo:(Tryz.prog.info? 25).map (·.size)=some ts.toArray.size:=by rw[Htz.out];kernel_rfl
   refine bodyPost_ret (v:=.agg ts.toArray) (results_cell_row rfl _ _ (w.heap.size+1) 25 ts.toArray (0,0) _ rfl bj Tryz.underlying25 rfl hinfo) rfl ?_
   exact⟨ts,Hts,rfl,ag ak (by omega) _⟩
set_option maxRecDepth 512
theorem Kk (r k:Nat) (hr:r≤10) (hk:k<16):∃ a:Nat,IntKind.i64.wrap ((r:Int)*4)=(a:Int)∧∃ c:Nat,IntKind.i64.wrap ((k:Int) / 4)=(c:Int)∧∃ q:Nat,IntKind.i64.wrap ((a:Int)+(c:Int))=(q:Int)∧∃ m:Nat,(k:Int).tmod 4=(m:Int)∧q<44∧m<4∧16*r+k=q*4+m:=by
 refine⟨r*4,by rw[IntWalk.i64_in _ (by omega)];omega,k / 4,by rw[IntWalk.i64_in _ (by omega)];omega,r*4+k / 4,by rw[IntWalk.i64_in _ (by omega)];omega,k % 4,by rw[Int.tmod_eq_emod_of_nonneg (by omega)];omega,by omega,by omega,by omega⟩
set_option maxRecDepth 100000
theorem yM (K r:Nat) (hr:r≤10) (ks b:List UInt8) (rs:List Value) (hv:Vec 16 b rs) (w:World) (hl:K<w.heap.size) (hks:ks.length=176) (hK:ah w K 0 (ks.map V8)) :
  Calls Tryz.prog 175 #[.agg rs.toArray,.pointer (some ⟨K,0,none⟩),.int .i64 r] w fun e w'=>∃ ts:List Value,Hid (Vec 16 (a8 b ((ks.drop (16*r)).take 16)) ts)∧e=.returned (.agg ts.toArray)∧Below w.heap.size w w':=by
 have HV:=ae hv
 have HK:=ae hK
 have Hks:=ae hks
 have hz:=lF
 have OK:Hid (((ks.drop (16*r)).take 16).length=16):=by show _=_;rw[List.length_take,List.length_drop,hks];omega
 have cA:Hid ((a8 b ((ks.drop (16*r)).take 16)).length=16):=dS _ _ 16 hv.2 OK.out
 have dc:Hid (b.length=(a8 b ((ks.drop (16*r)).take 16)).length):=hv.2.trans cA.out.symm
 clear hv hK hks
 go_enter Tryz.func175,Tryz.ntmps175
 go_wp2
 clear hz
 go_loopw [7,8] (fun _ i wr=>∃ k:Nat,k≤16∧i=.int .i64 k∧Row wr w.heap.size 25 ((upd (a8 b ((ks.drop (16*r)).take 16)) b k).map V8)∧Row wr (w.heap.size+1) 25 Z16∧Below w.heap.size w wr) (fun _ i _=>16 - (intOf i).toNat)
 case atStart=>exact⟨0,by omega,rfl,by rw[fC];exact HV.out.row ((Row.new w 25 rs).alloc _),Row.newAt _ Z16 (by simp),((Below.refl _ _).alloc (Nat.le_refl _) _).alloc (by simp) _⟩
 case round =>
  obtain ⟨k,hk,rfl,hrow,hzr,ak⟩:=hrel
  by_cases hlt:k<16
  ·have HN:Hid ((a8 b ((ks.drop (16*r)).take 16)).getD k 0=b.getD k 0 ^^^ ks.getD (16*r+k) 0):=by
    show _=_
    rw[sV _ _ k (by rw[HV.out.2];exact hlt) (by rw[OK.out];exact hlt)]
    congr 1
    rw[List.getD_eq_getElem?_getD,List.getElem?_take,if_pos hlt,List.getElem?_drop,List.getD_eq_getElem?_getD]
   have hc:wr.cell? ⟨w.heap.size,k,none⟩=some (.int .u8 (b.getD k 0).toNat):=dJ hrow dc.out k (Nat.le_refl _) (by rw[cA.out];exact hlt)
   obtain ⟨a,ea,c,ec,q,eq,m,em,hq,hm,hqm⟩:=Kk r k hr hlt
   have hc2:wr.cell? ⟨K,q*4+m,none⟩=some (.int .u8 (ks.getD (16*r+k) 0).toNat):=by
    have:=at8 (HK.out.below ak hl) (16*r+k) (by rw[Hks.out];omega)
    rw[Nat.zero_add] at this
    rw[← hqm]
    exact this
   clear hqm
   have hf:wr.frozen? ⟨w.heap.size,k,none⟩=false:=hrow.free k
   have HX:=ae (dV (b.getD k 0) (ks.getD (16*r+k) 0))
   generalize b.getD k 0=x at *
   generalize ks.getD (16*r+k) 0=y at *
   have dR:=ae hrow
   clear hrow
   go_wp2
   have hq':(q:Int)<44:=by omega
   have hm':(m:Int)<4:=by omega
   refine wp_region_still_tail 17 (by kernel_rfl) (by kernel_rfl) ?_
   simp only [List.take_succ_cons,List.take_zero,List.drop_succ_cons,List.drop_zero]
   repeat still_step
   refine wpStill_nil ?_
   clear ea ec eq em hq' hm' hq hm
   go_wp2
   go_roundw
   case rel =>
    refine⟨k+1,by omega,by go_num,eY (dR.out.drew) dc.out (by rw[cA.out];exact hlt) (by rw[HN.out];exact HX.out),hzr.drew.apart (by show w.heap.size+1≠w.heap.size;omega) _,(below_drewN ak 1).setCell (by show w.heap.size≤w.heap.size;omega) _⟩
   case measure=>simp [intOf];omega
  ·obtain rfl:k=16:=by omega
   rw[show ((16:Nat):Int)=16 from rfl]
   obtain ⟨ts,Hts,HRt,Htz,aN⟩:=uj cA.out (dc.out.trans cA.out) hrow
   clear hrow
   go_wp2_with (first
    | (refine wpList_load_row rfl 25 (.tmp 3) rfl w.heap.size rfl 25 ts.toArray (0,0) _ HRt.out Tryz.underlying25 rfl (by rw[Htz.out];kernel_rfl) ?_)
    | (refine wpList_store_row rfl 25 (.tmp 6) (.tmp 29) rfl (w.heap.size+1) ts.toArray rfl rfl 25 _ hzr (by rw[Htz.out];kernel_rfl) (by rw[Htz.out];rfl) aN.out ?_))
   have bj:=hzr.whole ts
   have hinfo:(Tryz.prog.info? 25).map (·.size)=some ts.toArray.size:=by rw[Htz.out];kernel_rfl
   refine bodyPost_ret (v:=.agg ts.toArray) (results_cell_row rfl _ _ (w.heap.size+1) 25 ts.toArray (0,0) _ rfl bj Tryz.underlying25 rfl hinfo) rfl ?_
   exact⟨ts,Hts,rfl,ag ak (by omega) _⟩
end Go.Proofs.YthbmknpbcgnabaaGreatDoor
end
section
namespace Go.Proofs.YthbmknpbcgnabaaGreatDoor
open Go.RowKit Aes
theorem mixed (b:List UInt8) (c a:Nat) (ha:a=4*c) (hc:c<4) :
  (fV b).getD a 0=dbl (b.getD a 0) ^^^ tpl (b.getD (a+1) 0) ^^^ b.getD (a+2) 0 ^^^ b.getD (a+3) 0 ∧
  (fV b).getD (a+1) 0=b.getD a 0 ^^^ dbl (b.getD (a+1) 0) ^^^ tpl (b.getD (a+2) 0) ^^^ b.getD (a+3) 0 ∧
  (fV b).getD (a+2) 0=b.getD a 0 ^^^ b.getD (a+1) 0 ^^^ dbl (b.getD (a+2) 0) ^^^ tpl (b.getD (a+3) 0) ∧
  (fV b).getD (a+3) 0=tpl (b.getD a 0) ^^^ b.getD (a+1) 0 ^^^ b.getD (a+2) 0 ^^^ dbl (b.getD (a+3) 0):=by
 subst ha
 rw[mD b _ (by omega),mD b _ (by omega),mD b _ (by omega),mD b _ (by omega)]
 unfold z6
 rw[show 4*(4*c / 4)=4*c by omega,show 4*((4*c+1) / 4)=4*c by omega,show 4*((4*c+2) / 4)=4*c by omega,show 4*((4*c+3) / 4)=4*c by omega,
  show (4*c+1) % 4=1 by omega,show (4*c+2) % 4=2 by omega,show (4*c+3) % 4=3 by omega,show (4*c+1+3) % 4=0 by omega,
  show (4*c+2+3) % 4=1 by omega,show (4*c+3+3) % 4=2 by omega,Nat.add_zero]
 refine⟨rfl,?_,?_,?_⟩ <;> ac_rfl
theorem BK {w wr:World} {g:Nat} {t:TypeId} {b:List UInt8} (c a:Nat) (hb:b.length=16) (ha:a=4*c) (hc:c<4) (h:Row wr g t ((upd (fV b) b a).map V8)) (hw:Below w.heap.size w wr) (hg:w.heap.size≤g) {x y z u:UInt8}
  (hx:b.getD a 0=x) (hy:b.getD (a+1) 0=y) (hz:b.getD (a+2) 0=z) (hu:b.getD (a+3) 0=u) :
  ∀ X,X=(((wr.setCell ⟨g,a,none⟩ (.int .u8 (bits .xor .u8 (bits .xor .u8 (bits .xor .u8 ((dbl x).toNat:Int) (tpl y).toNat) z.toNat) u.toNat))).setCell ⟨g,a+1,none⟩ (.int .u8 (bits .xor .u8 (bits .xor .u8 (bits .xor .u8 (x.toNat:Int) (dbl y).toNat) (tpl z).toNat) u.toNat))).setCell ⟨g,a+2,none⟩ (.int .u8 (bits .xor .u8 (bits .xor .u8 (bits .xor .u8 (x.toNat:Int) y.toNat) (dbl z).toNat) (tpl u).toNat))).setCell ⟨g,a+3,none⟩ (.int .u8 (bits .xor .u8 (bits .xor .u8 (bits .xor .u8 ((tpl x).toNat:Int) y.toNat) z.toNat) (dbl u).toNat)) →
   Row X g t ((upd (fV b) b (a+4)).map V8)∧Below w.heap.size w X∧∀ g',g'≠g→X.heap[g']? = wr.heap[g']?:=by
 rintro X rfl
 obtain ⟨m0,m1,m2,m3⟩:=mixed b c a ha hc
 subst hx hy hz hu
 have hl:b.length=(fV b).length:=by rw[fp,hb]
 have hn:(fV b).length=16:=fp b
 refine⟨?_,?_,?_⟩
 ·exact eY (eY (eY (eY h hl (by omega) (by rw[m0,dV,dV,dV])) hl (by omega) (by rw[m1,dV,dV,dV])) hl (by omega) (by rw[m2,dV,dV,dV])) hl (by omega) (by rw[m3,dV,dV,dV])
 ·exact(((hw.setCell hg _).setCell hg _).setCell hg _).setCell hg _
 ·intro g' hg'
  rw[heap_setCell_other _ _ _ _ hg',heap_setCell_other _ _ _ _ hg',heap_setCell_other _ _ _ _ hg',heap_setCell_other _ _ _ _ hg']
set_option maxRecDepth 100000
theorem pS (b:List UInt8) (rs:List Value) (hv:Vec 16 b rs) (w:World) :
  Calls Tryz.prog 178 #[.agg rs.toArray] w fun e w'=>∃ ts:List Value,Hid (Vec 16 (fV b) ts)∧e=.returned (.agg ts.toArray)∧Below w.heap.size w w':=by
 have HV:=ae hv
 have hz:=lF
 have cA:Hid ((fV b).length=16):=fp b
 have dc:Hid (b.length=(fV b).length):=hv.2.trans cA.out.symm
 clear hv
 go_enter Tryz.func178,Tryz.ntmps178
 go_wp2
 clear hz
 go_loopw [3,4,5,6,7] (fun i _ _ _ _ wr=>∃ c a:Nat,c≤4∧Hid (a=4*c)∧i=.int .i64 a∧Row wr w.heap.size 25 ((upd (fV b) b a).map V8)∧Row wr (w.heap.size+1) 25 Z16∧Below w.heap.size w wr) (fun i _ _ _ _ _=>16 - (intOf i).toNat)
 case atStart=>exact⟨0,0,by omega,rfl,rfl,by rw[fC];exact HV.out.row ((Row.new w 25 rs).alloc _),Row.newAt _ Z16 (by simp),((Below.refl _ _).alloc (Nat.le_refl _) _).alloc (by simp) _⟩
 case round =>
  obtain ⟨c,a,hc,Ha,rfl,hrow,hzr,ak⟩:=hrel
  by_cases hlt:c<4
  ·have hal:a+3<16:=by have:=Ha.out;omega
   have c0:wr.cell? ⟨w.heap.size,a,none⟩=some (.int .u8 (b.getD a 0).toNat):=dJ hrow dc.out a (Nat.le_refl _) (by rw[cA.out];omega)
   have c1:wr.cell? ⟨w.heap.size,a+1,none⟩=some (.int .u8 (b.getD (a+1) 0).toNat):=dJ hrow dc.out (a+1) (by omega) (by rw[cA.out];omega)
   have c2:wr.cell? ⟨w.heap.size,a+2,none⟩=some (.int .u8 (b.getD (a+2) 0).toNat):=dJ hrow dc.out (a+2) (by omega) (by rw[cA.out];omega)
   have c3:wr.cell? ⟨w.heap.size,a+3,none⟩=some (.int .u8 (b.getD (a+3) 0).toNat):=dJ hrow dc.out (a+3) (by omega) (by rw[cA.out];omega)
   have f0:wr.frozen? ⟨w.heap.size,a,none⟩=false:=hrow.free a
   have f1:wr.frozen? ⟨w.heap.size,a+1,none⟩=false:=hrow.free (a+1)
   have f2:wr.frozen? ⟨w.heap.size,a+2,none⟩=false:=hrow.free (a+2)
   have f3:wr.frozen? ⟨w.heap.size,a+3,none⟩=false:=hrow.free (a+3)
   obtain ⟨x,hx⟩:∃ x,b.getD a 0=x:=⟨_,rfl⟩
   obtain ⟨y,hy⟩:∃ x,b.getD (a+1) 0=x:=⟨_,rfl⟩
   obtain ⟨z,hz⟩:∃ x,b.getD (a+2) 0=x:=⟨_,rfl⟩
   obtain ⟨u,hu⟩:∃ x,b.getD (a+3) 0=x:=⟨_,rfl⟩
   rw[hx] at c0
   rw[hy] at c1
   rw[hz] at c2
   rw[hu] at c3
   have Hx:=ae hx
   have Hy:=ae hy
   have Hz:=ae hz
   have Hu:=ae hu
   have dR:=ae hrow
   clear hrow hx hy hz hu
   go_wp2
   have e1:IntKind.i64.wrap ((a:Int)+1)=(a:Int)+1:=IntWalk.i64_in _ (by omega)
   have e2:IntKind.i64.wrap ((a:Int)+2)=(a:Int)+2:=IntWalk.i64_in _ (by omega)
   have e3:IntKind.i64.wrap ((a:Int)+3)=(a:Int)+3:=IntWalk.i64_in _ (by omega)
   have t1:((a:Int)+1).toNat=a+1:=by omega
   have t2:((a:Int)+2).toNat=a+2:=by omega
   have t3:((a:Int)+3).toNat=a+3:=by omega
   have p1:0≤(a:Int)+1:=by omega
   have p2:0≤(a:Int)+2:=by omega
   have p3:0≤(a:Int)+3:=by omega
   have q0:(a:Int)<16:=by omega
   have q1:(a:Int)+1<16:=by omega
   have q2:(a:Int)+2<16:=by omega
   have q3:(a:Int)+3<16:=by omega
   go_quiet (fail)
   clear e1 e2 e3 t1 t2 t3 p1 p2 p3
   go_wp2_with (first
    | (go_at_call 186;refine(lV _ _).mono ?_;rintro e w' ⟨rfl,rfl⟩)
    | (go_at_call 182;refine(pz _ _).mono ?_;rintro e w' ⟨rfl,rfl⟩))
   go_roundw
   case rel =>
    obtain ⟨r1,r2,r3⟩:=BK c a HV.out.2 Ha.out hlt (dR.out.drewN nq) (below_drewN ak nq) (Nat.le_refl _) Hx.out Hy.out Hz.out Hu.out _ rfl
    exact⟨c+1,a+4,by omega,by have:=Ha.out;show _=_;omega,by go_num,r1,(hzr.drewN nq).same (r3 _ (by omega)),r2⟩
   case measure=>simp [intOf];omega
  ·obtain rfl:c=4:=by omega
   obtain rfl:a=16:=Ha.out
   rw[show ((16:Nat):Int)=16 from rfl]
   obtain ⟨ts,Hts,HRt,Htz,aN⟩:=uj cA.out (dc.out.trans cA.out) hrow
   clear hrow
   go_wp2_with (first
    | (refine wpList_load_row rfl 25 (.tmp 1) rfl w.heap.size rfl 25 ts.toArray (0,0) _ HRt.out Tryz.underlying25 rfl (by rw[Htz.out];kernel_rfl) ?_)
    | (refine wpList_store_row rfl 25 (.tmp 2) (.tmp 74) rfl (w.heap.size+1) ts.toArray rfl rfl 25 _ hzr (by rw[Htz.out];kernel_rfl) (by rw[Htz.out];rfl) aN.out ?_))
   have bj:=hzr.whole ts
   have hinfo:(Tryz.prog.info? 25).map (·.size)=some ts.toArray.size:=by rw[Htz.out];kernel_rfl
   refine bodyPost_ret (v:=.agg ts.toArray) (results_cell_row rfl _ _ (w.heap.size+1) 25 ts.toArray (0,0) _ rfl bj Tryz.underlying25 rfl hinfo) rfl ?_
   exact⟨ts,Hts,rfl,ag ak (by omega) _⟩
end Go.Proofs.YthbmknpbcgnabaaGreatDoor
end
