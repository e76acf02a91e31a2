/- Of the walk. -/
import Derived.Test.YthbmknpbcgnabaaGreatDoorB38
set_option maxHeartbeats 40000000
namespace Go.Proofs.YthbmknpbcgnabaaGreatDoor
open Go.RowKit Aes Ctr Sl Dsk
theorem E9 (W:World) (ep af:Nat) (root:List UInt8):(Instr.field 41 (.agg (dL ep af root).toArray) 0).run Tryz.prog W=.ok (.int .u64 (ep:Int)) W:=by
 have hag:(isAgg 39).run Tryz.prog W=.ok false W:=by kernel_rfl
 unfold Instr.field
 simp only [Sem.run_bind,run_underlying Tryz.underlying41,Result.andThen_ok]
 simp [part,dL,asAgg,hag]
def sq:List UInt8:=[107]
set_option maxRecDepth 100000
theorem lZ (w:World) (hT:Hm.Tab w):Calls Tryz.prog 6 #[] w fun e w'=>e=.returned (.bool true)∧Below w.heap.size w w':=by
 have HN:=ae (qU 16 (by omega) (by omega) w)
 have HT:=ae hT
 have hzk:=mU
 have hzr:=oT
 have hzl:(dL 0 0 (List.replicate 32 0)).length=34:=rfl
 generalize dL 0 0 (List.replicate 32 0)=ZR at hzr hzl
 have Hzr:Hid (ZR.toArray.size=34):=hzl
 have HZk:=ae hzk
 have HZr:=ae hzr
 clear hzl hzk hzr
 clear hT
 go_enter Tryz.func6,Tryz.ntmps6
 go_wp2_with fail
 refine HN.out.mono ?_
 rintro e w1 ⟨d,G,rfl,hD,hG,hb1⟩
 have HD1:=ae hD
 have HG:=ae hG
 have HB1:=ae hb1
 clear hD hG hb1 HN
 have hc1:=Joins.run_convert_bytes_const_at (P:=Tryz.prog) w1 22 5 #[.int .u8 107] 1 1 w1.heap.size rfl Tryz.underlying22 Tryz.underlying5
 obtain ⟨w2,hw2⟩:∃ w2,w2=w1.alloc (.cells #[.int .u8 107] 5 (1,2)):=⟨_,rfl⟩
 have HB2:Hid (Below w.heap.size w w2):=by rw[hw2];exact HB1.out.alloc HB1.out.size _
 have HD2:Hid (aG w2 G d (List.replicate 16 Blk.zero)):=by rw[hw2];exact HD1.out.below ((Below.refl _ _).alloc (Nat.le_refl _) _)
 have HGl:Hid (∀ k,G k→k<w1.heap.size):=HD1.out.lt
 have HA:Hid (Arg w2 (.slice (some ⟨w1.heap.size,0,none⟩) 1 1) sq):=by
  refine .inr ⟨w1.heap.size,0,1,rfl,by rw[hw2];simp,by decide,fun j u hu=>?_⟩
  rw[hw2,Nat.zero_add]
  refine(Joins.cell_alloc_mark_at w1 _ _ _ _ j rfl).trans ?_
  rw[List.getElem?_toArray]
  exact hu
 have HDr:=ae (kM sq (by decide) _ w2 (HT.out.below HB2.out) HA.out)
 go_wp2_with fail
 rw[← hw2]
 clear hw2 hc1 HA HD1 HB1
 refine HDr.out.mono ?_
 rintro e w3 ⟨ks,Hks,rfl,hb3⟩
 have hkk:cz (kE sq) (mE sq) ks:=Hks.out
 generalize kE sq=ek at *
 generalize mE sq=mk at *
 have HK:=ae hkk
 have lh:Hid (ks.toArray.size=48):=hkk.size
 have aN:Hid (ks.toArray.all (·.oneCell')=true):=hkk.vec.one
 have HB3:=ae (HB2.out.trans (hb3.mono HB2.out.size))
 have HD3:=ae (HD2.out.below hb3)
 have HG3:Hid (∀ k,G k→k<w3.heap.size):=HD3.out.lt
 clear hkk Hks hb3 HB2 HD2 HDr HGl
 obtain ⟨w4,hw4⟩:∃ W,W=w3.alloc (.cells Z48.toArray 29):=⟨_,rfl⟩
 have HZ4:Hid (Row w4 w3.heap.size 29 Z48):=by rw[hw4];exact Row.new w3 29 Z48
 have HB4:Hid (Below w3.heap.size w3 w4):=by rw[hw4];exact(Below.refl _ _).alloc (Nat.le_refl _) _
 have PZ:=HZk.out w3
 obtain ⟨w5,hw5⟩:∃ W,W=w4.setRow w3.heap.size ks.toArray:=⟨_,rfl⟩
 have HX5:Hid (Row w5 w3.heap.size 29 ks):=by rw[hw5];exact HZ4.out.whole ks
 have HB5:Hid (Below w3.heap.size w3 w5):=by rw[hw5];exact ag HB4.out (Nat.le_refl _) _
 have HW5:Hid (Below w.heap.size w w5):=HB3.out.trans (HB5.out.mono HB3.out.size)
 have Hx0:Hid (w.heap.size≤w3.heap.size):=HB3.out.size
 have HD5:=ae (HD3.out.below HB5.out)
 have HG5:Hid (∀ k,G k→w.heap.size≤k∧¬ k=w3.heap.size):=fun k hk=>⟨HG.out k hk,fun e=>by have:=HG3.out k hk;omega⟩
 obtain ⟨x0,hx0⟩:∃ x,x=w3.heap.size:=⟨_,rfl⟩
 rw[← hx0] at HX5 HG5 HZ4 hw5 Hx0
 have FU:=ae hx0
 clear hx0
 obtain ⟨tags,D1,hfe,hl1,hLi,Kz⟩:=Bk.BX (ek:=ek) (mk:=mk) (n:=8) (D:=List.replicate 16 Blk.zero) List.length_replicate (by omega)
 have HF:=ae (Duo.format (w0:=w) (X:=fun k=>k=x0) ek mk ks 8 HD5.out HG5.out (fun k e=>by rw[e];exact HX5.out.lt) HW5.out HK.out (by omega) List.length_replicate HT.out)
 rw[hfe] at HF
 obtain ⟨root,hroot⟩:∃ r,r=Bk.b7 mk tags:=⟨_,rfl⟩
 rw[← hroot] at HF Kz
 have hrd:Bk.read ek mk ⟨8,1,0,root,tags,[],0,[]⟩ D1 7=some Bk.z64:=hLi.read rfl rfl rfl (by decide) 7 (by omega)
 have hmt:Bk.cH mk 8 1 0 root D1=some ⟨8,1,0,root,tags,[],0,[]⟩:=by rw[hroot];exact hLi.cH
 have HRD:=ae hrd
 have HMT:=ae hmt
 have HL1:=ae hl1
 have CO:=ae Kz
 clear hfe hl1 hLi Kz hroot hrd hmt HD5 HD3 HG HG3 HG5 HB3 HB4 HB5
 have go:∀ {s:Bk.Bn},s=⟨8,1,0,root,tags,[],0,[]⟩→s.n=8∧s.L=[]∧s.ep=1∧s.af=0∧s.root=root:=fun e=>by rw[e];exact⟨rfl,rfl,rfl,rfl,rfl⟩
 obtain ⟨s,hs⟩:∃ s:Bk.Bn,s=⟨8,1,0,root,tags,[],0,[]⟩:=⟨_,rfl⟩
 rw[← hs] at HF HRD HMT
 obtain ⟨hs1,hs2,hs3,hs4,hs5⟩:=go hs
 have HS:Hid (s.n=8∧s.L=[]∧s.ep=1∧s.af=0∧s.root=root):=⟨hs1,hs2,hs3,hs4,hs5⟩
 clear hs go hs1 hs2 hs3 hs4 hs5
 go_wp2_with (first
  | (rw[← hw4,← FU.out];clear hw4 PZ;refine wpList_store_row rfl 29 (.tmp 3) (.tmp 23) rfl x0 ks.toArray rfl rfl 29 _ HZ4.out (by rw[lh.out];kernel_rfl) (by rw[lh.out];rfl) aN.out ?_;rw[← hw5];clear hw5)
  | (refine wpList_load_row rfl 29 (.tmp 3) rfl x0 rfl 29 ks.toArray (0,0) _ HX5.out Tryz.underlying29 rfl (by rw[lh.out];kernel_rfl) ?_))
 refine HF.out.mono ?_
 rintro e w6 ⟨P,rfl,hd6,hc6⟩
 have HX6:=ae (gR HX5.out hc6 rfl)
 have HD6:=ae hd6
 clear hd6 hc6 HF HX5 HW5 HZ4
 go_wp2_with (refine wpList_load_row rfl 29 (.tmp 3) rfl x0 rfl 29 ks.toArray (0,0) _ HX6.out Tryz.underlying29 rfl (by rw[lh.out];kernel_rfl) ?_)
 refine(HD6.out.nA ks 9 HK.out (by omega) (.inr (.inr (by rw[HL1.out];omega)))).mono ?_
 rintro e w7 ⟨rfl,hb⟩
 have HX7:=ae (HX6.out.below hb HX6.out.lt)
 have HD7:=ae (HD6.out.stay hb)
 clear hb HX6 HD6
 go_wp2_with fail
 have hR7:=HD7.out.read HT.out (by rw[HS.out.1];exact HL1.out) 7 (by rw[HS.out.1];omega)
 rw[HRD.out] at hR7
 have HR7:=ae hR7
 clear hR7
 refine HR7.out.mono ?_
 rintro e w8 ⟨v,rfl,HO,hb⟩
 obtain ⟨Av,cv,hv⟩:=HO.out.arg.form
 rw[show ((some Bk.z64).getD []).length=64 from Bk.jJ] at hv
 subst hv
 have HX8:=ae (HX7.out.below hb HX7.out.lt)
 have HD8:=ae (HD7.out.stay hb)
 clear hb HX7 HD7 HO HR7
 go_wp2_with fail
 have hst:Bk.step ek mk s D1=((s,D1),false,2):=by rw[Bk.step,if_pos HS.out.2.1]
 have hR8:=HD8.out.step HT.out (by rw[HS.out.1];exact HL1.out) (by rw[HS.out.2.2.1];omega)
 rw[hst] at hR8
 have HR8:=ae hR8
 clear hR8 hst
 refine HR8.out.mono ?_
 rintro e w9 ⟨rfl,hd9,hc9⟩
 have HX9:=ae (gR HX8.out hc9 rfl)
 have HD9:=ae hd9
 clear hd9 hc9 HR8 HX8 HD8
 obtain ⟨rs,hrs⟩:∃ r,r=dL s.ep s.af s.root:=⟨_,rfl⟩
 have HRs:=ae hrs
 have HRS:Hid (rs=dL 1 0 root):=by show _=_;rw[hrs,HS.out.2.2.1,HS.out.2.2.2.1,HS.out.2.2.2.2]
 have HRg:=ae (fun W (h:Duo w W (fun k=>k=x0) P d ek mk s D1)=>h.reg rs hrs)
 have zk:Hid (rs.toArray.size=34):=by show _=_;rw[HRS.out];exact aW CO.out
 have sP:Hid (rs.toArray.all (·.oneCell')=true):=by
  show _=_
  rw[HRS.out,dL]
  simp
  exact⟨rfl,rfl,fun _ _=>rfl⟩
 clear hrs
 go_wp2_with fail
 refine(HRg.out w9 HD9.out).mono ?_
 rintro e w10 ⟨rfl,hb⟩
 have IY:=ae (HX9.out.below hb HX9.out.lt)
 have LY:=ae (HD9.out.stay hb)
 clear hb HX9 HD9 HRg
 obtain ⟨r0,hr0⟩:∃ x,x=w10.heap.size:=⟨_,rfl⟩
 obtain ⟨w11,Hf⟩:∃ W,W=w10.alloc (.cells ZR.toArray 41):=⟨_,rfl⟩
 have LP:Hid (Row w11 r0 41 ZR):=by rw[Hf,hr0];exact Row.new w10 41 ZR
 have Ob:Below w10.heap.size w10 w11:=by rw[Hf];exact(Below.refl _ _).alloc (Nat.le_refl _) _
 obtain ⟨w12,He⟩:∃ W,W=w11.setRow r0 rs.toArray:=⟨_,rfl⟩
 have Ga:Hid (Row w12 r0 41 rs):=by rw[He];exact LP.out.whole rs
 have KY:Below w10.heap.size w10 w12:=by rw[He];exact ag Ob (by omega) _
 have IX:=ae (IY.out.below KY IY.out.lt)
 have P0:=IY.out.lt
 have Hne:Hid (x0≠r0):=by show _≠_;omega
 have Pc:Hid (Duo w w12 (fun k=>k=x0∨k=r0) P d ek mk s D1):=LY.out.nE KY _ fun k hk=>hk.imp id fun e=>by rw[e];exact⟨by omega,Ga.out.lt⟩
 have hM:=Pc.out.cH HT.out ks HK.out 1 0 root rs (by rw[HS.out.1];exact HL1.out) (by omega) (by omega) CO.out HRS
 rw[HS.out.1,HMT.out] at hM
 have HM:=ae hM
 have OD:Hid (w.heap.size≤r0):=by have:=LY.out.below.size;show _≤_;omega
 have Nk:=HZr.out w10
 have QS:=ae hr0
 clear Ob KY hM IY LY P0 hr0
 go_wp2_with (first
  | (rw[← Hf,← QS.out];clear Hf Nk;refine wpList_store_row rfl 41 (.tmp 12) (.tmp 53) rfl r0 rs.toArray rfl rfl 41 _ LP.out (by rw[zk.out];kernel_rfl) (by rw[zk.out,Hzr.out]) sP.out ?_;rw[← He];clear He)
  | (refine wpList_load_row rfl 29 (.tmp 3) rfl x0 rfl 29 ks.toArray (0,0) _ IX.out Tryz.underlying29 rfl (by rw[lh.out];kernel_rfl) ?_)
  | (refine wpList_load_row rfl 41 (.tmp 12) rfl r0 rfl 41 rs.toArray (0,0) _ Ga.out Tryz.underlying41 rfl (by rw[zk.out];kernel_rfl) ?_))
 refine HM.out.mono ?_
 rintro e w13 ⟨P',rfl,_,NU,hb⟩
 have OW:=ae (IX.out.below hb IX.out.lt)
 have IU:=ae (Ga.out.below hb Ga.out.lt)
 have Pb:=ae NU
 clear hb NU HM IX Ga Pc LP
 obtain ⟨rs0,H9⟩:∃ r,r=dL 0 0 root:=⟨_,rfl⟩
 have hy0:w13.cell? ⟨r0,0,none⟩=some (.int .u64 1):=by rw[IU.out.cell,HRS.out];rfl
 have hf0:=IU.out.free 0
 obtain ⟨w14,EF⟩:∃ W,W=w13.setCell ⟨r0,0,none⟩ (.int .u64 0):=⟨_,rfl⟩
 have OT:Hid (Row w14 r0 41 rs0):=by
  have:=IU.out.set 0 (.int .u64 0)
  rw[HRS.out] at this
  rw[EF,H9]
  exact this
 have hne:x0≠r0:=Hne.out
 have OV:Hid (Row w14 x0 29 ks):=by rw[EF];exact OW.out.apart hne _
 have NX:Chg (fun k _=>k=r0) w13 w14:=by rw[EF];exact(Chg.refl _ w13).setCell (p:=⟨r0,0,none⟩) rfl (fun _=>rfl) (by rw[hy0];rfl) _
 have I2:Hid (Duo w w14 (fun k=>k=x0∨k=r0) P d ek mk s D1):=Pb.out.chg NX fun k _ _ e=>⟨.inr e,by rw[e];exact OD.out⟩
 have QP:Hid (rs0.toArray.size=34):=by show _=_;rw[H9];exact aW CO.out
 have HM0:=ae (I2.out.BJ ks HK.out.vec.len 8 0 root rs0 CO.out H9 (by omega) (by omega) (by rw[HL1.out];omega))
 clear H9 OW IU Pb hne NX OD
 go_wp2_with (first
  | (rw[← EF];clear EF hy0 hf0;refine wpList_load_row rfl 29 (.tmp 3) rfl x0 rfl 29 ks.toArray (0,0) _ OV.out Tryz.underlying29 rfl (by rw[lh.out];kernel_rfl) ?_)
  | (refine wpList_load_row rfl 41 (.tmp 12) rfl r0 rfl 41 rs0.toArray (0,0) _ OT.out Tryz.underlying41 rfl (by rw[QP.out];kernel_rfl) ?_))
 refine HM0.out.mono ?_
 rintro e w15 ⟨rfl,hb⟩
 have O6:=ae ((I2.out.stay hb).reg rs HRs)
 have LZ:Hid (Below w.heap.size w w15):=(I2.out.stay hb).below
 clear hb HM0 OV OT I2
 go_wp2_with fail
 refine O6.out.mono ?_
 rintro e w16 ⟨rfl,hb⟩
 have Q8:Hid (Below w.heap.size w w16):=LZ.out.trans (hb.mono LZ.out.size)
 have hfd:=E9 w16 1 0 root
 rw[← HRS.out] at hfd
 clear hb O6 LZ
 go_wp2
 go_ret
 exact⟨rfl,Q8.out⟩
namespace Bk
set_option maxRecDepth 512
def lay (x:List UInt8) (k:Nat):List UInt8:=(List.range 64).map fun t=>if t<k then x.getD t 0 else 0
def dt (l:List (List UInt8)) (i:Nat):List UInt8 :=
 if l.length=0 then z64
 else if l.length≤i then (lay (l.getD (i % l.length) []) 64).set 63 ((lay (l.getD (i % l.length) []) 64).getD 63 0+UInt8.ofNat (i / l.length))
 else lay (l.getD (i % l.length) []) 64
def fk (n:Nat) (l:List (List UInt8)):List (List UInt8):=(List.range n).map (dt l)
theorem dC (x:List UInt8) (k:Nat):(lay x k).length=64:=by simp [lay]
theorem Ey (x:List UInt8):lay x 0=z64:=by
 unfold lay z64
 apply List.ext_getElem?
 intro j
 rw[List.getElem?_map,List.getElem?_replicate]
 by_cases h:j<64
 ·rw[List.getElem?_range h,if_pos h];simp
 ·rw[List.getElem?_eq_none (by simpa using h),if_neg h];rfl
theorem kV (x:List UInt8) (k t:Nat) (ht:t<64):(lay x k)[t]? = some (if t<k then x.getD t 0 else 0):=by
 unfold lay
 rw[List.getElem?_map,List.getElem?_range ht];rfl
theorem Ez (x:List UInt8) (k:Nat) (hk:k<64):lay x (k+1)=(lay x k).set k (x.getD k 0):=by
 apply List.ext_getElem?
 intro t
 rw[List.getElem?_set]
 by_cases ht:t<64
 ·rw[kV x _ t ht,dC]
  by_cases e:k=t
  ·subst e
   rw[if_pos rfl,if_pos hk,if_pos (by omega)]
  ·rw[if_neg e,kV x _ t ht]
   by_cases h2:t<k
   ·rw[if_pos h2,if_pos (by omega)]
   ·rw[if_neg h2,if_neg (by omega)]
 ·rw[List.getElem?_eq_none (by rw[dC];omega),if_neg (by omega),List.getElem?_eq_none (by rw[dC];omega)]
theorem G3 (x:List UInt8) (k:Nat) (hk:x.length≤k):lay x k=lay x 64:=by
 apply List.ext_getElem?
 intro t
 by_cases ht:t<64
 ·rw[kV x _ t ht,kV x _ t ht,if_pos ht]
  by_cases h2:t<k
  ·rw[if_pos h2]
  ·rw[if_neg h2,List.getD_eq_getElem?_getD,List.getElem?_eq_none (by omega)];rfl
 ·rw[List.getElem?_eq_none (by rw[dC];omega),List.getElem?_eq_none (by rw[dC];omega)]
theorem G5 (x:List UInt8) (k:Nat) (hk:64≤k):lay x k=lay x 64:=by
 apply List.ext_getElem?
 intro t
 by_cases ht:t<64
 ·rw[kV x _ t ht,kV x _ t ht,if_pos ht,if_pos (by omega)]
 ·rw[List.getElem?_eq_none (by rw[dC];omega),List.getElem?_eq_none (by rw[dC];omega)]
theorem cG (l:List (List UInt8)) (i:Nat):(dt l i).length=64:=by
 unfold dt
 split
 ·rfl
 ·split
  ·rw[List.length_set,dC]
  ·exact dC _ _
theorem dr (n:Nat) (l:List (List UInt8)):(fk n l).length=n:=by simp [fk]
theorem jr (n:Nat) (l:List (List UInt8)):fk (n+1) l=fk n l++[dt l n]:=by
 unfold fk
 rw[List.range_succ,List.map_append];rfl
end Bk
set_option maxRecDepth 512
theorem ym (x:List UInt8) (k:Nat):(Bk.lay x k).length=64:=Bk.dC x k
theorem pY (x:List UInt8) (k:Nat) (hk:x.length≤k∨64≤k):Bk.lay x k=Bk.lay x 64:=hk.elim (Bk.G3 x k) (Bk.G5 x k)
theorem xO (l:List UInt8) (j:Nat) (b:UInt8):(l.map V8).set j (V8 b)=(l.set j b).map V8:=by rw[List.map_set]
set_option maxRecDepth 100000
theorem FN {w:World} {K:Nat→Prop} {v:Value} {l:List (List UInt8)} (n:Nat) (hn:n≤100) (h:aI w K v l) (hl:l.length≤100) :
  Calls Tryz.prog 15 #[IV n,v] w fun e w'=>(∃ r,e=.returned r∧Hid (aR w.heap.size w.heap.size w' r (Bk.fk n l)))∧Below w.heap.size w w':=by
 obtain ⟨A,cap,rfl⟩:=h.form
 obtain ⟨z,hz⟩:∃ z,z=Bk.z64.map V8:=⟨_,rfl⟩
 have hmk:∀ W:World,(Instr.makeSlice 22 (.int .i64 64) (.int .i64 64)).run Tryz.prog W=.ok (.slice (some ⟨W.heap.size,0,none⟩) 64 64) (W.alloc (.cells z.toArray 5)):=fun W=>by rw[hz,Bk.z64];exact Jh 64 (by omega) W
 have HZ:=ae hz
 have HMk:=ae hmk
 obtain ⟨m,hm⟩:∃ m,m=l.length:=⟨_,rfl⟩
 rw[← hm] at h hl ⊢
 have HPt:Hid (0<m→_):=fun hp=>h.at_ hm.symm hp
 have HM:=ae hm
 clear h hm hz hmk
 go_enter Tryz.func15,Tryz.ntmps15
 go_wp2
 go_loopw [5,6,7,8,9] (fun r i _ _ _ wr=>∃ k:Nat,k≤n∧i=.int .i64 k∧Hid (aR w.heap.size w.heap.size wr r (Bk.fk k l))∧Hid (Below w.heap.size w wr)) (fun _ i _ _ _ _=>n - (RowKit.intOf i).toNat)
 case atStart=>exact⟨0,by omega,rfl,aR.nil _ _ _,Below.refl _ _⟩
 case round =>
  obtain ⟨k,hk,rfl,HR,HB⟩:=hrel
  rename World=>w2
  by_cases hlt:k<n
  ·have NC:=HMk.out w2
   obtain ⟨w3,hw3⟩:∃ W,W=w2.alloc (.cells z.toArray 5):=⟨_,rfl⟩
   have HB3:Hid (Below w2.heap.size w2 w3):=by rw[hw3];exact(Below.refl _ _).alloc (Nat.le_refl _) _
   obtain ⟨g,hg⟩:∃ g,g=w2.heap.size:=⟨_,rfl⟩
   have HZ3:Hid (Row w3 g 5 (Bk.z64.map V8)):=by rw[hw3,hg,← HZ.out];exact Row.new w2 5 z
   rw[← hw3,← hg] at NC
   have Hge:=ae hg
   clear hw3 hg
   by_cases hm0:m=0
   ·subst hm0
    have iU:Hid (Row w3 g 5 ((Bk.dt l k).map V8)):=by
     have:Bk.dt l k=Bk.z64:=by unfold Bk.dt;rw[if_pos HM.out.symm]
     rw[this];exact HZ3.out
    have HBE:=HB3
    clear HPt HZ3 HB3
    have hRw:=iU.out
    have hBE:=HBE.out
    have hsE:=hBE.size
    have hgl:g<w3.heap.size:=hRw.lt
    obtain ⟨w4,hw4⟩:∃ W,W=(w3.alloc (.cells #[.slice (some ⟨g,0,none⟩) 64 64] 22)):=⟨_,rfl⟩
    have hal:Below w3.heap.size w3 w4:=by rw[hw4];exact below_drewN ((Below.refl _ _).alloc (Nat.le_refl _) _) 0
    have HSe:Hid (ah w4 w3.heap.size 0 [.slice (some ⟨g,0,none⟩) (Bk.dt l k).length 64]):=by rw[hw4,Bk.cG];exact(Row.new w3 22 [.slice (some ⟨g,0,none⟩) 64 64]).sees
    have HR4:=ae ((HR.out.below hBE).below hal)
    have mF:=HB.out.size
    have hge:=Hge.out
    have HG4:Hid (g<w4.heap.size∧w.heap.size≤g∧(Bk.dt l k).length≤64∧ah w4 g 0 ((Bk.dt l k).map V8)):=⟨Nat.lt_of_lt_of_le hgl hal.size,by omega,by rw[Bk.cG];omega,(hRw.below hal hgl).sees⟩
    have Hne:Hid (u5.ownBlock≠some g):=by
     show _≠_
     intro e
     obtain ⟨vs,ho,_⟩:=HR.out
     have:=(ho.lt e).2
     omega
    have HB4:Hid (Below w.heap.size w w4):=HB.out.trans ((hBE.trans (hal.mono hsE)).mono mF)
    have qN:Hid (w.heap.size≤w4.heap.size):=HB4.out.size
    have HLk:Hid ((Bk.fk k l).length≤1000):=by show _≤_;rw[Bk.dr];omega
    have HS:Hid (Bk.fk k l++[Bk.dt l k]=Bk.fk (k+1) l):=(Bk.jr k l).symm
    clear hRw hBE hsE hgl hal mF hge HR iU HBE
    go_wp2_with (at_builtin;rw[← hw4];clear hw4;refine aX rfl (.tmp 63) (.tmp 65) rfl w.heap.size w.heap.size _ (Bk.fk k l) rfl HR4.out w3.heap.size 1 g 0 64 (Bk.dt l k) rfl HSe.out HG4.out.1 HG4.out.2.1 Hne.out HG4.out.2.2.1 HG4.out.2.2.2 HLk.out qN.out ?_;intro v5 w5 HR5 hb5)
    go_roundw
    case rel=>exact⟨k+1,by omega,by go_num,by have:=HR5.out;rw[HS.out] at this;exact this,HB4.out.trans hb5⟩
    case measure=>simp [RowKit.intOf];omega
   ·obtain ⟨b,o,hA,hbl,hKb,hcell⟩:=HPt.out (by omega)
    obtain ⟨r,hr⟩:∃ r,r=k % m:=⟨_,rfl⟩
    have hrm:r<m:=by rw[hr];exact Nat.mod_lt _ (by omega)
    obtain ⟨A1,c1,hc1,ha1⟩:=hcell r hrm
    have QR:Hid (Int.tmod (k:Int) (m:Int)=(r:Int)):=by show _=_;rw[hr,Int.ofNat_tmod]
    have Hm0:Hid (¬ m=0):=hm0
    have Hpm:Hid (0<m):=by show _<_;omega
    have Hrm:=ae hrm
    obtain ⟨x,hx⟩:∃ x,x=l.getD r []:=⟨_,rfl⟩
    rw[← hx] at hc1 ha1
    have HXe:Hid (x=l.getD (k % m) []):=by show _=_;rw[hx,hr]
    have HC1:Hid (w2.cell? ⟨b,o+r,none⟩=some (.slice A1 x.length c1)):=(World.cell?_of_block (w:=w) (HB.out.block b hbl)).trans hc1
    have Pe:Hid (w3.cell? ⟨b,o+r,none⟩=some (.slice A1 x.length c1)):=(World.cell?_of_block (w:=w2) (HB3.out.block b (Nat.lt_of_lt_of_le hbl HB.out.size))).trans HC1.out
    have HXc:Hid (∀ j,j<x.length→∃ b1 o1,A1=some ⟨b1,o1,none⟩∧b1<w.heap.size∧w.cell? ⟨b1,o1+j,none⟩=some (.int .u8 (x.getD j 0).toNat)):=fun j hj=>by
     rcases ha1.arg with ⟨A',e,hn⟩ | ⟨b1,o1,c',e,hb1,hc',hs⟩
     ·rw[hn] at hj;simp at hj
     ·injection e with e1 _ _
      exact⟨b1,o1,e1,hb1,at8 hs j hj⟩
    obtain ⟨xn,hxn⟩:∃ n,n=x.length:=⟨_,rfl⟩
    have HXn:=ae hxn
    rw[← hxn] at HC1 Pe HXc
    have HL3:Hid (Row w3 g 5 ((Bk.lay x 0).map V8)):=by rw[Bk.Ey];exact HZ3.out
    subst hA
    have Qa:=QR.out
    have KE:=Hm0.out
    have hpm:=Hpm.out
    have Qv:=Pe.out
    have P9:=Hrm.out
    clear hcell hc1 ha1 hx hr hxn HZ3 hKb HPt hm0 hrm
    go_wp2_with fail
    clear NC Qa Qv P9 KE hpm
    go_loopw [9] (fun jj wr=>∃ j:Nat,j≤64∧jj=.int .i64 j∧Hid (Row wr g 5 ((Bk.lay x j).map V8))∧Hid (Below w2.heap.size w2 wr)) (fun jj _=>64 - (RowKit.intOf jj).toNat)
    case atStart=>exact⟨0,by omega,rfl,HL3,HB3⟩
    case round =>
     obtain ⟨j,hj,rfl,HLj,HBj⟩:=hrel
     clear HL3 HB3
     by_cases h64:j<64
     ·by_cases hjx:j<xn
      ·obtain ⟨b1,o1,rfl,hb1,hcx⟩:=HXc.out j hjx
       have hsz:=HB.out.size
       have RF:wr.cell? ⟨b1,o1+j,none⟩=some (.int .u8 (x.getD j 0).toNat):=(World.cell?_of_block (w:=w2) (HBj.out.block b1 (Nat.lt_of_lt_of_le hb1 hsz))).trans ((World.cell?_of_block (w:=w) (HB.out.block b1 hb1)).trans hcx)
       have hcg:wr.cell? ⟨g,j,none⟩=some (.int .u8 ((Bk.lay x j).getD j 0).toNat):=mz HLj.out j (by rw[ym];exact h64)
       have hfg:=HLj.out.free j
       have HE:Hid (Row (wr.setCell ⟨g,j,none⟩ (.int .u8 (x.getD j 0).toNat)) g 5 ((Bk.lay x (j+1)).map V8)∧Below w2.heap.size w2 (wr.setCell ⟨g,j,none⟩ (.int .u8 (x.getD j 0).toNat))):=by
        refine⟨?_,HBj.out.setCell (by rw[Hge.out];exact Nat.le_refl _) _⟩
        have:=HLj.out.set j (V8 (x.getD j 0))
        rw[xO,← Bk.Ez x j h64] at this
        exact this
       generalize (x.getD j 0).toNat=y at *
       generalize ((Bk.lay x j).getD j 0).toNat=y2 at *
       clear hcx HLj HBj
       go_wp2
       go_roundw
       case rel=>exact⟨j+1,by omega,by go_num,HE.out.1,HE.out.2⟩
       case measure=>simp [RowKit.intOf];omega
      ·have HLE:Hid (Row wr g 5 ((Bk.lay x 64).map V8)):=by rw[← pY x j (.inl (by rw[← HXn.out];omega))];exact HLj.out
       clear HLj HXc
       have HBE:=HBj
       clear HBj
       have hpm:=Hpm.out
       by_cases hkm:k<m
       ·have iU:Hid (Row wr g 5 ((Bk.dt l k).map V8)):=by
         have:Bk.dt l k=Bk.lay x 64:=by unfold Bk.dt;rw[← HM.out,if_neg Hm0.out,if_neg (by omega),← HXe.out]
         rw[this];exact HLE.out
        clear HLE
        have hRw:=iU.out
        have hBE:=HBE.out
        have hsE:=hBE.size
        have hgl:g<wr.heap.size:=hRw.lt
        obtain ⟨w4,hw4⟩:∃ W,W=(wr.alloc (.cells #[.slice (some ⟨g,0,none⟩) 64 64] 22)):=⟨_,rfl⟩
        have hal:Below wr.heap.size wr w4:=by rw[hw4];exact below_drewN ((Below.refl _ _).alloc (Nat.le_refl _) _) 0
        have HSe:Hid (ah w4 wr.heap.size 0 [.slice (some ⟨g,0,none⟩) (Bk.dt l k).length 64]):=by rw[hw4,Bk.cG];exact(Row.new wr 22 [.slice (some ⟨g,0,none⟩) 64 64]).sees
        have HR4:=ae ((HR.out.below hBE).below hal)
        have mF:=HB.out.size
        have hge:=Hge.out
        have HG4:Hid (g<w4.heap.size∧w.heap.size≤g∧(Bk.dt l k).length≤64∧ah w4 g 0 ((Bk.dt l k).map V8)):=⟨Nat.lt_of_lt_of_le hgl hal.size,by omega,by rw[Bk.cG];omega,(hRw.below hal hgl).sees⟩
        have Hne:Hid (u5.ownBlock≠some g):=by
         show _≠_
         intro e
         obtain ⟨vs,ho,_⟩:=HR.out
         have:=(ho.lt e).2
         omega
        have HB4:Hid (Below w.heap.size w w4):=HB.out.trans ((hBE.trans (hal.mono hsE)).mono mF)
        have qN:Hid (w.heap.size≤w4.heap.size):=HB4.out.size
        have HLk:Hid ((Bk.fk k l).length≤1000):=by show _≤_;rw[Bk.dr];omega
        have HS:Hid (Bk.fk k l++[Bk.dt l k]=Bk.fk (k+1) l):=(Bk.jr k l).symm
        clear hRw hBE hsE hgl hal mF hge HR iU HBE
        go_wp2_with (at_builtin;rw[← hw4];clear hw4;refine aX rfl (.tmp 63) (.tmp 65) rfl w.heap.size w.heap.size _ (Bk.fk k l) rfl HR4.out wr.heap.size 1 g 0 64 (Bk.dt l k) rfl HSe.out HG4.out.1 HG4.out.2.1 Hne.out HG4.out.2.2.1 HG4.out.2.2.2 HLk.out qN.out ?_;intro v5 w5 HR5 hb5)
        go_roundw
        case rel=>exact⟨k+1,by omega,by go_num,by have:=HR5.out;rw[HS.out] at this;exact this,HB4.out.trans hb5⟩
        case measure=>simp [RowKit.intOf];omega
       ·obtain ⟨q,hq⟩:∃ q,q=k / m:=⟨_,rfl⟩
        have EK:q≤100:=by rw[hq];exact Nat.le_trans (Nat.div_le_self _ _) (by omega)
        have FY:Hid (Int.tdiv (k:Int) (m:Int)=(q:Int)):=by show _=_;rw[hq,Int.ofNat_tdiv]
        obtain ⟨y3,hy3⟩:∃ y,y=((Bk.lay x 64).getD 63 0+UInt8.ofNat q).toNat:=⟨_,rfl⟩
        obtain ⟨wz,hwz⟩:∃ W,W=wr.setCell ⟨g,63,none⟩ (.int .u8 (y3:Int)):=⟨_,rfl⟩
        have iU:Hid (Row wz g 5 ((Bk.dt l k).map V8)):=by
         have:Bk.dt l k=(Bk.lay x 64).set 63 ((Bk.lay x 64).getD 63 0+UInt8.ofNat q):=by unfold Bk.dt;rw[← HM.out,if_neg Hm0.out,if_pos (by omega),← HXe.out,hq]
         rw[this,hwz,hy3]
         have:=HLE.out.set 63 (V8 ((Bk.lay x 64).getD 63 0+UInt8.ofNat q))
         rw[xO] at this
         exact this
        replace HBE:Hid (Below w2.heap.size w2 wz):=by
         rw[hwz]
         exact HBE.out.setCell (by rw[Hge.out];exact Nat.le_refl _) _
        have Qt:wr.cell? ⟨g,63,none⟩=some (.int .u8 ((Bk.lay x 64).getD 63 0).toNat):=mz HLE.out 63 (by rw[ym];omega)
        have Qp:=HLE.out.free 63
        have LO:Hid (((((Bk.lay x 64).getD 63 0).toNat:Int)+wrap64 (q:Int)) % 256=(y3:Int)):=by
         show (_:Int) % 256=_
         rw[Mr.w64 _ (by omega),hy3,UInt8.toNat_add,UInt8.toNat_ofNat']
         omega
        clear hy3
        generalize ((Bk.lay x 64).getD 63 0).toNat=y2 at *
        have Qb:=FY.out
        have KE:=Hm0.out
        clear hq EK HLE FY
        go_wp2
        refine wp_region_still_tail 11 (by kernel_rfl) (by kernel_rfl) ?_
        simp only [List.take_succ_cons,List.take_zero,List.drop_succ_cons,List.drop_zero]
        repeat still_step
        refine wpStill_nil ?_
        change wpList _ _ _ _ _ wr.drew
        have hRw:=iU.out
        have hBE:=HBE.out
        have hsE:=hBE.size
        have hgl:g<wz.heap.size:=hRw.lt
        obtain ⟨w4,hw4⟩:∃ W,W=(wz.alloc (.cells #[.slice (some ⟨g,0,none⟩) 64 64] 22)).drew:=⟨_,rfl⟩
        have hal:Below wz.heap.size wz w4:=by rw[hw4];exact below_drewN ((Below.refl _ _).alloc (Nat.le_refl _) _) 1
        have HSe:Hid (ah w4 wr.heap.size 0 [.slice (some ⟨g,0,none⟩) (Bk.dt l k).length 64]):=by rw[hw4,Bk.cG,show wr.heap.size=wz.heap.size by rw[hwz];simp [World.setCell]];exact(Row.new wz 22 [.slice (some ⟨g,0,none⟩) 64 64]).sees
        have HR4:=ae ((HR.out.below hBE).below hal)
        have mF:=HB.out.size
        have hge:=Hge.out
        have HG4:Hid (g<w4.heap.size∧w.heap.size≤g∧(Bk.dt l k).length≤64∧ah w4 g 0 ((Bk.dt l k).map V8)):=⟨Nat.lt_of_lt_of_le hgl hal.size,by omega,by rw[Bk.cG];omega,(hRw.below hal hgl).sees⟩
        have Hne:Hid (u5.ownBlock≠some g):=by
         show _≠_
         intro e
         obtain ⟨vs,ho,_⟩:=HR.out
         have:=(ho.lt e).2
         omega
        have HB4:Hid (Below w.heap.size w w4):=HB.out.trans ((hBE.trans (hal.mono hsE)).mono mF)
        have qN:Hid (w.heap.size≤w4.heap.size):=HB4.out.size
        have HLk:Hid ((Bk.fk k l).length≤1000):=by show _≤_;rw[Bk.dr];omega
        have HS:Hid (Bk.fk k l++[Bk.dt l k]=Bk.fk (k+1) l):=(Bk.jr k l).symm
        clear hRw hBE hsE hgl hal mF hge HR iU HBE
        go_wp2_with (at_builtin;rw[LO.out,← hwz];clear hwz;rw[← hw4];clear hw4;refine aX rfl (.tmp 63) (.tmp 65) rfl w.heap.size w.heap.size _ (Bk.fk k l) rfl HR4.out wr.heap.size 1 g 0 64 (Bk.dt l k) rfl HSe.out HG4.out.1 HG4.out.2.1 Hne.out HG4.out.2.2.1 HG4.out.2.2.2 HLk.out qN.out ?_;intro v5 w5 HR5 hb5)
        go_roundw
        case rel=>exact⟨k+1,by omega,by go_num,by have:=HR5.out;rw[HS.out] at this;exact this,HB4.out.trans hb5⟩
        case measure=>simp [RowKit.intOf];omega
     ·have HLE:Hid (Row wr g 5 ((Bk.lay x 64).map V8)):=by rw[← pY x j (.inr (by omega))];exact HLj.out
      clear HLj HXc
      have HBE:=HBj
      clear HBj
      have hpm:=Hpm.out
      by_cases hkm:k<m
      ·have iU:Hid (Row wr g 5 ((Bk.dt l k).map V8)):=by
        have:Bk.dt l k=Bk.lay x 64:=by unfold Bk.dt;rw[← HM.out,if_neg Hm0.out,if_neg (by omega),← HXe.out]
        rw[this];exact HLE.out
       clear HLE
       have hRw:=iU.out
       have hBE:=HBE.out
       have hsE:=hBE.size
       have hgl:g<wr.heap.size:=hRw.lt
       obtain ⟨w4,hw4⟩:∃ W,W=(wr.alloc (.cells #[.slice (some ⟨g,0,none⟩) 64 64] 22)):=⟨_,rfl⟩
       have hal:Below wr.heap.size wr w4:=by rw[hw4];exact below_drewN ((Below.refl _ _).alloc (Nat.le_refl _) _) 0
       have HSe:Hid (ah w4 wr.heap.size 0 [.slice (some ⟨g,0,none⟩) (Bk.dt l k).length 64]):=by rw[hw4,Bk.cG];exact(Row.new wr 22 [.slice (some ⟨g,0,none⟩) 64 64]).sees
       have HR4:=ae ((HR.out.below hBE).below hal)
       have mF:=HB.out.size
       have hge:=Hge.out
       have HG4:Hid (g<w4.heap.size∧w.heap.size≤g∧(Bk.dt l k).length≤64∧ah w4 g 0 ((Bk.dt l k).map V8)):=⟨Nat.lt_of_lt_of_le hgl hal.size,by omega,by rw[Bk.cG];omega,(hRw.below hal hgl).sees⟩
       have Hne:Hid (u5.ownBlock≠some g):=by
        show _≠_
        intro e
        obtain ⟨vs,ho,_⟩:=HR.out
        have:=(ho.lt e).2
        omega
       have HB4:Hid (Below w.heap.size w w4):=HB.out.trans ((hBE.trans (hal.mono hsE)).mono mF)
       have qN:Hid (w.heap.size≤w4.heap.size):=HB4.out.size
       have HLk:Hid ((Bk.fk k l).length≤1000):=by show _≤_;rw[Bk.dr];omega
       have HS:Hid (Bk.fk k l++[Bk.dt l k]=Bk.fk (k+1) l):=(Bk.jr k l).symm
       clear hRw hBE hsE hgl hal mF hge HR iU HBE
       go_wp2_with (at_builtin;rw[← hw4];clear hw4;refine aX rfl (.tmp 63) (.tmp 65) rfl w.heap.size w.heap.size _ (Bk.fk k l) rfl HR4.out wr.heap.size 1 g 0 64 (Bk.dt l k) rfl HSe.out HG4.out.1 HG4.out.2.1 Hne.out HG4.out.2.2.1 HG4.out.2.2.2 HLk.out qN.out ?_;intro v5 w5 HR5 hb5)
       go_roundw
       case rel=>exact⟨k+1,by omega,by go_num,by have:=HR5.out;rw[HS.out] at this;exact this,HB4.out.trans hb5⟩
       case measure=>simp [RowKit.intOf];omega
      ·obtain ⟨q,hq⟩:∃ q,q=k / m:=⟨_,rfl⟩
       have EK:q≤100:=by rw[hq];exact Nat.le_trans (Nat.div_le_self _ _) (by omega)
       have FY:Hid (Int.tdiv (k:Int) (m:Int)=(q:Int)):=by show _=_;rw[hq,Int.ofNat_tdiv]
       obtain ⟨y3,hy3⟩:∃ y,y=((Bk.lay x 64).getD 63 0+UInt8.ofNat q).toNat:=⟨_,rfl⟩
       obtain ⟨wz,hwz⟩:∃ W,W=wr.setCell ⟨g,63,none⟩ (.int .u8 (y3:Int)):=⟨_,rfl⟩
       have iU:Hid (Row wz g 5 ((Bk.dt l k).map V8)):=by
        have:Bk.dt l k=(Bk.lay x 64).set 63 ((Bk.lay x 64).getD 63 0+UInt8.ofNat q):=by unfold Bk.dt;rw[← HM.out,if_neg Hm0.out,if_pos (by omega),← HXe.out,hq]
        rw[this,hwz,hy3]
        have:=HLE.out.set 63 (V8 ((Bk.lay x 64).getD 63 0+UInt8.ofNat q))
        rw[xO] at this
        exact this
       replace HBE:Hid (Below w2.heap.size w2 wz):=by
        rw[hwz]
        exact HBE.out.setCell (by rw[Hge.out];exact Nat.le_refl _) _
       have Qt:wr.cell? ⟨g,63,none⟩=some (.int .u8 ((Bk.lay x 64).getD 63 0).toNat):=mz HLE.out 63 (by rw[ym];omega)
       have Qp:=HLE.out.free 63
       have LO:Hid (((((Bk.lay x 64).getD 63 0).toNat:Int)+wrap64 (q:Int)) % 256=(y3:Int)):=by
        show (_:Int) % 256=_
        rw[Mr.w64 _ (by omega),hy3,UInt8.toNat_add,UInt8.toNat_ofNat']
        omega
       clear hy3
       generalize ((Bk.lay x 64).getD 63 0).toNat=y2 at *
       have Qb:=FY.out
       have KE:=Hm0.out
       clear hq EK HLE FY
       go_wp2
       refine wp_region_still_tail 11 (by kernel_rfl) (by kernel_rfl) ?_
       simp only [List.take_succ_cons,List.take_zero,List.drop_succ_cons,List.drop_zero]
       repeat still_step
       refine wpStill_nil ?_
       change wpList _ _ _ _ _ wr.drew
       have hRw:=iU.out
       have hBE:=HBE.out
       have hsE:=hBE.size
       have hgl:g<wz.heap.size:=hRw.lt
       obtain ⟨w4,hw4⟩:∃ W,W=(wz.alloc (.cells #[.slice (some ⟨g,0,none⟩) 64 64] 22)).drew:=⟨_,rfl⟩
       have hal:Below wz.heap.size wz w4:=by rw[hw4];exact below_drewN ((Below.refl _ _).alloc (Nat.le_refl _) _) 1
       have HSe:Hid (ah w4 wr.heap.size 0 [.slice (some ⟨g,0,none⟩) (Bk.dt l k).length 64]):=by rw[hw4,Bk.cG,show wr.heap.size=wz.heap.size by rw[hwz];simp [World.setCell]];exact(Row.new wz 22 [.slice (some ⟨g,0,none⟩) 64 64]).sees
       have HR4:=ae ((HR.out.below hBE).below hal)
       have mF:=HB.out.size
       have hge:=Hge.out
       have HG4:Hid (g<w4.heap.size∧w.heap.size≤g∧(Bk.dt l k).length≤64∧ah w4 g 0 ((Bk.dt l k).map V8)):=⟨Nat.lt_of_lt_of_le hgl hal.size,by omega,by rw[Bk.cG];omega,(hRw.below hal hgl).sees⟩
       have Hne:Hid (u5.ownBlock≠some g):=by
        show _≠_
        intro e
        obtain ⟨vs,ho,_⟩:=HR.out
        have:=(ho.lt e).2
        omega
       have HB4:Hid (Below w.heap.size w w4):=HB.out.trans ((hBE.trans (hal.mono hsE)).mono mF)
       have qN:Hid (w.heap.size≤w4.heap.size):=HB4.out.size
       have HLk:Hid ((Bk.fk k l).length≤1000):=by show _≤_;rw[Bk.dr];omega
       have HS:Hid (Bk.fk k l++[Bk.dt l k]=Bk.fk (k+1) l):=(Bk.jr k l).symm
       clear hRw hBE hsE hgl hal mF hge HR iU HBE
       go_wp2_with (at_builtin;rw[LO.out,← hwz];clear hwz;rw[← hw4];clear hw4;refine aX rfl (.tmp 63) (.tmp 65) rfl w.heap.size w.heap.size _ (Bk.fk k l) rfl HR4.out wr.heap.size 1 g 0 64 (Bk.dt l k) rfl HSe.out HG4.out.1 HG4.out.2.1 Hne.out HG4.out.2.2.1 HG4.out.2.2.2 HLk.out qN.out ?_;intro v5 w5 HR5 hb5)
       go_roundw
       case rel=>exact⟨k+1,by omega,by go_num,by have:=HR5.out;rw[HS.out] at this;exact this,HB4.out.trans hb5⟩
       case measure=>simp [RowKit.intOf];omega
  ·obtain rfl:k=n:=by omega
   clear HPt
   go_wp2
   go_ret
   exact⟨⟨_,rfl,HR⟩,HB.out⟩
namespace Bk
set_option maxRecDepth 512
structure St (ek mk:List UInt8) (n:Nat) (s:Bn) (D:List Blk) (want:Nat→List UInt8):Prop where
 hn:s.n=n
 PX:oP ek mk D n s.af s.ep s.tags want
 root:s.root=b7 mk s.tags
 dl:D.length=2*n
 b1:s.af≤1
section
variable {ek mk:List UInt8} {n e j:Nat} {s:Bn} {D:List Blk} {want r:Nat→List UInt8}
end
end Bk
set_option maxRecDepth 512
theorem Duo.cV {w0 W:World} {X:Nat→Prop} {P d:Nat} {ek mk:List UInt8} {s:Bk.Bn} {D:List Blk} (h:Duo w0 W X P d ek mk s D) (A:Option Addr) (nk cap:Nat) (bs:List Bool) (hnk:bs.length=nk) (hk:bq w0 (.slice A nk cap) (bs.map Value.bool)) :
  Calls Tryz.prog 30 #[PT d,.slice A nk cap] W fun e w'=>e=.returned (.tuple #[])∧Duo w0 w' X P d ek mk s (cV (fun n=>bs.getD n false) D)∧Chg (FrX w0 X) W w':=by
 obtain ⟨F,G,hL,hD,hFG,hF,hG,hX,hb⟩:=h
 have hkW:bq W (.slice A nk cap) (bs.map Value.bool):=hk.below hb
 refine(zw hD A nk cap bs hnk hkW fun b o e hp hg=>?_).mono ?_
 ·rcases hk with ⟨A',e',e2⟩ | ⟨b',o',c',e',hl,_⟩
  ·have:bs.length=0:=by have:=congrArg List.length e2;simpa using this
   omega
  ·injection e' with e1 _ _
   rw[e] at e1
   injection e1 with e1
   injection e1 with e1 _
   have:=(hG b hg).1
   omega
 ·rintro e w' ⟨rfl,G',hD',hG',hC⟩
  exact⟨rfl,Duo.after hF hG hX hb ⟨F,G',hL.stay hC fun k _ hf hg=>hFG k hf hg,hD',fun k hk hg=>(hG' k hg).elim (hFG k hk) fun h=>by have:=k6.lt hL k hk;omega,fun _ hk=>.inl hk,hG',hC.mono fun _ _ _ h=>.inr h⟩⟩
theorem D7 {w0 w w':World} {X:Nat→Prop} {v:Value} {l:List (List UInt8)} (h:aI w X v l) (hc:Chg (FrX w0 X) w w'):aI w' X v l:=h.chg hc fun _ _ hk hs=>hs.2 hk
section
variable {w W W':World} {X:Nat→Prop} {P d x0 n:Nat} {ek mk:List UInt8} {ks:List Value} {s s':Bk.Bn} {D D':List Blk} {v:Value} {wl:List (List UInt8)}
end
def aJ (w0 W:World) (Y:Nat→Prop) (P d Q M kp wb:Nat) (ek mk:List UInt8) (sp:Bk.Bn) (Dp:List Blk) (sr:Bk.Bn) (Dr:List Blk) (ws:List (List UInt8)):Prop :=
 ∃ F G K,Duo w0 W (fun k=>Y k∨F k∨G k∨K k) P d ek mk sp Dp∧RB W F G K Q M kp wb ek mk sr Dr ws∧∀ k,F k∨G k∨K k→w0.heap.size≤k∧¬ Y k
section
variable {w0 W W':World} {X Y:Nat→Prop} {P d Q M kp wb:Nat} {ek mk:List UInt8} {s sp sp' sr sr':Bk.Bn} {D Dp Dp' Dr Dr':List Blk} {ws ws':List (List UInt8)}
theorem Duo.AA {S:Nat→Nat→Prop} (h:Duo w0 W X P d ek mk s D) (hc:Chg S W W') (hS:∀ k o,k<W.heap.size→S k o→X k∧w0.heap.size≤k) (Z:Nat→Prop) (hZ:∀ k,Z k→X k∨(W.heap.size≤k∧k<W'.heap.size)):Duo w0 W' Z P d ek mk s D:=by
 obtain ⟨F,G,hL,hD,hFG,hF,hG,hX,hb⟩:=h
 have hc':Chg (fun k _=>X k∧w0.heap.size≤k) W W':=hc.mono fun k o hk hs=>hS k o hk hs
 exact⟨F,G,hL.stay hc' fun k _ hf hs=>(hF k hf).2 hs.1,hD.stay hc' fun k _ hg hs=>(hG k hg).2 hs.1,hFG,
  fun k hk=>⟨(hF k hk).1,fun hz=>(hZ k hz).elim (hF k hk).2 fun h=>by have:=k6.lt hL k hk;omega⟩,
  fun k hk=>⟨(hG k hk).1,fun hz=>(hZ k hz).elim (hG k hk).2 fun h=>by have:=hD.lt k hk;omega⟩,
  fun k hk=>(hZ k hk).elim (fun h=>Nat.lt_of_lt_of_le (hX k h) hc.size) fun h=>h.2,nC hb hc' fun k _ _ hs=>hs.2⟩
theorem aJ.below (h:aJ w0 W Y P d Q M kp wb ek mk sp Dp sr Dr ws):Below w0.heap.size w0 W:=by
 obtain ⟨_,_,_,h,_⟩:=h
 exact h.below
theorem aJ.prog {Pg:Program} {f:FuncId} {args:Array Value} {Qe:Ending→Prop} {P':Nat} (h:aJ w0 W Y P d Q M kp wb ek mk sp Dp sr Dr ws)
  (hc:∀ X,Duo w0 W X P d ek mk sp Dp→Calls Pg f args W fun e w'=>Qe e∧Duo w0 w' X P' d ek mk sp' Dp'∧Chg (FrX w0 X) W w') :
  Calls Pg f args W fun e w'=>Qe e∧aJ w0 w' Y P' d Q M kp wb ek mk sp' Dp' sr Dr ws∧Chg (FrX w0 Y) W w':=by
 obtain ⟨F,G,K,hd,hr,hn⟩:=h
 refine(hc _ hd).mono ?_
 rintro e w' ⟨hq,hd',hC⟩
 exact⟨hq,⟨F,G,K,hd',hr.chg hC (fun k _ hk hs=>hs.2 (.inr (.inl hk))) (fun k _ hk hs=>hs.2 (.inr (.inr (.inl hk)))) (fun k _ hk hs=>hs.2 (.inr (.inr (.inr hk)))),hn⟩,hC.mono fun k _ _ hs=>⟨hs.1,fun hy=>hs.2 (.inl hy)⟩⟩
theorem aJ.ref {Pg:Program} {f:FuncId} {args:Array Value} {Qe:Ending→Prop} {Q':Nat} (h:aJ w0 W Y P d Q M kp wb ek mk sp Dp sr Dr ws)
  (hc:∀ F G K,RB W F G K Q M kp wb ek mk sr Dr ws→(∀ k,F k∨G k∨K k→w0.heap.size≤k∧¬ Y k)→Calls Pg f args W fun e w'=>Qe e∧gX W F G K w' Q' M kp wb ek mk sr' Dr' ws') :
  Calls Pg f args W fun e w'=>Qe e∧aJ w0 w' Y P d Q' M kp wb ek mk sp Dp sr' Dr' ws'∧Chg (FrX w0 Y) W w':=by
 obtain ⟨F,G,K,hd,hr,hn⟩:=h
 refine(hc F G K hr hn).mono ?_
 rintro e w' ⟨hq,F',hr',hF',hC⟩
 have hsz:=hd.below.size
 refine⟨hq,⟨F',G,K,hd.AA hC (fun k _ _ hs=>⟨.inr (hs.elim .inl fun h=>.inr (.inl h)),(hn k (hs.elim .inl fun h=>.inr (.inl h))).1⟩) _ fun k hk=>?_,hr',fun k hk=>?_⟩,hC.mono fun k _ _ hs=>hn k (hs.elim .inl fun h=>.inr (.inl h))⟩
 ·rcases hk with h | h | h | h
  ·exact .inl (.inl h)
  ·rcases hF' k h with h' | h'
   ·exact .inl (.inr (.inl h'))
   ·exact .inr ⟨h',hr'.lt.1 k h⟩
  ·exact .inl (.inr (.inr (.inl h)))
  ·exact .inl (.inr (.inr (.inr h)))
 ·rcases hk with h | h
  ·rcases hF' k h with h' | h'
   ·exact hn k (.inl h')
   ·exact⟨by omega,fun hy=>by have:=hd.lt k (.inl hy);omega⟩
  ·exact hn k (.inr h)
theorem aJ.chg {S:Nat→Nat→Prop} (h:aJ w0 W Y P d Q M kp wb ek mk sp Dp sr Dr ws) (hc:Chg S W W') (hS:∀ k o,k<W.heap.size→S k o→Y k∧w0.heap.size≤k):aJ w0 W' Y P d Q M kp wb ek mk sp Dp sr Dr ws:=by
 obtain ⟨F,G,K,hd,hr,hn⟩:=h
 have hc':Chg (fun k _=>Y k∧w0.heap.size≤k) W W':=hc.mono fun k o hk hs=>hS k o hk hs
 exact⟨F,G,K,hd.chg hc' fun k _ _ hs=>⟨.inl hs.1,hs.2⟩,hr.chg hc' (fun k _ hk hs=>(hn k (.inl hk)).2 hs.1) (fun k _ hk hs=>(hn k (.inr (.inl hk))).2 hs.1) (fun k _ hk hs=>(hn k (.inr (.inr hk))).2 hs.1),hn⟩
theorem aJ.stay (h:aJ w0 W Y P d Q M kp wb ek mk sp Dp sr Dr ws) (hb:Below W.heap.size W W'):aJ w0 W' Y P d Q M kp wb ek mk sp Dp sr Dr ws:=h.chg (Chg.below hb fun _ _=>False) fun _ _ _ x=>x.elim
theorem aJ.nE (h:aJ w0 W Y P d Q M kp wb ek mk sp Dp sr Dr ws) (hb:Below W.heap.size W W') (Z:Nat→Prop) (hZ:∀ k,Z k→Y k∨(W.heap.size≤k∧k<W'.heap.size)):aJ w0 W' Z P d Q M kp wb ek mk sp Dp sr Dr ws:=by
 obtain ⟨F,G,K,hd,hr,hn⟩:=h
 refine⟨F,G,K,hd.nE hb _ fun k hk=>?_,hr.stay hb,fun k hk=>⟨(hn k hk).1,fun hz=>(hZ k hz).elim (hn k hk).2 fun hx=>?_⟩⟩
 ·rcases hk with h | h
  ·rcases hZ k h with h' | h'
   ·exact .inl (.inl h')
   ·exact .inr h'
  ·exact .inl (.inr h)
 ·have:=hd.lt k (.inr hk)
  omega
theorem Duo.dN {Pg:Program} {f:FuncId} {args:Array Value} {Qe:Ending→Prop} {D':List Blk} (h:Duo w0 W X P d ek mk s D)
  (hc:∀ G,aG W G d D→(∀ k,G k→w0.heap.size≤k∧¬ X k)→Calls Pg f args W fun e w'=>Qe e∧After W G w' d D') :
  Calls Pg f args W fun e w'=>Qe e∧Duo w0 w' X P d ek mk s D'∧Chg (FrX w0 X) W w':=by
 obtain ⟨F,G,hL,hD,hFG,hF,hG,hX,hb⟩:=h
 refine(hc G hD hG).mono ?_
 rintro e w' ⟨hq,G',hD',hG',hC⟩
 exact⟨hq,Duo.after hF hG hX hb ⟨F,G',hL.stay hC fun k _ hf hg=>hFG k hf hg,hD',fun k hk hg=>(hG' k hg).elim (hFG k hk) fun h=>by have:=k6.lt hL k hk;omega,fun _ hk=>.inl hk,hG',hC.mono fun _ _ _ h=>.inr h⟩⟩
theorem aJ.dN {Pg:Program} {f:FuncId} {args:Array Value} {Qe:Ending→Prop} (h:aJ w0 W Y P d Q M kp wb ek mk sp Dp sr Dr ws)
  (hc:∀ G,aG W G d Dp→(∀ k,G k→w0.heap.size≤k)→Calls Pg f args W fun e w'=>Qe e∧After W G w' d Dp') :
  Calls Pg f args W fun e w'=>Qe e∧aJ w0 w' Y P d Q M kp wb ek mk sp Dp' sr Dr ws∧Chg (FrX w0 Y) W w' :=
 h.prog fun _ hd=>hd.dN fun G hG hk=>hc G hG fun k h=>(hk k h).1
theorem aJ.zP {Pg:Program} {f:FuncId} {args:Array Value} {Qe:Ending→Prop} (h:aJ w0 W Y P d Q M kp wb ek mk sp Dp sr Dr ws)
  (hc:∀ G,bL W G M Dr→(∀ k,G k→w0.heap.size≤k)→Calls Pg f args W fun e w'=>Qe e∧aO W G w' M Dr') :
  Calls Pg f args W fun e w'=>Qe e∧aJ w0 w' Y P d Q M kp wb ek mk sp Dp sr Dr' ws∧Chg (FrX w0 Y) W w' :=
 h.ref fun F G _ hr hn=>(hc G hr.dN fun k hk=>(hn k (.inr (.inl hk))).1).mono fun _ _ ⟨hq,hR⟩=>⟨hq,F,hr.tO hR,fun _ hk=>.inl hk,hR.2.mono fun _ _ _ hk=>.inr hk⟩
end
end Go.Proofs.YthbmknpbcgnabaaGreatDoor
