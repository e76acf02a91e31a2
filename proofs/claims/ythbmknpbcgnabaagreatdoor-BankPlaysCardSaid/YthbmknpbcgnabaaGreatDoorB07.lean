/- Of the walk. -/
import Derived.Deep.MidRow
import Derived.Lib.LazyBuf
import Derived.Test.YthbmknpbcgnabaaGreatDoorB06
set_option maxHeartbeats 40000000
section
namespace Go.Proofs.YthbmknpbcgnabaaGreatDoor.Hm
open Go.RowKit Sha
def ZK:List Value:=List.replicate 64 (.int .u8 0)
theorem sH:ZK.length=64:=List.length_replicate
theorem xz (w:World):(zeroValue 184).run Tryz.prog w=.ok (.agg ZK.toArray) w:=by kernel_rfl
theorem Fe (l:List UInt8):splice ZK 0 (l.map V8)=(aS 64 l).map V8:=by
 rw[ZK,splice,aS,List.take_zero,List.nil_append,Nat.zero_add,List.length_map,List.drop_replicate,List.map_append,List.map_replicate]
 rfl
theorem qB {w w1:World} {key l:List UInt8} {xs:List Value} (HF:Hid (bf key=aS 64 l)) (HX:Hid (xs=l.map V8)) (g:Nat)
  (w0:World) (hr0:Row w0 w.heap.size 184 ZK) (h0:Below w.heap.size w w0) (Hg1:Hid (w1.heap[g]? = some (.cells (splice ZK 0 xs).toArray 184 (0,0)))) (hb1:Below (w.heap.size+1) w0 w1) :
  ∃ rs:List Value,Hid (Vec 64 (bf key) rs)∧Hid (Row w1 g 184 rs)∧Hid (Row w1 w.heap.size 184 ZK)∧Hid (Below w.heap.size w w1)∧Hid (rs.toArray.size=64)∧Hid (rs.toArray.all (·.oneCell')=true):=by
 have hv:=Vec.mk 64 (bf key) (il key)
 refine⟨_,hv,?_,hr0.below hb1 (by omega),h0.trans (hb1.mono (by omega)),hv.size,hv.one⟩
 have:=Hg1.out
 rw[HX.out,Fe,← HF.out] at this
 exact this
set_option maxRecDepth 100000
theorem yA (A:Option Addr) (n cap:Nat) (key:List UInt8) (hl:key.length=n) (hn:n≤64) (w:World) (h:Arg w (.slice A n cap) key) :
  Calls Tryz.prog 102 #[.slice A n cap] w fun e w'=>∃ rs:List Value,Hid (Vec 64 (bf key) rs)∧e=.returned (.agg rs.toArray)∧Below w.heap.size w w':=by
 have HF:Hid (bf key=aS 64 key):=by show _=_;rw[bf,if_neg (by omega)]
 have HL:=ae hl
 have HB:Hid (Below w.heap.size w ((w.alloc (.cells ZK.toArray 184)).alloc (.cells ZK.toArray 184))):=((Below.refl _ _).alloc (Nat.le_refl _) _).alloc (by simp) _
 obtain ⟨xs,hxs⟩:∃ xs,xs=key.map V8:=⟨_,rfl⟩
 have HX:=ae hxs
 have K1:Hid (xs.length=Nat.min n 64):=by show _=_;rw[show Nat.min n 64=n from Nat.min_eq_left (by omega),hxs,List.length_map,hl]
 have K2:Hid (0<xs.length→(some (⟨w.heap.size+1,0,none⟩:Addr))=some ⟨w.heap.size+1,0,none⟩∧∃ ad,A=some ad∧∀ (j:Nat) v,xs[j]? = some v→((w.alloc (.cells ZK.toArray 184)).alloc (.cells ZK.toArray 184)).cell? (ad.add j)=some v):=by
  intro hp
  rw[hxs,List.length_map] at hp
  refine⟨rfl,?_⟩
  rw[hxs]
  exact(h.below HB.out).src hp
 have K3:Hid (0+xs.length≤ZK.length):=by show _≤_;rw[sH,hxs,List.length_map,hl];omega
 have K4:Hid (∀ v∈xs,v.oneCell'=true):=by rw[hxs];exact bI key
 have K5:Hid (Below (w.heap.size+1) (w.alloc (.cells ZK.toArray 184)) ((w.alloc (.cells ZK.toArray 184)).alloc (.cells ZK.toArray 184))):=(Below.refl _ _).alloc (by simp) _
 have K6:Hid (((w.alloc (.cells ZK.toArray 184)).alloc (.cells ZK.toArray 184)).heap[w.heap.size+1]? = some (.cells ZK.toArray 184 (0,0))):=Row.newAt 184 ZK (by simp)
 clear hxs h hl
 have hz:=xz
 go_enter Tryz.func102,Tryz.ntmps102
 go_wp2_with (first
  | (refine wpList_copy_splice rfl (.tmp 13) (.tmp 14) 22 22 rfl 5 Tryz.underlying22 qj _ A 64 64 n cap rfl rfl (w.heap.size+1) 0 ZK 184 K6.out xs K1.out K2.out K3.out K4.out (w.heap.size+1) _ K5.out (Nat.le_refl _) ?_;intro w1 Hg1 hb1;obtain ⟨rs,Hv,HR1,HN,HBW,Hsz,aN⟩:=qB HF HX (w.heap.size+1) _ (Row.new w 184 ZK) ((Below.refl _ _).alloc (Nat.le_refl _) _) Hg1 hb1;clear Hg1 hb1 K1 K2 K3 K4 K5 K6 HX HF HB hz)
  | (refine wpList_load_row rfl 184 (.tmp 3) rfl (w.heap.size+1) rfl 184 rs.toArray (0,0) _ HR1.out Tryz.underlying184 rfl (by rw[Hsz.out];kernel_rfl) ?_)
  | (refine wpList_store_row rfl 184 (.tmp 2) (.tmp 16) rfl w.heap.size rs.toArray rfl rfl 184 _ HN.out (by rw[Hsz.out];kernel_rfl) (by rw[Hsz.out];rfl) aN.out ?_))
 have bj:=HN.out.whole rs
 have hinfo:(Tryz.prog.info? 184).map (·.size)=some rs.toArray.size:=by rw[Hsz.out];kernel_rfl
 refine bodyPost_ret (v:=.agg rs.toArray) (results_cell_row rfl _ _ w.heap.size 184 rs.toArray (0,0) _ rfl bj Tryz.underlying184 rfl hinfo) rfl ?_
 exact⟨rs,Hv,rfl,ag HBW.out (Nat.le_refl _) _⟩
theorem BZ (A:Option Addr) (n cap:Nat) (key:List UInt8) (hl:key.length=n) (hn:64<n) (hn2:n≤1000000) (w:World) (hT:Tab w) (h:Arg w (.slice A n cap) key) :
  Calls Tryz.prog 102 #[.slice A n cap] w fun e w'=>∃ rs:List Value,Hid (Vec 64 (bf key) rs)∧e=.returned (.agg rs.toArray)∧Below w.heap.size w w':=by
 have HF:Hid (bf key=aS 64 (dg key)):=by show _=_;rw[bf,if_pos (by omega)]
 have HL:=ae hl
 have HB:Hid (Below w.heap.size w ((w.alloc (.cells ZK.toArray 184)).alloc (.cells ZK.toArray 184))):=((Below.refl _ _).alloc (Nat.le_refl _) _).alloc (by simp) _
 have HT:=ae (hT.below HB.out)
 have HA:=ae (h.below HB.out)
 clear h hl hT
 have hz:=xz
 have hz2:=sU
 go_enter Tryz.func102,Tryz.ntmps102
 go_wp2_with fail
 refine(AJ _ key (by rw[HL.out];omega) _ HT.out HA.out).mono ?_
 rintro e w1 ⟨rs,Hrs,rfl,hb1⟩
 have jf:w.heap.size+2≤w1.heap.size:=by have:=hb1.size;simp at this;omega
 have Hsz:Hid (rs.toArray.size=32):=Hrs.out.size
 have aN:Hid (rs.toArray.all (·.oneCell')=true):=Hrs.out.one
 go_wp2_with (refine wpList_store_row rfl 26 (.tmp 4) (.tmp 9) rfl w1.heap.size rs.toArray rfl rfl 26 _ (Row.new w1 _ Z32) (by rw[Hsz.out];kernel_rfl) (by rw[Hsz.out];rfl) aN.out ?_)
 try go_frame
 refine gA (fun w2=>Hid (Row w2 w.heap.size 184 ZK)∧Hid (Row w2 (w.heap.size+1) 184 ZK)∧Hid (Row w2 w1.heap.size 26 rs)∧Hid (Below w.heap.size w w2)) ?_ ?_
 ·have hb2:Below w1.heap.size w1 ((w1.alloc (.cells Z32.toArray 26)).setRow w1.heap.size rs.toArray):=ag ((Below.refl _ _).alloc (Nat.le_refl _) _) (Nat.le_refl _) _
  refine⟨?_,?_,(Row.new w1 26 Z32).whole rs,(HB.out.trans (hb1.mono (by simp;omega))).trans (hb2.mono (by omega))⟩
  ·exact((((Row.new w 184 ZK).alloc _).below hb1 (by simp;omega)).below hb2 (by omega))
  ·exact(((Row.newAt 184 ZK (by simp)).below hb1 (by simp)).below hb2 (by omega))
 rintro w2 ⟨HN2,HM2,HR2,HB2⟩
 have HX:Hid (rs=(dg key).map V8):=Hrs.out.1
 have K1:Hid (rs.length=Nat.min 32 64):=Hrs.out.len
 have K2:Hid (0<rs.length→(some (⟨w.heap.size+1,0,none⟩:Addr))=some ⟨w.heap.size+1,0,none⟩∧∃ ad,some (⟨w1.heap.size,0,none⟩:Addr)=some ad∧∀ (j:Nat) v,rs[j]? = some v→w2.drew.cell? (ad.add j)=some v):=by
  intro _
  refine⟨rfl,_,rfl,fun j v hv=>?_⟩
  rw[bD,Nat.zero_add]
  exact(HR2.out.drew.cell j).trans hv
 have K3:Hid (0+rs.length≤ZK.length):=by show _≤_;rw[sH,Hrs.out.len];omega
 have K4:Hid (∀ v∈rs,v.oneCell'=true):=by rw[HX.out];exact bI _
 clear Hrs Hsz aN hb1 HB HA HT hz hz2
 go_region_law (refine step_copy_splice rfl (.tmp 10) (.tmp 11) 22 22 rfl 5 Tryz.underlying22 qj _ _ 64 64 32 32 rfl rfl (w.heap.size+1) 0 ZK 184 HM2.out rs K1.out K2.out K3.out K4.out (w.heap.size+1) w2 ⟨rfl,rfl,rfl,Nat.le_refl _,fun _ _=>rfl⟩ (Nat.le_refl _) ?_;intro w3 Hg3 hb3)
 all_goals
  obtain ⟨ks,Hv,HR3,HN3,HBW,Hsz,aN⟩:=qB HF HX (w.heap.size+1) _ HN2.out HB2.out Hg3 hb3
  clear Hg3 hb3 K1 K2 K3 K4 HX HF HN2 HM2 HR2 HB2
  go_wp2_with (first
   | (refine wpList_load_row rfl 184 (.tmp 3) rfl (w.heap.size+1) rfl 184 ks.toArray (0,0) _ HR3.out Tryz.underlying184 rfl (by rw[Hsz.out];kernel_rfl) ?_)
   | (refine wpList_store_row rfl 184 (.tmp 2) (.tmp 16) rfl w.heap.size ks.toArray rfl rfl 184 _ HN3.out (by rw[Hsz.out];kernel_rfl) (by rw[Hsz.out];rfl) aN.out ?_))
  have bj:=HN3.out.whole ks
  have hinfo:(Tryz.prog.info? 184).map (·.size)=some ks.toArray.size:=by rw[Hsz.out];kernel_rfl
  refine bodyPost_ret (v:=.agg ks.toArray) (results_cell_row rfl _ _ w.heap.size 184 ks.toArray (0,0) _ rfl bj Tryz.underlying184 rfl hinfo) rfl ?_
  exact⟨ks,Hv,rfl,ag HBW.out (Nat.le_refl _) _⟩
set_option maxRecDepth 512
theorem E8 (v:Value) (key:List UInt8) (hn:key.length≤1000000) (w:World) (hT:Tab w) (h:Arg w v key) :
  Calls Tryz.prog 102 #[v] w fun e w'=>∃ rs:List Value,Hid (Vec 64 (bf key) rs)∧e=.returned (.agg rs.toArray)∧Below w.heap.size w w':=by
 obtain ⟨A,cap,rfl⟩:=h.form
 rcases Nat.lt_or_ge 64 key.length with hl | hl
 ·exact BZ A _ cap key rfl hl hn w hT h
 ·exact yA A _ cap key rfl hl w h
end Go.Proofs.YthbmknpbcgnabaaGreatDoor.Hm
end
section
namespace Go.Proofs.YthbmknpbcgnabaaGreatDoor.Hm
open Go.RowKit Sha
theorem pT (w:World) (c:Nat) (hc:c≤2000000):∃ w',(Instr.makeSlice 22 (.int .i64 0) (.int .i64 (c:Int))).run Tryz.prog w=.ok (.slice (some ⟨w.heap.size,0,none⟩) 0 c) w' ∧
   Own w' w.heap.size 5 (.slice (some ⟨w.heap.size,0,none⟩) 0 c) []∧Below w.heap.size w w':=by
 obtain ⟨i,hi,hz0,hz1,hz2⟩:=info_parts bK
 obtain ⟨w',h1,h2,h3⟩:=run_make_own (P:=Tryz.prog) w w.heap.size 22 5 i _ 1 Tryz.underlying22 hi hz0 hz1 .i64 .i64 c (by rw[hz2];omega) (by simp only [maxLen];omega) (Nat.le_refl _)
 exact⟨w',h1,h2,ou h3⟩
theorem qZ (ks:List Value) (j:Nat) (hj:j<64) (x:Int) (h:ks[j]? = some (.int .u8 x)) (w:World) :
  (Instr.index 184 (.agg ks.toArray) (.int .i64 (j:Int))).run Tryz.prog w=.ok (.int .u8 x) w:=by
 have hb:0≤(j:Int)∧(j:Int)<64:=by omega
 have hs:(sizeOf 5).run Tryz.prog w=.ok 1 w:=by kernel_rfl
 have ha:(isAgg 5).run Tryz.prog w=.ok false w:=by kernel_rfl
 simp only [Instr.index,asIntOf,run_underlying Tryz.underlying184,Sem.run_bind,Sem.run_pure,Result.andThen_ok,part]
 simp [h]
 intro hx
 omega
set_option maxRecDepth 100000
theorem oh (k:List UInt8) (ks:List Value) (hk:Vec 64 k ks) (m:UInt8) (v:Value) (bs:List UInt8) (hn:bs.length≤900000) (w:World) (hT:Tab w) (h:Arg w v bs) :
  Calls Tryz.prog 103 #[.agg ks.toArray,.int .u8 m.toNat,v] w fun e w'=>∃ rs:List Value,Hid (Vec 32 (dg (dZ k m++bs)) rs)∧e=.returned (.agg rs.toArray)∧Below w.heap.size w w':=by
 obtain ⟨A,cap,rfl⟩:=h.form
 obtain ⟨n,hnl⟩:∃ n,n=bs.length:=⟨_,rfl⟩
 rw[← hnl] at h hn ⊢
 have HNl:=ae hnl
 have HK:=ae hk
 have HA:=ae h
 have HT:=ae hT
 have QY:Hid (ks.toArray.size=64):=hk.size
 have aN:Hid (ks.toArray.all (·.oneCell')=true):=hk.one
 have HB:Hid (Below w.heap.size w ((w.alloc (.cells ks.toArray 184)).alloc (.cells Z32.toArray 26))):=((Below.refl _ _).alloc (Nat.le_refl _) _).alloc (by simp) _
 obtain ⟨w1,hmk,eu,hb1⟩:=pT ((w.alloc (.cells ks.toArray 184)).alloc (.cells Z32.toArray 26)) (64+n) (by omega)
 rw[show ((64+n:Nat):Int)=64+(n:Int) by omega] at hmk
 have hs2:((w.alloc (.cells ks.toArray 184)).alloc (.cells Z32.toArray 26)).heap.size=w.heap.size+2:=by simp
 rw[hs2] at hmk eu hb1
 have HM:=ae hmk
 have HO1:=ae eu
 have HB1:Hid (Below w.heap.size w w1):=HB.out.trans (hb1.mono (by omega))
 have HR0:Hid (Row w1 w.heap.size 184 ks):=((Row.new w 184 ks).alloc _).below hb1 (by omega)
 have HR1:Hid (Row w1 (w.heap.size+1) 26 Z32):=(Row.newAt 26 Z32 (by simp)).below hb1 (by omega)
 have jf:w.heap.size+2≤w1.heap.size:=by have:=hb1.size;omega
 clear hnl hk h hT eu hs2 hb1 HM
 have hz2:=sU
 go_enter Tryz.func103,Tryz.ntmps103
 go_wp2_with (refine wpList_load_row rfl 184 (.tmp 3) rfl w.heap.size rfl 184 ks.toArray (0,0) _ HR0.out Tryz.underlying184 rfl (by rw[QY.out];kernel_rfl) ?_)
 clear hmk hz2
 go_loopw [7,9,15] (fun o _ i wr=>∃ j:Nat,j≤64∧i=.int .i64 j∧Own wr (w.heap.size+2) 5 o ((dZ (k.take j) m).map V8)∧Below (w.heap.size+2) w1 wr) (fun _ _ i _=>64 - (intOf i).toNat)
 case atStart=>exact⟨0,by omega,rfl,HO1.out,Below.refl _ _⟩
 case round =>
  obtain ⟨j,hj,rfl,hown,ak⟩:=hrel
  have dD:=ak.size
  by_cases hlt:j<64
  ·have hix:ks[j]? = some (.int .u8 (k.getD j 0).toNat):=by
    rw[HK.out.1,List.getElem?_map,List.getElem?_eq_getElem (by rw[HK.out.2];exact hlt),List.getD_eq_getElem?_getD,List.getElem?_eq_getElem (by rw[HK.out.2];exact hlt)]
    rfl
   have HT2:=ae (rE k m j (by rw[HK.out.2];exact hlt))
   have HXr:=ae (dV (k.getD j 0) m)
   have HL:Hid (((dZ (k.take j) m).map V8).length+1≤100000000):=by show _≤_;rw[List.length_map,gu,List.length_take];omega
   generalize k.getD j 0=x at *
   have bp:=ae hown
   clear hown
   have hrx:=qZ ks j hlt _ hix
   go_wp2_with (at_builtin;refine aA rfl (.tmp 18) (.tmp 22) 22 rfl (w.heap.size+2) 5 Tryz.underlying22 bK rfl (by decide) _ ((dZ (k.take j) m).map V8) rfl (bp.out.alloc _) _ [.int .u8 (bits .xor .u8 (x.toNat:Int) m.toNat)] rfl (az wr 5 [.int .u8 (bits .xor .u8 (x.toNat:Int) m.toNat)]) (by rw[HXr.out];exact bI [x ^^^ m]) HL.out (by simp;omega) ?_;intro v' w2 aC hg2 _)
   go_roundw
   case rel =>
    refine⟨j+1,by omega,by go_num,?_,?_⟩
    ·rw[HXr.out] at aC
     rw[HT2.out,List.map_append];exact aC
    ·exact au (ak.alloc (by omega) _) (bp.out.alloc _) hg2 (Nat.le_refl _) (by simp;omega)
   case measure=>simp [intOf];omega
  ·obtain rfl:j=64:=by omega
   rw[show ((64:Nat):Int)=64 from rfl]
   have hx:dZ (k.take 64) m=dZ k m:=by rw[List.take_of_length_le (by rw[HK.out.2];omega)]
   rw[hx] at hown
   clear hx
   have bp:=ae hown
   have HLk:Hid ((dZ k m).length=64):=by show _=_;rw[gu,HK.out.2]
   have hbw:Below w.heap.size w wr:=HB1.out.trans (ak.mono (by omega))
   have HF:Hid (bq wr (.slice A n cap) (bs.map V8)):=dy (HA.out.below hbw)
   have H1:=ae (bI bs)
   have HL:Hid (((dZ k m).map V8).length+(bs.map V8).length≤100000000):=by show _≤_;rw[List.length_map,List.length_map,HLk.out,← HNl.out];omega
   clear hown
   go_wp2_with (at_builtin;refine aA rfl (.tmp 25) (.tmp 26) 22 rfl (w.heap.size+2) 5 Tryz.underlying22 bK rfl (by decide) _ ((dZ k m).map V8) rfl bp.out _ (bs.map V8) rfl HF.out H1.out HL.out (by omega) ?_;intro v' w2 aC hg2 _)
   have hb2:Below (w.heap.size+2) w1 w2:=au ak bp.out hg2 (Nat.le_refl _) (by omega)
   have qb:Below w.heap.size w w2:=HB1.out.trans (hb2.mono (by omega))
   rw[← List.map_append] at aC
   have HA2:Hid (Arg w2 v' (dZ k m++bs)):=aC.arg
   have HR2:Hid (Row w2 (w.heap.size+1) 26 Z32):=HR1.out.below hb2 (by omega)
   clear aC hg2 ak hbw hb2 bp HF H1 HL HR1 HR0
   refine(AJ _ _ (by rw[List.length_append,HLk.out,← HNl.out];omega) w2 (HT.out.below qb) HA2.out).mono ?_
   rintro e w3 ⟨rs,Hrs,rfl,hb3⟩
   have HR3:Hid (Row w3 (w.heap.size+1) 26 Z32):=HR2.out.below hb3 HR2.out.lt
   have HB3:Hid (Below w.heap.size w w3):=qb.trans (hb3.mono qb.size)
   have Hsz:Hid (rs.toArray.size=32):=Hrs.out.size
   have OE:Hid (rs.toArray.all (·.oneCell')=true):=Hrs.out.one
   clear hb3 HR2 qb
   go_wp2_with (refine wpList_store_row rfl 26 (.tmp 6) (.tmp 28) rfl (w.heap.size+1) rs.toArray rfl rfl 26 _ HR3.out (by rw[Hsz.out];kernel_rfl) (by rw[Hsz.out];rfl) OE.out ?_)
   have bj:=HR3.out.whole rs
   have hinfo:(Tryz.prog.info? 26).map (·.size)=some rs.toArray.size:=by rw[Hsz.out];kernel_rfl
   refine bodyPost_ret (v:=.agg rs.toArray) (results_cell_row rfl _ _ (w.heap.size+1) 26 rs.toArray (0,0) _ rfl bj Tryz.underlying26 rfl hinfo) rfl ?_
   exact⟨rs,Hrs,rfl,ag HB3.out (by omega) _⟩
end Go.Proofs.YthbmknpbcgnabaaGreatDoor.Hm
end
section
namespace Go.Proofs.YthbmknpbcgnabaaGreatDoor.Hm
open Go.RowKit Sha
theorem eM (w:World):(zeroValue 27).run Tryz.prog w=.ok (.agg Z32.toArray) w:=by kernel_rfl
theorem jq {g:Nat} {t:TypeId}:∀ (vs old pre:List Value) (o:Nat) (w:World),pre.length=o→old.length=vs.length→Row w g t (pre++old)→Row (w.setCells g o vs) g t (pre++vs)
 | [],old,pre,o,w,_,hl,h=>by
  obtain rfl:old=[]:=List.eq_nil_of_length_eq_zero hl
  exact h
 | v::r,[],pre,o,w,_,hl,h=>by simp at hl
 | v::r,x::old,pre,o,w,hp,hl,h=>by
  rw[World.setCells]
  have h1:=h.set o v
  rw[List.set_append_right _ _ (by omega),show o - pre.length=0 by omega,List.set_cons_zero] at h1
  have h2:=jq r old (pre++[v]) (o+1) (w.setCell ⟨g,o,none⟩ v) (by simp [hp]) (by simpa using hl) (by simpa using h1)
  simpa using h2
theorem Row.setCells {w:World} {g:Nat} {t:TypeId} {cs:List Value} (h:Row w g t cs) (ds:List Value) (hl:ds.length=cs.length):Row (w.setCells g 0 ds) g t ds:=by
 simpa using jq ds cs [] 0 w rfl hl.symm (by simpa using h)
theorem Row.there {w:World} {g:Nat} {t:TypeId} {cs:List Value} (h:Row w g t cs) (n:Nat) (hn:cs.length=n):w.there g 0 n:=fun j hj=>by
 rw[Nat.zero_add]
 exact⟨by rw[h.cell,List.getElem?_eq_getElem (by omega)];rfl,h.free j⟩
theorem Row.range {w:World} {g:Nat} {t:TypeId} {cs:List Value} (h:Row w g t cs):w.rangeAt g 0 cs:=h.sees
set_option maxRecDepth 100000
theorem Gb (v u:Value) (key bs:List UInt8) (hk:key.length≤1000000) (hn:bs.length≤900000) (w:World) (hT:Tab w) (hv:Arg w v key) (hu:Arg w u bs) :
  Calls Tryz.prog 68 #[v,u] w fun e w'=>∃ rs:List Value,Hid (Vec 32 (mac key bs) rs)∧e=.returned (.agg rs.toArray)∧Below w.heap.size w w':=by
 have HB0:Hid (Below w.heap.size w (w.alloc (.cells Z32.toArray 27))):=(Below.refl _ _).alloc (Nat.le_refl _) _
 have HT:=ae hT
 have HV:=ae hv
 have HU:=ae hu
 have HKl:=ae hk
 have HNl:=ae hn
 clear hT hv hu hk hn
 have hz1:=xz
 have hz2:=sU
 have hz3:=eM
 go_enter Tryz.func68,Tryz.ntmps68
 go_wp2_with fail
 refine(E8 v key HKl.out _ (HT.out.below HB0.out) (HV.out.below HB0.out)).mono ?_
 rintro e w1 ⟨ks,Hks,rfl,hb1⟩
 have jf:w.heap.size<w1.heap.size:=by have:=hb1.size;simp at this;omega
 have Pf:Hid (Below w.heap.size w w1):=HB0.out.trans (hb1.mono (by simp))
 have HN1:Hid (Row w1 w.heap.size 27 Z32):=(Row.new w 27 Z32).below hb1 (by simp)
 have Hsz:Hid (ks.toArray.size=64):=Hks.out.size
 have aN:Hid (ks.toArray.all (·.oneCell')=true):=Hks.out.one
 clear hb1
 go_wp2_with (first
  | (refine wpList_store_row rfl 184 (.tmp 5) (.tmp 8) rfl w1.heap.size ks.toArray rfl rfl 184 _ (Row.new w1 _ ZK) (by rw[Hsz.out];kernel_rfl) (by rw[Hsz.out];rfl) aN.out ?_)
  | (refine wpList_load_row rfl 184 (.tmp 5) rfl w1.heap.size rfl 184 ks.toArray (0,0) _ ((Row.new w1 184 ZK).whole ks) Tryz.underlying184 rfl (by rw[Hsz.out];kernel_rfl) ?_))
 have hb2:Below w1.heap.size w1 ((w1.alloc (.cells ZK.toArray 184)).setRow w1.heap.size ks.toArray):=ag ((Below.refl _ _).alloc (Nat.le_refl _) _) (Nat.le_refl _) _
 have HR2:Hid (Row ((w1.alloc (.cells ZK.toArray 184)).setRow w1.heap.size ks.toArray) w1.heap.size 184 ks):=(Row.new w1 184 ZK).whole ks
 have HN2:Hid (Row ((w1.alloc (.cells ZK.toArray 184)).setRow w1.heap.size ks.toArray) w.heap.size 27 Z32):=HN1.out.below hb2 (by omega)
 have HB2:Hid (Below w.heap.size w ((w1.alloc (.cells ZK.toArray 184)).setRow w1.heap.size ks.toArray)):=Pf.out.trans (hb2.mono (by omega))
 have kC:((w1.alloc (.cells ZK.toArray 184)).setRow w1.heap.size ks.toArray).heap.size=w1.heap.size+1:=by simp
 clear hb2 HN1 Pf
 generalize (w1.alloc (.cells ZK.toArray 184)).setRow w1.heap.size ks.toArray=w2 at *
 refine(oh (bf key) ks Hks.out 54 u bs HNl.out w2 (HT.out.below HB2.out) (HU.out.below HB2.out)).mono ?_
 rintro e w3 ⟨is,His,rfl,hb3⟩
 have BR:w1.heap.size+1≤w3.heap.size:=by have:=hb3.size;omega
 have HR3:Hid (Row w3 w1.heap.size 184 ks):=HR2.out.below hb3 (by omega)
 have HN3:Hid (Row w3 w.heap.size 27 Z32):=HN2.out.below hb3 (by omega)
 have HB3:Hid (Below w.heap.size w w3):=HB2.out.trans (hb3.mono (by omega))
 have LL:Hid (is.toArray.size=32):=His.out.size
 have JI:Hid (is.toArray.all (·.oneCell')=true):=His.out.one
 clear hb3 HR2 HN2 HB2 kC
 go_wp2_with (refine wpList_store_row rfl 26 (.tmp 6) (.tmp 11) rfl w3.heap.size is.toArray rfl rfl 26 _ (Row.new w3 _ Z32) (by rw[LL.out];kernel_rfl) (by rw[LL.out];rfl) JI.out ?_)
 try go_frame
 refine gA (fun w4=>Hid (Row w4 w.heap.size 27 Z32)∧Hid (Row w4 w1.heap.size 184 ks)∧Hid (Row w4 w3.heap.size 26 is)∧Hid (Below w.heap.size w w4)) ?_ ?_
 ·have hb4:Below w3.heap.size w3 ((w3.alloc (.cells Z32.toArray 26)).setRow w3.heap.size is.toArray):=ag ((Below.refl _ _).alloc (Nat.le_refl _) _) (Nat.le_refl _) _
  exact⟨HN3.out.below hb4 (by omega),HR3.out.below hb4 (by omega),(Row.new w3 26 Z32).whole is,HB3.out.trans (hb4.mono (by omega))⟩
 rintro w4 ⟨HN4,HR4,HI4,HB4⟩
 have HA4:Hid (Arg w4 (.slice (some ⟨w3.heap.size,0,none⟩) 32 32) (dg (dZ (bf key) 54++bs))):=(His.out.row HI4.out).arg 32 His.out.2
 have HD:Hid (Calls Tryz.prog 103 #[.agg ks.toArray,.int .u8 92,.slice (some ⟨w3.heap.size,0,none⟩) 32 32] w4.drew fun e w'=>∃ rs:List Value,Hid (Vec 32 (mac key bs) rs)∧rs.length=32∧(∀ v∈rs,v.oneCell'=true)∧Hid (Row w' w.heap.size 27 Z32)∧(w'.rangeAt w1.heap.size 0 ks∧w'.there w.heap.size 0 32)∧e=.returned (.agg rs.toArray)∧Hid (Below w.heap.size w w')) :=
  (oh (bf key) ks Hks.out 92 _ _ (by rw[iz];omega) w4.drew (HT.out.below (w':=w4.drew) ⟨HB4.out.os,HB4.out.tape,HB4.out.output,HB4.out.size,HB4.out.block⟩) HA4.out).mono fun e w' ⟨rs,hrs,he,hb⟩=>by
   have hs4:w.heap.size<w4.heap.size:=HN4.out.lt
   have P8:w1.heap.size<w4.heap.size:=HR4.out.lt
   have hb':Below w4.heap.size w4 w':=⟨hb.os,hb.tape,hb.output,hb.size,hb.block⟩
   have hn':=HN4.out.below hb' hs4
   exact⟨rs,hrs,hrs.out.len,by rw[hrs.out.1];exact bI _,hn',⟨(HR4.out.below hb' P8).range,hn'.there 32 rfl⟩,he,HB4.out.trans (hb'.mono (by omega))⟩
 have hS4:w4.drew.rangeAt w1.heap.size 0 ks∧w4.drew.there w.heap.size 0 32:=⟨HR4.out.drew.range,HN4.out.drew.there 32 rfl⟩
 have hu:=Tryz.underlying184
 have hi1:(Tryz.prog.info? 184).map (·.size)=some ks.length:=by rw[Hks.out.len];kernel_rfl
 have hi2:(Tryz.prog.info? 27).map (·.size)=some 32:=by kernel_rfl
 clear HA4 HI4 His LL JI HN3 HR3 HB3 aN HT HV HU hz1 hz2 hz3
 go_region_held3 (fun W=>W.rangeAt w1.heap.size 0 ks∧W.there w.heap.size 0 32) (first | exact hS4 | exact hS5 | exact⟨World.rangeAt_setCells_apart hS5.1 _ _ _ (.inl (by omega)),World.there_setCells hS5.2 _ _ _⟩) (first | (go_at_call 103;refine HD.out.mono ?_;rintro e w5 ⟨rs,Hrs,hrl,hr1,HN5,hS5,rfl,hb5⟩))
 all_goals
  have bj:Row (w5.setCells w.heap.size 0 rs) w.heap.size 27 rs:=HN5.out.setCells rs (by rw[hrl];rfl)
  have hinfo:(Tryz.prog.info? 27).map (·.size)=some rs.toArray.size:=by rw[List.size_toArray,hrl];kernel_rfl
  clear hS4 hS5 hu hi1 hi2
  go_wp2
  refine bodyPost_ret (v:=.agg rs.toArray) (results_cell_row rfl _ _ w.heap.size 27 rs.toArray (0,0) _ rfl bj Tryz.underlying27 rfl hinfo) rfl ?_
  exact⟨rs,Hrs,rfl,below_setCells (Nat.le_refl _) _ _ _ hb5.out⟩
end Go.Proofs.YthbmknpbcgnabaaGreatDoor.Hm
end
section
namespace Go.Proofs.YthbmknpbcgnabaaGreatDoor.Hm
open Go.RowKit Sha
def Small (ps:List (List UInt8)):Prop:=ps.length≤100∧∀ p∈ps,p.length≤1000
theorem Small.part {ps:List (List UInt8)} (h:Small ps) {j:Nat} {p:List UInt8} (hp:ps[j]? = some p):p.length≤1000:=h.2 p (List.mem_of_getElem? hp)
theorem fZ:∀ (ps:List (List UInt8)),(∀ p∈ps,p.length≤1000)→(joined ps).length≤ps.length*1004
 | [],_=>by simp [joined]
 | p::r,h=>by
  have h1:=fZ r (fun q hq=>h q (by simp [hq]))
  have h2:=h p (by simp)
  simp only [joined,List.length_append,pX,List.length_cons,List.length_nil]
  omega
theorem Small.joined {ps:List (List UInt8)} (h:Small ps):(joined ps).length≤100400:=by
 have h1:=fZ ps h.2
 have h2:=h.1
 omega
theorem Small.take {ps:List (List UInt8)} (h:Small ps) (j:Nat):(Go.Proofs.YthbmknpbcgnabaaGreatDoor.Hm.joined (ps.take j)).length≤100400:=by
 have h1:=fZ (ps.take j) (fun p hp=>h.2 p (List.mem_of_mem_take hp))
 have h2:=h.1
 have h3:(ps.take j).length≤ps.length:=by rw[List.length_take];omega
 omega
theorem pW (m:Nat) (h:m≤1000):[Value.int .u8 ((m:Int) / 16777216),.int .u8 ((m:Int) / 65536),.int .u8 ((m:Int) / 256),.int .u8 ((m:Int) % 256)]=(pX m).map V8:=by
 simp only [pX,List.map_cons,List.map_nil,V8,UInt8.toNat_ofNat']
 have e1:(m:Int) / 16777216=((m / 16777216 % 2 ^ 8:Nat):Int):=by omega
 have e2:(m:Int) / 65536=((m / 65536 % 2 ^ 8:Nat):Int):=by omega
 have e3:(m:Int) / 256=((m / 256 % 2 ^ 8:Nat):Int):=by omega
 have e4:(m:Int) % 256=((m % 2 ^ 8:Nat):Int):=by omega
 rw[e1,e2,e3,e4]
theorem og (m:Nat):(pX m).length=4:=rfl
set_option maxRecDepth 100000
theorem yF (A:Option Addr) (n cap:Nat) (ps:List (List UInt8)) (hs:Small ps) (w:World) (h:dz w (.slice A n cap) ps) :
  Calls Tryz.prog 69 #[.slice A n cap] w fun e w'=>∃ v,e=.returned v∧Own w' w.heap.size 5 v ((joined ps).map V8)∧Below w.heap.size w w':=by
 have HS:=ae hs
 have HP:=ae h
 have HL:=ae h.len
 have hn:n≤100:=by rw[← h.len];exact hs.1
 clear hs h
 go_enter Tryz.func69,Tryz.ntmps69
 go_wp2
 go_loop [3,5,12] (fun t _ i=>∃ j s:Nat,j≤n∧s≤j*1004∧i=.int .i64 j∧t=.int .i64 s) (fun _ _ i=>n - (intOf i).toNat)
 case atStart=>exact⟨0,0,by omega,by omega,rfl,rfl⟩
 case round =>
  obtain ⟨j,s,hj,hsl,rfl,rfl⟩:=hrel
  by_cases hlt:j<n
  ·obtain ⟨b,o,A',c',p,rfl,hbl,hpj,hcell,_⟩:=HP.out.at_ j hlt
   have hpl:p.length≤1000:=HS.out.part hpj
   clear hpj
   generalize p.length=m at *
   go_wp2
   go_round
   case rel=>exact⟨j+1,s+(4+m),by omega,by omega,by go_num,by go_num⟩
   case measure=>simp [intOf];omega
  ·obtain rfl:j=n:=by omega
   obtain ⟨w1,hmk,eu,hb1⟩:=pT w s (by omega)
   have HO1:=ae eu
   have jf:=hb1.size
   clear eu
   go_wp2
   clear hmk
   go_loopw [6,8,9,26] (fun t _ _ i wr=>∃ k:Nat,k≤j∧i=.int .i64 k∧Own wr w.heap.size 5 t ((joined (ps.take k)).map V8)∧Below w.heap.size w wr) (fun _ _ _ i _=>j - (intOf i).toNat)
   case atStart=>exact⟨0,by omega,rfl,HO1.out,hb1⟩
   case round =>
    obtain ⟨k,hk,rfl,hown,ak⟩:=hrel
    have dD:=ak.size
    have bp:=ae hown
    clear hown
    by_cases hlt:k<j
    ·obtain ⟨b,o,A',c',p,rfl,hbl,hpj,nz,ri⟩:=HP.out.at_ k hlt
     have hcell:wr.cell? ⟨b,o+k,none⟩=some (.slice A' p.length c'):=(World.cell?_of_block (w:=w) (ak.block b hbl)).trans nz
     clear nz
     have hpl:p.length≤1000:=HS.out.part hpj
     have HT:=ae (om ps k p hpj)
     have HA:=ae ri
     clear hpj ri
     obtain ⟨m,hm⟩:∃ m,m=p.length:=⟨_,rfl⟩
     rw[← hm] at hcell hpl HA HT
     have HM:=ae hm
     clear hm
     have HF4:=ae (pW m hpl)
     have HL1:Hid (((joined (ps.take k)).map V8).length+4≤100000000):=by show _≤_;rw[List.length_map];have:=HS.out.take k;omega
     have HL2:Hid (((joined (ps.take k)).map V8++(pX m).map V8).length+(p.map V8).length≤100000000):=by show _≤_;rw[List.length_append,List.length_map,List.length_map,List.length_map,og,← HM.out];have:=HS.out.take k;omega
     have H1:=ae (bI p)
     go_wp2_with (at_builtin;first
      | (refine aA rfl (.tmp 33) (.tmp 45) 22 rfl w.heap.size 5 Tryz.underlying22 bK rfl (by decide) _ ((joined (ps.take k)).map V8) rfl (bp.out.alloc _) _ [.int .u8 ((m:Int) / 16777216),.int .u8 ((m:Int) / 65536),.int .u8 ((m:Int) / 256),.int .u8 ((m:Int) % 256)] rfl (az wr 5 [.int .u8 ((m:Int) / 16777216),.int .u8 ((m:Int) / 65536),.int .u8 ((m:Int) / 256),.int .u8 ((m:Int) % 256)]) (by rw[HF4.out];exact bI _) HL1.out (by simp;omega) ?_;intro v2 w2 aC hg2 _;rw[HF4.out] at aC;have eH:=ae aC;have hb2:Below w.heap.size w w2:=au (ak.alloc dD _) (bp.out.alloc _) hg2 (Nat.le_refl _) (by simp;omega);have kC:=hb2.size;have HF2:Hid (bq w2 (.slice A' m c') (p.map V8)):=dy (HA.out.below hb2);clear aC hg2)
      | (refine aA rfl (.tmp 47) (.tmp 48) 22 rfl w.heap.size 5 Tryz.underlying22 bK rfl (by decide) _ ((joined (ps.take k)).map V8++(pX m).map V8) rfl eH.out _ (p.map V8) rfl HF2.out H1.out HL2.out (by omega) ?_;intro v3 w3 aF hg3 _))
     go_roundw
     case rel =>
      refine⟨k+1,by omega,by go_num,?_,?_⟩
      ·rw[HT.out,List.map_append,List.map_append,← List.append_assoc];exact aF
      ·exact au hb2 eH.out hg3 (Nat.le_refl _) (by omega)
     case measure=>simp [intOf];omega
    ·obtain rfl:k=j:=by omega
     have jg:ps.take k=ps:=List.take_of_length_le (by rw[HL.out];omega)
     rw[jg] at bp
     clear jg
     go_wp2
     go_ret
     exact⟨_,rfl,bp.out,ak⟩
theorem jG (v:Value) (key:List UInt8) (hk:key.length≤1000000) (A:Option Addr) (n cap:Nat) (ps:List (List UInt8)) (hs:Small ps) (w:World) (hT:Tab w) (hv:Arg w v key) (h:dz w (.slice A n cap) ps) :
  Calls Tryz.prog 31 #[v,.slice A n cap] w fun e w'=>∃ rs:List Value,Hid (Vec 32 (mac key (joined ps)) rs)∧e=.returned (.agg rs.toArray)∧Below w.heap.size w w':=by
 have HB0:Hid (Below w.heap.size w (w.alloc (.cells Z32.toArray 27))):=(Below.refl _ _).alloc (Nat.le_refl _) _
 have HT:=ae hT
 have HV:=ae hv
 have HP:=ae h
 have HS:=ae hs
 have HK:=ae hk
 clear hT hv h hs hk
 have hz:=eM
 go_enter Tryz.func31,Tryz.ntmps31
 go_wp2_with fail
 refine(yF A n cap ps HS.out _ (HP.out.below HB0.out)).mono ?_
 rintro e w1 ⟨u,rfl,eu,hb1⟩
 have HN1:Hid (Row w1 w.heap.size 27 Z32):=(Row.new w 27 Z32).below hb1 (by simp)
 have HB1:Hid (Below w.heap.size w w1):=HB0.out.trans (hb1.mono (by simp))
 have HA1:Hid (Arg w1 u (joined ps)):=eu.arg
 clear eu hb1 hz
 go_wp2_with fail
 refine(Gb v u key (joined ps) HK.out (by have:=HS.out.joined;omega) w1 (HT.out.below HB1.out) (HV.out.below HB1.out) HA1.out).mono ?_
 rintro e w2 ⟨rs,Hrs,rfl,hb2⟩
 have HN2:Hid (Row w2 w.heap.size 27 Z32):=HN1.out.below hb2 HN1.out.lt
 have HB2:Hid (Below w.heap.size w w2):=HB1.out.trans (hb2.mono HB1.out.size)
 have Hsz:Hid (rs.toArray.size=32):=Hrs.out.size
 have aN:Hid (rs.toArray.all (·.oneCell')=true):=Hrs.out.one
 clear hb2 HN1 HB1 HA1
 go_wp2_with (refine wpList_store_row rfl 27 (.tmp 4) (.tmp 8) rfl w.heap.size rs.toArray rfl rfl 27 _ HN2.out (by rw[Hsz.out];kernel_rfl) (by rw[Hsz.out];rfl) aN.out ?_)
 have bj:=HN2.out.whole rs
 have hinfo:(Tryz.prog.info? 27).map (·.size)=some rs.toArray.size:=by rw[Hsz.out];kernel_rfl
 refine bodyPost_ret (v:=.agg rs.toArray) (results_cell_row rfl _ _ w.heap.size 27 rs.toArray (0,0) _ rfl bj Tryz.underlying27 rfl hinfo) rfl ?_
 exact⟨rs,Hrs,rfl,ag HB2.out (Nat.le_refl _) _⟩
end Go.Proofs.YthbmknpbcgnabaaGreatDoor.Hm
end
