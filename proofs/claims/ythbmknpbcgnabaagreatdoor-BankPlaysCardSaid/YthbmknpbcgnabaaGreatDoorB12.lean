/- Of the walk. -/
import Derived.Deep.OwnRows
import Derived.Test.YthbmknpbcgnabaaGreatDoorB11
set_option maxHeartbeats 40000000
namespace Go.Proofs.YthbmknpbcgnabaaGreatDoor
open Go.RowKit Aes
structure Enc (w W:World) (S K:Nat) (key:List UInt8) (cs:List Value):Prop where
 blk:Row W (w.heap.size+1) 25 cs
 res:Row W (w.heap.size+1+1) 25 Z16
 tab:Row W S 266 (SBL.map V8)
 keys:Row W K 270 ((rks key).map V8)
 s:w.heap.size+1+1<S
 k:S<K
 bel:Below w.heap.size w W
section
variable {w W V:World} {S K:Nat} {key:List UInt8} {cs:List Value}
theorem Enc.call (h:Enc w W S K key cs) (hb:Below W.heap.size W V):Enc w V S K key cs :=
 ⟨h.blk.below hb h.blk.lt,h.res.below hb h.res.lt,h.tab.below hb h.tab.lt,h.keys.below hb h.keys.lt,h.s,h.k,h.bel.trans (hb.mono h.bel.size)⟩
theorem Enc.put (h:Enc w W S K key cs) (ds:List Value):Enc w (W.setRow (w.heap.size+1) ds.toArray) S K key ds :=
 ⟨h.blk.whole ds,h.res.dG (by omega) _,h.tab.dG (by have:=h.s;omega) _,h.keys.dG (by have:=h.s;have:=h.k;omega) _,h.s,h.k,ag h.bel (by omega) _⟩
end
def stK (key b:List UInt8) (r:Nat):List UInt8:=st key b r
theorem Dl (key b:List UInt8):stK key b 0=a8 b (((rks key).drop (16*0)).take 16):=rfl
theorem vv (key b:List UInt8) (r:Nat):stK key b (r+1)=rnd key (r+1) (stK key b r):=by unfold stK;rw[st]
theorem zH (key b:List UInt8) (r:Nat) (h:r<9):stK key b (r+1)=a8 (fV (shR (fR (stK key b r)))) (((rks key).drop (16*(r+1))).take 16):=by
 rw[vv,rnd,if_pos (by omega),rk]
theorem vw (key b:List UInt8) (r:Nat) (h:r=9):stK key b (r+1)=a8 (shR (fR (stK key b r))) (((rks key).drop (16*(r+1))).take 16):=by
 rw[vv,rnd,if_neg (by omega),rk]
theorem zJ (key b:List UInt8) (r:Nat) (h:r=10):stK key b r=enc key b:=by subst h;unfold stK enc;rfl
theorem nH (K r:Nat) (hr:r≤10) (i:Int) (hi:i=(r:Int)) (ks b:List UInt8) (rs:List Value) (hv:Vec 16 b rs) (w:World) (hks:ks.length=176) (hK:Row w K 270 (ks.map V8)) :
  Calls Tryz.prog 175 #[.agg rs.toArray,.pointer (some ⟨K,0,none⟩),.int .i64 i] w fun e w'=>∃ ts:List Value,Hid (Vec 16 (a8 b ((ks.drop (16*r)).take 16)) ts)∧e=.returned (.agg ts.toArray)∧Below w.heap.size w w':=by
 subst hi
 exact yM K r hr ks b rs hv w hK.lt hks hK.sees
set_option maxRecDepth 100000
theorem Gt (key b:List UInt8) (kr br:List Value) (hk:Vec 16 key kr) (hb:Vec 16 b br) (w:World) :
  Calls Tryz.prog 162 #[.agg kr.toArray,.agg br.toArray] w fun e w'=>∃ ts:List Value,Hid (Vec 16 (enc key b) ts)∧e=.returned (.agg ts.toArray)∧Below w.heap.size w w':=by
 have HK:=ae hk
 have HBv:=ae hb
 have QN:Hid (kr.toArray.size=16):=hk.size
 have Ox:Hid (br.toArray.size=16):=hb.size
 clear hk hb
 have hz:=lF
 have hz2:=zA
 have hz3:=uU
 have hr0:Row (((w.alloc (.cells kr.toArray 25)).alloc (.cells br.toArray 25)).alloc (.cells Z16.toArray 25)) w.heap.size 25 kr:=((Row.new w 25 kr).alloc _).alloc _
 have hr1:Row (((w.alloc (.cells kr.toArray 25)).alloc (.cells br.toArray 25)).alloc (.cells Z16.toArray 25)) (w.heap.size+1) 25 br:=(Row.newAt 25 br (by simp)).alloc _
 have hr2:Row (((w.alloc (.cells kr.toArray 25)).alloc (.cells br.toArray 25)).alloc (.cells Z16.toArray 25)) (w.heap.size+1+1) 25 Z16:=Row.newAt 25 Z16 (by simp)
 have hbl:Below w.heap.size w (((w.alloc (.cells kr.toArray 25)).alloc (.cells br.toArray 25)).alloc (.cells Z16.toArray 25)):=(((Below.refl _ _).alloc (Nat.le_refl _) _).alloc (by simp) _).alloc (by simp;omega) _
 have HR0:=ae hr0
 have HR1:=ae hr1
 have HR2:=ae hr2
 have HBL:=ae hbl
 clear hr0 hr1 hr2 hbl
 go_enter Tryz.func162,Tryz.ntmps162
 go_wp2_with fail
 generalize ((w.alloc (.cells kr.toArray 25)).alloc (.cells br.toArray 25)).alloc (.cells Z16.toArray 25)=w0 at *
 refine(yg w0).mono ?_
 rintro e w1 ⟨ss,Hss,rfl,hb1⟩
 have Ov:Hid (ss.toArray.size=256):=Hss.out.size
 have QU:Hid (ss.toArray.all (·.oneCell')=true):=Hss.out.one
 obtain ⟨S,hS⟩:∃ S,S=w1.heap.size:=⟨_,rfl⟩
 have hs1:w.heap.size+1+1<S:=by have:=HR2.out.lt;have:=hb1.size;omega
 have hbS:Below w1.heap.size w1 ((w1.alloc (.cells gD.toArray 266)).setRow w1.heap.size ss.toArray):=ag ((Below.refl _ _).alloc (Nat.le_refl _) _) (Nat.le_refl _) _
 have hb2:Below w0.heap.size w0 ((w1.alloc (.cells gD.toArray 266)).setRow w1.heap.size ss.toArray):=hb1.trans (hbS.mono hb1.size)
 have HS2:Hid (Row ((w1.alloc (.cells gD.toArray 266)).setRow w1.heap.size ss.toArray) S 266 (SBL.map V8)):=Hss.out.row (hS ▸ (Row.new w1 266 gD).whole ss)
 have HB2:=ae hb2
 have kC:((w1.alloc (.cells gD.toArray 266)).setRow w1.heap.size ss.toArray).heap.size=S+1:=by rw[hS];simp
 have HK2:Hid (Row ((w1.alloc (.cells gD.toArray 266)).setRow w1.heap.size ss.toArray) w.heap.size 25 kr):=HR0.out.below hb2 HR0.out.lt
 go_wp2_with (first
  | (refine wpList_store_row rfl 266 (.tmp 5) (.tmp 8) rfl w1.heap.size ss.toArray rfl rfl 266 _ (Row.new w1 _ gD) (by rw[Ov.out];kernel_rfl) (by rw[Ov.out];rfl) QU.out ?_)
  | (refine wpList_load_row rfl 25 (.tmp 2) rfl w.heap.size rfl 25 kr.toArray (0,0) _ HK2.out Tryz.underlying25 rfl (by rw[QN.out];kernel_rfl) ?_))
 clear hbS hb2 hb1
 generalize (w1.alloc (.cells gD.toArray 266)).setRow w1.heap.size ss.toArray=w2 at *
 rw[← hS]
 clear hS
 refine(q8 S key kr HK.out w2 HS2.out.lt HS2.out.sees).mono ?_
 rintro e w3 ⟨ks,Hks,rfl,hb3⟩
 have Ow:Hid (ks.toArray.size=176):=Hks.out.size
 have QV:Hid (ks.toArray.all (·.oneCell')=true):=Hks.out.one
 obtain ⟨K,hKe⟩:∃ K,K=w3.heap.size:=⟨_,rfl⟩
 have HE4:Hid (Enc w ((w3.alloc (.cells kL.toArray 270)).setRow w3.heap.size ks.toArray) S K key br):=by
  have hbK:Below w3.heap.size w3 ((w3.alloc (.cells kL.toArray 270)).setRow w3.heap.size ks.toArray):=ag ((Below.refl _ _).alloc (Nat.le_refl _) _) (Nat.le_refl _) _
  have hb4:Below w2.heap.size w2 ((w3.alloc (.cells kL.toArray 270)).setRow w3.heap.size ks.toArray):=hb3.trans (hbK.mono hb3.size)
  have KR:=HB2.out.trans (hb4.mono HB2.out.size)
  refine⟨HR1.out.below KR HR1.out.lt,HR2.out.below KR HR2.out.lt,HS2.out.below hb4 HS2.out.lt,Hks.out.row (hKe ▸ (Row.new w3 270 kL).whole ks),hs1,?_,HBL.out.trans (KR.mono HBL.out.size)⟩
  have:=hb3.size
  omega
 go_wp2_with (first | (refine wpList_store_row rfl 270 (.tmp 6) (.tmp 10) rfl w3.heap.size ks.toArray rfl rfl 270 _ (Row.new w3 _ kL) (by rw[Ow.out];kernel_rfl) (by rw[Ow.out];rfl) QV.out ?_) | (refine wpList_load_row rfl 25 (.tmp 3) rfl (w.heap.size+1) rfl 25 br.toArray (0,0) _ HE4.out.blk Tryz.underlying25 rfl (by rw[Ox.out];kernel_rfl) ?_))
 clear HR0 HR1 HR2 HBL HS2 HB2 HK2 hb3 kC hz hz2 hz3
 generalize (w3.alloc (.cells kL.toArray 270)).setRow w3.heap.size ks.toArray=w4 at *
 rw[← hKe]
 clear hKe
 refine(nH K 0 (by omega) 0 rfl (rks key) b br HBv.out w4 (iH key HK.out.2) HE4.out.keys).mono ?_
 rintro e v5 ⟨cs5,F7,rfl,hb5⟩
 have FQ:Hid (cs5.toArray.size=16):=F7.out.size
 have JH:Hid (cs5.toArray.all (·.oneCell')=true):=F7.out.one
 have HF5:Hid (Enc w v5 S K key br):=HE4.out.call hb5
 have HE5:Hid (Enc w (v5.setRow (w.heap.size+1) cs5.toArray) S K key cs5):=HF5.out.put cs5
 clear hb5
 go_wp2_with (refine wpList_store_row rfl 25 (.tmp 3) (.tmp 12) rfl (w.heap.size+1) cs5.toArray rfl rfl 25 _ HF5.out.blk (by rw[FQ.out];kernel_rfl) (by rw[FQ.out];exact Ox.out) JH.out ?_)
 generalize v5.setRow (w.heap.size+1) cs5.toArray=w5 at *
 clear HF5 HE4
 rw[← Dl] at F7
 go_wp2
 go_loopw [7] (fun i wr=>∃ (r:Nat) (cs:List Value),r≤10∧i=.int .i64 ((r:Int)+1)∧Hid (Vec 16 (stK key b r) cs)∧Hid (Enc w wr S K key cs)) (fun i _=>11 - (intOf i).toNat)
 case atStart=>exact⟨0,cs5,by omega,rfl,F7,HE5⟩
 case round =>
  clear HE5 F7 FQ JH
  obtain ⟨r,cs,hr,rfl,Hcs,HEr⟩:=hrel
  have xd:Hid (cs.toArray.size=16):=Hcs.out.size
  rcases Nat.lt_or_ge r 10 with hlt | hge
  ·rcases Nat.lt_or_ge r 9 with h9 | h9
   ·skip
    go_wp2_with (refine wpList_load_row rfl 25 (.tmp 3) rfl (w.heap.size+1) rfl 25 cs.toArray (0,0) _ HEr.out.blk Tryz.underlying25 rfl (by rw[xd.out];kernel_rfl) ?_)
    refine(n9 S _ cs Hcs.out wr HEr.out.tab.lt HEr.out.tab.sees).mono ?_
    rintro e v6 ⟨cs6,zm,rfl,hb6⟩
    have mQ:Hid (cs6.toArray.size=16):=zm.out.size
    have F3:Hid (cs6.toArray.all (·.oneCell')=true):=zm.out.one
    have HF6:Hid (Enc w v6 S K key cs):=HEr.out.call hb6
    have HE6:Hid (Enc w (v6.setRow (w.heap.size+1) cs6.toArray) S K key cs6):=HF6.out.put cs6
    clear hb6
    go_wp2_with (first | (refine wpList_store_row rfl 25 (.tmp 3) (.tmp 18) rfl (w.heap.size+1) cs6.toArray rfl rfl 25 _ HF6.out.blk (by rw[mQ.out];kernel_rfl) (by rw[mQ.out];exact xd.out) F3.out ?_) | (refine wpList_load_row rfl 25 (.tmp 3) rfl (w.heap.size+1) rfl 25 cs6.toArray (0,0) _ HE6.out.blk Tryz.underlying25 rfl (by rw[mQ.out];kernel_rfl) ?_))
    generalize v6.setRow (w.heap.size+1) cs6.toArray=w6 at *
    clear HF6 HEr
    refine(ko _ cs6 zm.out w6).mono ?_
    rintro e v7 ⟨cs7,zl,rfl,hb7⟩
    have mP:Hid (cs7.toArray.size=16):=zl.out.size
    have F0:Hid (cs7.toArray.all (·.oneCell')=true):=zl.out.one
    have HF7:Hid (Enc w v7 S K key cs6):=HE6.out.call hb7
    have HE7:Hid (Enc w (v7.setRow (w.heap.size+1) cs7.toArray) S K key cs7):=HF7.out.put cs7
    clear hb7
    go_wp2_with (first | (refine wpList_store_row rfl 25 (.tmp 3) (.tmp 20) rfl (w.heap.size+1) cs7.toArray rfl rfl 25 _ HF7.out.blk (by rw[mP.out];kernel_rfl) (by rw[mP.out];exact mQ.out) F0.out ?_) | (refine wpList_load_row rfl 25 (.tmp 3) rfl (w.heap.size+1) rfl 25 cs7.toArray (0,0) _ HE7.out.blk Tryz.underlying25 rfl (by rw[mP.out];kernel_rfl) ?_))
    generalize v7.setRow (w.heap.size+1) cs7.toArray=w7 at *
    clear HF7 HE6
    refine(pS _ cs7 zl.out w7).mono ?_
    rintro e v8 ⟨cs8,LM,rfl,hb8⟩
    have AO:Hid (cs8.toArray.size=16):=LM.out.size
    have OG:Hid (cs8.toArray.all (·.oneCell')=true):=LM.out.one
    have HF8:Hid (Enc w v8 S K key cs7):=HE7.out.call hb8
    have HE8:Hid (Enc w (v8.setRow (w.heap.size+1) cs8.toArray) S K key cs8):=HF8.out.put cs8
    clear hb8
    go_wp2_with (first | (refine wpList_store_row rfl 25 (.tmp 3) (.tmp 24) rfl (w.heap.size+1) cs8.toArray rfl rfl 25 _ HF8.out.blk (by rw[AO.out];kernel_rfl) (by rw[AO.out];exact mP.out) OG.out ?_) | (refine wpList_load_row rfl 25 (.tmp 3) rfl (w.heap.size+1) rfl 25 cs8.toArray (0,0) _ HE8.out.blk Tryz.underlying25 rfl (by rw[AO.out];kernel_rfl) ?_))
    generalize v8.setRow (w.heap.size+1) cs8.toArray=w8 at *
    clear HF8 HE7
    refine(nH K (r+1) (by omega) _ (by omega) (rks key) _ cs8 LM.out w8 (iH key HK.out.2) HE8.out.keys).mono ?_
    rintro e v9 ⟨cs9,uO,rfl,hb9⟩
    have xa:Hid (cs9.toArray.size=16):=uO.out.size
    have FZ:Hid (cs9.toArray.all (·.oneCell')=true):=uO.out.one
    have HF9:Hid (Enc w v9 S K key cs8):=HE8.out.call hb9
    have HE9:Hid (Enc w (v9.setRow (w.heap.size+1) cs9.toArray) S K key cs9):=HF9.out.put cs9
    clear hb9
    go_wp2_with (refine wpList_store_row rfl 25 (.tmp 3) (.tmp 27) rfl (w.heap.size+1) cs9.toArray rfl rfl 25 _ HF9.out.blk (by rw[xa.out];kernel_rfl) (by rw[xa.out];exact AO.out) FZ.out ?_)
    generalize v9.setRow (w.heap.size+1) cs9.toArray=w9 at *
    clear HF9 HE8
    rw[← zH key b r h9] at uO
    go_wp2
    go_roundw
    case rel=>exact⟨r+1,cs9,by omega,by go_num,uO,HE9⟩
    case measure=>simp [intOf];omega
   ·skip
    go_wp2_with (refine wpList_load_row rfl 25 (.tmp 3) rfl (w.heap.size+1) rfl 25 cs.toArray (0,0) _ HEr.out.blk Tryz.underlying25 rfl (by rw[xd.out];kernel_rfl) ?_)
    refine(n9 S _ cs Hcs.out wr HEr.out.tab.lt HEr.out.tab.sees).mono ?_
    rintro e v6 ⟨cs6,zm,rfl,hb6⟩
    have mQ:Hid (cs6.toArray.size=16):=zm.out.size
    have F3:Hid (cs6.toArray.all (·.oneCell')=true):=zm.out.one
    have HF6:Hid (Enc w v6 S K key cs):=HEr.out.call hb6
    have HE6:Hid (Enc w (v6.setRow (w.heap.size+1) cs6.toArray) S K key cs6):=HF6.out.put cs6
    clear hb6
    go_wp2_with (first | (refine wpList_store_row rfl 25 (.tmp 3) (.tmp 18) rfl (w.heap.size+1) cs6.toArray rfl rfl 25 _ HF6.out.blk (by rw[mQ.out];kernel_rfl) (by rw[mQ.out];exact xd.out) F3.out ?_) | (refine wpList_load_row rfl 25 (.tmp 3) rfl (w.heap.size+1) rfl 25 cs6.toArray (0,0) _ HE6.out.blk Tryz.underlying25 rfl (by rw[mQ.out];kernel_rfl) ?_))
    generalize v6.setRow (w.heap.size+1) cs6.toArray=w6 at *
    clear HF6 HEr
    refine(ko _ cs6 zm.out w6).mono ?_
    rintro e v7 ⟨cs7,zl,rfl,hb7⟩
    have mP:Hid (cs7.toArray.size=16):=zl.out.size
    have F0:Hid (cs7.toArray.all (·.oneCell')=true):=zl.out.one
    have HF7:Hid (Enc w v7 S K key cs6):=HE6.out.call hb7
    have HE7:Hid (Enc w (v7.setRow (w.heap.size+1) cs7.toArray) S K key cs7):=HF7.out.put cs7
    clear hb7
    go_wp2_with (first | (refine wpList_store_row rfl 25 (.tmp 3) (.tmp 20) rfl (w.heap.size+1) cs7.toArray rfl rfl 25 _ HF7.out.blk (by rw[mP.out];kernel_rfl) (by rw[mP.out];exact mQ.out) F0.out ?_) | (refine wpList_load_row rfl 25 (.tmp 3) rfl (w.heap.size+1) rfl 25 cs7.toArray (0,0) _ HE7.out.blk Tryz.underlying25 rfl (by rw[mP.out];kernel_rfl) ?_))
    generalize v7.setRow (w.heap.size+1) cs7.toArray=w7 at *
    clear HF7 HE6
    refine(nH K (r+1) (by omega) _ (by omega) (rks key) _ cs7 zl.out w7 (iH key HK.out.2) HE7.out.keys).mono ?_
    rintro e v9 ⟨cs9,uO,rfl,hb9⟩
    have xa:Hid (cs9.toArray.size=16):=uO.out.size
    have FZ:Hid (cs9.toArray.all (·.oneCell')=true):=uO.out.one
    have HF9:Hid (Enc w v9 S K key cs7):=HE7.out.call hb9
    have HE9:Hid (Enc w (v9.setRow (w.heap.size+1) cs9.toArray) S K key cs9):=HF9.out.put cs9
    clear hb9
    go_wp2_with (refine wpList_store_row rfl 25 (.tmp 3) (.tmp 27) rfl (w.heap.size+1) cs9.toArray rfl rfl 25 _ HF9.out.blk (by rw[xa.out];kernel_rfl) (by rw[xa.out];exact mP.out) FZ.out ?_)
    generalize v9.setRow (w.heap.size+1) cs9.toArray=w9 at *
    clear HF9 HE7
    rw[← vw key b r (by omega)] at uO
    go_wp2
    go_roundw
    case rel=>exact⟨r+1,cs9,by omega,by go_num,uO,HE9⟩
    case measure=>simp [intOf];omega
  ·rw[zJ key b r (by omega)] at Hcs
   have aN:Hid (cs.toArray.all (·.oneCell')=true):=Hcs.out.one
   go_wp2_with (first
    | (refine wpList_load_row rfl 25 (.tmp 3) rfl (w.heap.size+1) rfl 25 cs.toArray (0,0) _ HEr.out.blk Tryz.underlying25 rfl (by rw[xd.out];kernel_rfl) ?_)
    | (refine wpList_store_row rfl 25 (.tmp 4) (.tmp 28) rfl (w.heap.size+1+1) cs.toArray rfl rfl 25 _ HEr.out.res (by rw[xd.out];kernel_rfl) (by rw[xd.out];rfl) aN.out ?_))
   have bj:=HEr.out.res.whole cs
   have hinfo:(Tryz.prog.info? 25).map (·.size)=some cs.toArray.size:=by rw[xd.out];kernel_rfl
   refine bodyPost_ret (v:=.agg cs.toArray) (results_cell_row rfl _ _ (w.heap.size+1+1) 25 cs.toArray (0,0) _ rfl bj Tryz.underlying25 rfl hinfo) rfl ?_
   exact⟨cs,Hcs,rfl,ag HEr.out.bel (by omega) _⟩
end Go.Proofs.YthbmknpbcgnabaaGreatDoor
section
namespace Go.Proofs.YthbmknpbcgnabaaGreatDoor
namespace Ctr
open Aes
def big:Nat→Nat→List UInt8
 | 0,_=>[]
 | k+1,n=>big k (n / 256)++[UInt8.ofNat n]
theorem aU (k:Nat):∀ n,(big k n).length=k:=by
 induction k with
 | zero=>intro n;rfl
 | succ k ih=>intro n;simp [big,ih]
theorem ofNat_congr {n m:Nat} (h:n % 256=m % 256):UInt8.ofNat n=UInt8.ofNat m:=by
 apply UInt8.toNat_inj.1
 rw[UInt8.toNat_ofNat',UInt8.toNat_ofNat']
 exact h
theorem Ck (k:Nat):∀ n m,n % 256 ^ k=m % 256 ^ k→big k n=big k m:=by
 induction k with
 | zero=>intro n m _;rfl
 | succ k ih =>
  intro n m h
  rw[Nat.pow_succ,Nat.mul_comm,Nat.mod_mul,Nat.mod_mul] at h
  have h1:n % 256=m % 256:=by omega
  have h2:n / 256 % 256 ^ k=m / 256 % 256 ^ k:=by omega
  rw[big,big,ih _ _ h2,ofNat_congr h1]
def put (l:List UInt8) (o:Nat):Nat→Nat→List UInt8
 | 0,_=>l
 | k+1,x=>put (l.set (o+k) (UInt8.ofNat x)) o k (x / 256)
theorem zQ (k:Nat):∀ (pre mid post:List UInt8) (x:Nat),mid.length=k→put (pre++mid++post) pre.length k x=pre++big k x++post:=by
 induction k with
 | zero =>
  intro pre mid post x h
  rw[List.eq_nil_of_length_eq_zero h]
  rfl
 | succ k ih =>
  intro pre mid post x h
  have hne:mid≠[]:=fun e=>by rw[e] at h;simp at h
  have hd:mid=mid.dropLast++[mid.getLast hne]:=(List.dropLast_concat_getLast hne).symm
  have hl:mid.dropLast.length=k:=by simp [h]
  rw[hd]
  generalize mid.dropLast=m at *
  generalize mid.getLast hne=z
  have hs:(pre++(m++[z])++post).set (pre.length+k) (UInt8.ofNat x)=pre++m++(UInt8.ofNat x::post):=by
   rw[show pre++(m++[z])++post=(pre++m)++(z::post) by simp,List.set_append_right _ _ (by simp [hl]),show pre.length+k - (pre++m).length=0 by simp [hl],List.set_cons_zero]
  rw[put,hs,ih pre m _ _ hl,big]
  simp
def blk (key av:List UInt8) (i:Nat):List UInt8:=enc key (av++big 4 i)
theorem qy (key av:List UInt8) (hk:key.length=16) (hn:av.length=12) (i:Nat):(blk key av i).length=16 :=
 lU key _ hk (by simp [hn,aU])
def tW (key av:List UInt8) (j:Nat):UInt8:=(blk key av (j / 16)).getD (j % 16) 0
def jl (key av:List UInt8) (n:Nat):List UInt8:=(List.range n).map (tW key av)
theorem bB (key av:List UInt8) (n:Nat):(jl key av n).length=n:=by simp [jl]
theorem tz (key av:List UInt8) (n j:Nat) (h:j<n):(jl key av n).getD j 0=tW key av j:=by
 simp [jl,List.getD_eq_getElem?_getD,h]
def code (key av b:List UInt8):List UInt8:=a8 b (jl key av b.length)
theorem bC (key av b:List UInt8):(code key av b).length=b.length:=by simp [code,a8,bB]
theorem uy (key av b:List UInt8) (j:Nat) (h:j<b.length):(code key av b).getD j 0=b.getD j 0 ^^^ tW key av j:=by
 rw[code,sV _ _ _ h (by rw[bB];exact h),tz _ _ _ _ h]
theorem getD_eq {a b:List UInt8} (hl:a.length=b.length) (h:∀ j,j<a.length→a.getD j 0=b.getD j 0):a=b:=by
 apply List.ext_getElem hl
 intro i h1 h2
 have h3:=h i h1
 simpa [List.getD_eq_getElem?_getD,h1,h2] using h3
theorem Cb (key av b:List UInt8):code key av (code key av b)=b:=by
 refine getD_eq (by rw[bC,bC]) fun j hj=>?_
 rw[bC,bC] at hj
 rw[uy _ _ _ _ (by rw[bC];exact hj),uy _ _ _ _ hj,UInt8.xor_assoc,UInt8.xor_self,UInt8.xor_zero]
theorem Bc (key av:List UInt8) (hk:key.length=16) (hn:av.length=12) (i:Nat):jl key av (16*(i+1))=jl key av (16*i)++blk key av i:=by
 refine getD_eq (by simp [bB,qy key av hk hn];omega) fun j hj=>?_
 rw[bB] at hj
 rw[tz _ _ _ _ hj]
 rcases Nat.lt_or_ge j (16*i) with h | h
 ·rw[List.getD_eq_getElem?_getD,List.getElem?_append_left (by rw[bB];exact h),← List.getD_eq_getElem?_getD,tz _ _ _ _ h]
 ·rw[List.getD_eq_getElem?_getD,List.getElem?_append_right (by rw[bB];exact h),← List.getD_eq_getElem?_getD,bB,tW,show j / 16=i by omega,show j % 16=j - 16*i by omega]
theorem Bb (key av:List UInt8) (m n:Nat) (h:n≤m):(jl key av m).take n=jl key av n:=by
 rw[jl,jl,← List.map_take,List.take_range,Nat.min_eq_left h]
def nnc (b v:Nat):List UInt8:=big 4 b++big 8 v
theorem lS (b v:Nat):(nnc b v).length=12:=by simp [nnc,aU]
end Ctr
end Go.Proofs.YthbmknpbcgnabaaGreatDoor
end
section
namespace Go.Proofs.YthbmknpbcgnabaaGreatDoor
open Go.RowKit Ctr
def rf (l:List UInt8) (o k x:Nat):List UInt8:=put l o k x
theorem r6 (l:List UInt8) (o x:Nat):rf l o 0 x=l:=rfl
theorem r7 (l:List UInt8) (o k x:Nat):rf l o (k+1) x=rf (l.set (o+k) (UInt8.ofNat x)) o k (x / 256):=rfl
set_option maxRecDepth 100000
theorem ra (g o n cap x:Nat) (hx:x<2 ^ 64) (hn:n≤8) (t:TypeId) (l:List UInt8) (ho:o+n≤l.length) (w:World) (h:Row w g t (l.map V8)) :
  Calls Tryz.prog 144 #[.slice (some ⟨g,o,none⟩) n cap,.int .u64 x] w fun e w'=>e=.returned (.tuple #[])∧Hid (Row w' g t ((rf l o n x).map V8))∧w.grownBy w' (some g):=by
 have HR:=ae h
 clear h
 go_enter Tryz.func144,Tryz.ntmps144
 go_wp2
 go_loopw [1,4] (fun y i wr=>∃ (k z:Nat) (m:List UInt8),k≤n∧i=.int .i64 ((k:Int) - 1)∧y=.int .u64 z∧z<2 ^ 64∧Hid (m.length=l.length)∧Hid (rf m o k z=rf l o n x)∧Hid (Row wr g t (m.map V8))∧w.grownBy wr (some g)) (fun _ i _=>(intOf i+1).toNat)
 case atStart=>exact⟨n,x,l,Nat.le_refl _,rfl,rfl,hx,rfl,rfl,HR,jV _ _⟩
 case round =>
  obtain ⟨k,z,m,hk,rfl,rfl,hz,Hml,uN,dR,hgr⟩:=hrel
  clear HR
  rcases Nat.eq_zero_or_pos k with rfl | hpos
  ·go_wp2
   go_end0
   rw[r6] at uN
   exact⟨rfl,by rw[← uN.out];exact dR,hgr⟩
  ·obtain ⟨j,rfl⟩:∃ j,k=j+1:=⟨k - 1,by omega⟩
   have e1:((j+1:Nat):Int) - 1=(j:Int):=by omega
   rw[e1]
   have c0:wr.cell? ⟨g,o+j,none⟩=some (.int .u8 (m.getD (o+j) 0).toNat):=by
    have:=mz dR.out (o+j) (by rw[Hml.out];omega)
    exact this
   have f0:=dR.out.free (o+j)
   rw[r7] at uN
   generalize (m.getD (o+j) 0).toNat=y at *
   clear e1
   go_wp2
   go_roundw
   case rel =>
    refine⟨j,z / 256,m.set (o+j) (UInt8.ofNat z),by omega,rfl,by rw[Int.natCast_ediv];rfl,by omega,?_,uN,?_,iP hgr (.inl rfl) _⟩
    ·show _=_
     rw[List.length_set];exact Hml.out
    ·show Row _ _ _ _
     rw[List.map_set,iu z]
     exact dR.out.set (o+j) _
   case measure=>simp only [intOf];omega
set_option maxRecDepth 512
theorem jc (g o n cap x:Nat) (hx:x<2 ^ 64) (hn:n≤8) (t:TypeId) (pre mid post:List UInt8) (ho:pre.length=o) (hm:mid.length=n) (w:World) (h:Row w g t ((pre++mid++post).map V8)) :
  Calls Tryz.prog 144 #[.slice (some ⟨g,o,none⟩) n cap,.int .u64 x] w fun e w'=>e=.returned (.tuple #[])∧Hid (Row w' g t ((pre++big n x++post).map V8))∧w.grownBy w' (some g):=by
 have:=ra g o n cap x hx hn t (pre++mid++post) (by simp;omega) w h
 rw[← zQ n pre mid post x hm,ho]
 exact this
end Go.Proofs.YthbmknpbcgnabaaGreatDoor
end
section
namespace Go.Proofs.YthbmknpbcgnabaaGreatDoor
open Go.RowKit Aes Ctr
theorem Ff (av:List UInt8) (hn:av.length=12):splice Z16 0 (av.map V8)=(av++[0,0,0,0]++[]).map V8:=by
 rw[qD,splice,List.take_zero,List.nil_append,Nat.zero_add,List.length_map,hn,List.map_append,List.map_append]
 simp
theorem wC (i:Nat):(big 4 i).length=4:=aU 4 i
set_option maxRecDepth 100000
theorem oI (key av:List UInt8) (kr nr:List Value) (hk:Vec 16 key kr) (hn:Vec 12 av nr) (i:Nat) (hi:i<2 ^ 32) (w:World) :
  Calls Tryz.prog 143 #[.agg kr.toArray,.agg nr.toArray,.int .u32 i] w fun e w'=>∃ ts:List Value,Hid (Vec 16 (blk key av i) ts)∧e=.returned (.agg ts.toArray)∧Below w.heap.size w w':=by
 have HK:=ae hk
 have HN:=ae hn
 have Hzk:Hid (kr.toArray.size=16):=hk.size
 have Hzn:Hid (nr.toArray.size=12):=hn.size
 have hz:=lF
 obtain ⟨w0,hw0⟩:∃ w0,w0=(((w.alloc (.cells kr.toArray 25)).alloc (.cells nr.toArray 212)).alloc (.cells Z16.toArray 25)).alloc (.cells Z16.toArray 25):=⟨_,rfl⟩
 have HR0:Hid (Row w0 w.heap.size 25 kr):=by rw[hw0];exact(((Row.new w 25 kr).alloc _).alloc _).alloc _
 have HR1:Hid (Row w0 (w.heap.size+1) 212 nr):=by rw[hw0];exact((Row.newAt 212 nr (by simp)).alloc _).alloc _
 have HR2:Hid (Row w0 (w.heap.size+1+1) 25 Z16):=by rw[hw0];exact(Row.newAt 25 Z16 (by simp)).alloc _
 have HR3:Hid (Row w0 (w.heap.size+1+1+1) 25 Z16):=by rw[hw0];exact Row.newAt 25 Z16 (by simp)
 have HBL:Hid (Below w.heap.size w w0):=by rw[hw0];exact((((Below.refl _ _).alloc (Nat.le_refl _) _).alloc (by simp) _).alloc (by simp;omega) _).alloc (by simp;omega) _
 have K1:Hid (nr.length=Nat.min 12 16):=hn.len
 have K3:Hid (0+nr.length≤Z16.length):=by show _≤_;rw[hn.len];decide
 have K4:Hid (∀ v∈nr,v.oneCell'=true):=by rw[hn.1];exact bI _
 clear hk hn
 go_enter Tryz.func143,Tryz.ntmps143
 go_wp2
 rw[← hw0]
 clear hw0 hz
 have K2:Hid (0<nr.length→(some (⟨w.heap.size+1+1+1,0,none⟩:Addr))=some ⟨w.heap.size+1+1+1,0,none⟩∧∃ ad,some (⟨w.heap.size+1,0,none⟩:Addr)=some ad∧∀ (j:Nat) v,nr[j]? = some v→w0.drew.cell? (ad.add j)=some v):=by
  intro _
  refine⟨rfl,_,rfl,fun j v hv=>?_⟩
  rw[bD,Nat.zero_add]
  exact(HR1.out.drew.cell j).trans hv
 go_region_law (refine step_copy_splice rfl (.tmp 8) (.tmp 9) 22 22 rfl 5 Tryz.underlying22 qj _ _ 16 16 12 12 rfl rfl (w.heap.size+1+1+1) 0 Z16 25 HR3.out nr K1.out K2.out K3.out K4.out (w.heap.size+1+1+1) w0 ⟨rfl,rfl,rfl,Nat.le_refl _,fun _ _=>rfl⟩ (Nat.le_refl _) ?_;intro w3 Hg3 hb3)
 all_goals
  have HC3:Hid (Row w3 (w.heap.size+1+1+1) 25 ((av++[0,0,0,0]++[]).map V8)):=by
   have:=Hg3.out
   rw[HN.out.1,Ff av HN.out.2] at this
   exact this
  have HK3:Hid (Row w3 w.heap.size 25 kr):=HR0.out.below hb3 (by omega)
  have HS3:Hid (Row w3 (w.heap.size+1+1) 25 Z16):=HR2.out.below hb3 (by omega)
  have HB3:Hid (Below w.heap.size w w3):=HBL.out.trans (hb3.mono (by omega))
  clear Hg3 hb3 HR0 HR1 HR2 HR3 HBL K1 K2 K3 K4 Hzn
  go_wp2_with fail
  refine(jc (w.heap.size+1+1+1) 12 4 4 i (by omega) (by omega) 25 av [0,0,0,0] [] HN.out.2 rfl w3 HC3.out).mono ?_
  rintro e w4 ⟨rfl,Hr4,hg4⟩
  have HV4:Hid (Vec 16 (av++big 4 i) ((av++big 4 i).map V8)):=Vec.mk 16 _ (by rw[List.length_append,wC,HN.out.2])
  rw[List.append_nil] at Hr4
  obtain ⟨cs,hcs⟩:∃ cs,cs=(av++big 4 i).map V8:=⟨_,rfl⟩
  rw[← hcs] at Hr4 HV4
  have Hzc:Hid (cs.toArray.size=16):=HV4.out.size
  have HK4:Hid (Row w4 w.heap.size 25 kr):=HK3.out.grown hg4 (by simp;omega)
  have HS4:Hid (Row w4 (w.heap.size+1+1) 25 Z16):=HS3.out.grown hg4 (by simp)
  have HB4:Hid (Below w.heap.size w w4):=HB3.out.grown hg4 HB3.out.size (fun k hk=>by injection hk with hk;omega)
  clear hcs hg4 HC3 HK3 HS3 HB3
  go_wp2_with (first
   | (refine wpList_load_row rfl 25 (.tmp 3) rfl w.heap.size rfl 25 kr.toArray (0,0) _ HK4.out Tryz.underlying25 rfl (by rw[Hzk.out];kernel_rfl) ?_)
   | (refine wpList_load_row rfl 25 (.tmp 7) rfl (w.heap.size+1+1+1) rfl 25 cs.toArray (0,0) _ Hr4.out Tryz.underlying25 rfl (by rw[Hzc.out];kernel_rfl) ?_))
  refine(Gt key (av++big 4 i) kr cs HK.out HV4.out w4).mono ?_
  rintro e w5 ⟨ts,Hts,rfl,hb5⟩
  have Hzt:Hid (ts.toArray.size=16):=Hts.out.size
  have aN:Hid (ts.toArray.all (·.oneCell')=true):=Hts.out.one
  have HS5:Hid (Row w5 (w.heap.size+1+1) 25 Z16):=HS4.out.below hb5 HS4.out.lt
  have HB5:Hid (Below w.heap.size w w5):=HB4.out.trans (hb5.mono HB4.out.size)
  clear hb5 HK4 HS4 HB4 Hr4
  go_wp2_with (refine wpList_store_row rfl 25 (.tmp 6) (.tmp 17) rfl (w.heap.size+1+1) ts.toArray rfl rfl 25 _ HS5.out (by rw[Hzt.out];kernel_rfl) (by rw[Hzt.out];rfl) aN.out ?_)
  have bj:=HS5.out.whole ts
  have hinfo:(Tryz.prog.info? 25).map (·.size)=some ts.toArray.size:=by rw[Hzt.out];kernel_rfl
  refine bodyPost_ret (v:=.agg ts.toArray) (results_cell_row rfl _ _ (w.heap.size+1+1) 25 ts.toArray (0,0) _ rfl bj Tryz.underlying25 rfl hinfo) rfl ?_
  exact⟨ts,Hts,rfl,ag HB5.out (by omega) _⟩
end Go.Proofs.YthbmknpbcgnabaaGreatDoor
end
section
namespace Go.Proofs.YthbmknpbcgnabaaGreatDoor
open Go.RowKit Ctr
def Z12:List Value:=List.replicate 12 (.int .u8 0)
theorem JL (w:World):(zeroValue 212).run Tryz.prog w=.ok (.agg Z12.toArray) w:=by kernel_rfl
set_option maxRecDepth 100000
theorem CC (d:Int) (b:Nat) (hb:(b:Int)=d % 4294967296) (v:Nat) (hv:v<2 ^ 64) (w:World) :
  Calls Tryz.prog 126 #[.int .i64 d,.int .u64 v] w fun e w'=>∃ ts:List Value,Hid (Vec 12 (nnc b v) ts)∧e=.returned (.agg ts.toArray)∧Below w.heap.size w w':=by
 have hz:=JL
 obtain ⟨w0,hw0⟩:∃ w0,w0=(w.alloc (.cells Z12.toArray 212)).alloc (.cells Z12.toArray 212):=⟨_,rfl⟩
 have HR0:Hid (Row w0 w.heap.size 212 Z12):=by rw[hw0];exact(Row.new w 212 Z12).alloc _
 have HR1:Hid (Row w0 (w.heap.size+1) 212 (([]++[0,0,0,0]++[0,0,0,0,0,0,0,0]:List UInt8).map V8)):=by rw[hw0];exact Row.newAt 212 Z12 (by simp)
 have HBL:Hid (Below w.heap.size w w0):=by rw[hw0];exact((Below.refl _ _).alloc (Nat.le_refl _) _).alloc (by simp) _
 have HBd:=ae hb
 clear hb
 go_enter Tryz.func126,Tryz.ntmps126
 go_wp2_with fail
 rw[← hw0]
 clear hw0 hz
 rw[← HBd.out]
 refine(jc (w.heap.size+1) 0 4 12 b (by have:=HBd.out;omega) (by omega) 212 [] [0,0,0,0] [0,0,0,0,0,0,0,0] rfl rfl w0 HR1.out).mono ?_
 rintro e w1 ⟨rfl,Hr1,hg1⟩
 have HN1:Hid (Row w1 w.heap.size 212 Z12):=HR0.out.grown hg1 (by simp)
 have HB1:Hid (Below w.heap.size w w1):=HBL.out.grown hg1 HBL.out.size (fun k hk=>by injection hk with hk;omega)
 have HC1:Hid (Row w1 (w.heap.size+1) 212 ((big 4 b++[0,0,0,0,0,0,0,0]++[]).map V8)):=by
  have:=Hr1.out
  rw[List.nil_append] at this
  rw[List.append_nil]
  exact this
 clear HR0 HR1 HBL Hr1 hg1 HBd
 go_wp2_with fail
 refine(jc (w.heap.size+1) 4 8 8 v hv (by omega) 212 (big 4 b) [0,0,0,0,0,0,0,0] [] (aU 4 b) rfl w1 HC1.out).mono ?_
 rintro e w2 ⟨rfl,Hr2,hg2⟩
 have HN2:Hid (Row w2 w.heap.size 212 Z12):=HN1.out.grown hg2 (by simp)
 have HB2:Hid (Below w.heap.size w w2):=HB1.out.grown hg2 HB1.out.size (fun k hk=>by injection hk with hk;omega)
 rw[List.append_nil] at Hr2
 have HV:Hid (Vec 12 (nnc b v) ((big 4 b++big 8 v).map V8)):=Vec.mk 12 _ (lS b v)
 obtain ⟨ts,hts⟩:∃ ts,ts=(big 4 b++big 8 v).map V8:=⟨_,rfl⟩
 rw[← hts] at Hr2 HV
 have Hzt:Hid (ts.toArray.size=12):=HV.out.size
 have aN:Hid (ts.toArray.all (·.oneCell')=true):=HV.out.one
 clear hts hg2 HN1 HB1 HC1
 go_wp2_with (first
  | (refine wpList_load_row rfl 212 (.tmp 5) rfl (w.heap.size+1) rfl 212 ts.toArray (0,0) _ Hr2.out Tryz.underlying212 rfl (by rw[Hzt.out];kernel_rfl) ?_)
  | (refine wpList_store_row rfl 212 (.tmp 4) (.tmp 14) rfl w.heap.size ts.toArray rfl rfl 212 _ HN2.out (by rw[Hzt.out];kernel_rfl) (by rw[Hzt.out];rfl) aN.out ?_))
 have bj:=HN2.out.whole ts
 have hinfo:(Tryz.prog.info? 212).map (·.size)=some ts.toArray.size:=by rw[Hzt.out];kernel_rfl
 refine bodyPost_ret (v:=.agg ts.toArray) (results_cell_row rfl _ _ w.heap.size 212 ts.toArray (0,0) _ rfl bj Tryz.underlying212 rfl hinfo) rfl ?_
 exact⟨ts,HV,rfl,ag HB2.out (Nat.le_refl _) _⟩
end Go.Proofs.YthbmknpbcgnabaaGreatDoor
end
section
namespace Go.Proofs.YthbmknpbcgnabaaGreatDoor
open Go.RowKit Aes Ctr
theorem Er (n:Nat) (hn:n≤1000000) (W:World):(Instr.makeSlice 22 (.int .i64 (n:Int)) (.int .i64 (n:Int))).run Tryz.prog W=.ok (.slice (some ⟨W.heap.size,0,none⟩) n n) (W.alloc (.cells ((List.replicate n (0:UInt8)).map V8).toArray 5)):=by
 have h:=run_make_row' (P:=Tryz.prog) 22 5 (.int .u8 0) 1 Tryz.underlying22 bK rfl .i64 .i64 n (by omega) (by omega) W
 rw[show madeCells #[Value.int .u8 0] n=((List.replicate n (0:UInt8)).map V8).toArray from by
  unfold madeCells
  apply Array.ext
  ·simp
  ·intro i h1 h2
   simp [V8,Nat.mod_one]] at h
 exact h
structure Cod (w W:World) (kr nr:List Value) (cs:List Value) (out:List UInt8):Prop where
 key:Row W w.heap.size 25 kr
 non:Row W (w.heap.size+1) 212 nr
 out:Row W (w.heap.size+1+1) 5 (out.map V8)
 str:Row W (w.heap.size+1+1+1) 25 cs
 bel:Below w.heap.size w W
theorem pG (key av:List UInt8) (kr nr:List Value) (hk:Vec 16 key kr) (hn:Vec 12 av nr) (j:Int) (i:Nat) (hi:i<2 ^ 32) (hj:j=(i:Int)) (w:World) :
  Calls Tryz.prog 143 #[.agg kr.toArray,.agg nr.toArray,.int .u32 j] w fun e w'=>∃ ts:List Value,Hid (Vec 16 (blk key av i) ts)∧e=.returned (.agg ts.toArray)∧Below w.heap.size w w':=by
 subst hj
 exact oI key av kr nr hk hn i hi w
section
variable {w W V:World} {kr nr cs:List Value} {out new old:List UInt8} {k:Nat}
theorem Cod.call (h:Cod w W kr nr cs out) (hb:Below W.heap.size W V):Cod w V kr nr cs out :=
 ⟨h.key.below hb h.key.lt,h.non.below hb h.non.lt,h.out.below hb h.out.lt,h.str.below hb h.str.lt,h.bel.trans (hb.mono h.bel.size)⟩
theorem Cod.stream (h:Cod w W kr nr cs out) (ds:List Value):Cod w (W.setRow (w.heap.size+1+1+1) ds.toArray) kr nr ds out :=
 ⟨h.key.dG (by omega) _,h.non.dG (by omega) _,h.out.dG (by omega) _,h.str.whole ds,ag h.bel (by omega) _⟩
theorem Cod.put (h:Cod w W kr nr cs (upd new old k)) (hl:old.length=new.length) (hk:k<new.length) {z:Int} (hz:z=((new.getD k 0).toNat:Int)) :
  Cod w (W.setCell ⟨w.heap.size+1+1,k,none⟩ (.int .u8 z)) kr nr cs (upd new old (k+1)) :=
 ⟨h.key.apart (by show w.heap.size≠w.heap.size+1+1;omega) _,h.non.apart (by show w.heap.size+1≠w.heap.size+1+1;omega) _,eY h.out hl hk hz,h.str.apart (by show w.heap.size+1+1+1≠w.heap.size+1+1;omega) _,h.bel.setCell (by show w.heap.size≤w.heap.size+1+1;omega) _⟩
theorem Cod.ks (h:Cod w W kr nr cs out) {key av s:List UInt8} (hv:Vec 16 s cs) (hs:s=blk key av (k / 16)):W.cell? ⟨w.heap.size+1+1+1,k % 16,none⟩=some (.int .u8 (tW key av k).toNat):=by
 rw[h.str.cell,hv.at_ (k % 16) (Nat.mod_lt _ (by omega)),hs]
 rfl
end
set_option maxRecDepth 100000
theorem Gj (key av b:List UInt8) (kr nr:List Value) (hk:Vec 16 key kr) (hn:Vec 12 av nr) (v:Value) (hbl:b.length≤100000) (w:World) (h:Arg w v b) :
  Calls Tryz.prog 125 #[.agg kr.toArray,.agg nr.toArray,v] w fun e w'=>∃ g,e=.returned (.slice (some ⟨g,0,none⟩) b.length b.length)∧w.heap.size≤g∧Hid (Row w' g 5 ((code key av b).map V8))∧Below w.heap.size w w':=by
 obtain ⟨A,cap,rfl⟩:=h.form
 obtain ⟨n,hnl⟩:∃ n,n=b.length:=⟨_,rfl⟩
 rw[← hnl] at h hbl ⊢
 have HNl:=ae hnl
 have HK:=ae hk
 have HN:=ae hn
 have HA:=ae h
 have Hzk:Hid (kr.toArray.size=16):=hk.size
 have Hzn:Hid (nr.toArray.size=12):=hn.size
 obtain ⟨zs,hzs⟩:∃ zs,zs=(List.replicate n (0:UInt8)).map V8:=⟨_,rfl⟩
 have hmk:∀ W,(Instr.makeSlice 22 (.int .i64 (n:Int)) (.int .i64 (n:Int))).run Tryz.prog W=.ok (.slice (some ⟨W.heap.size,0,none⟩) n n) (W.alloc (.cells zs.toArray 5)):=fun W=>by rw[hzs];exact Er n (by omega) W
 have hz:=lF
 have HC0:Hid (Cod w ((((w.alloc (.cells kr.toArray 25)).alloc (.cells nr.toArray 212)).alloc (.cells zs.toArray 5)).alloc (.cells Z16.toArray 25)) kr nr Z16 (upd (code key av b) (List.replicate n 0) 0)):=by
  refine⟨(((Row.new w 25 kr).alloc _).alloc _).alloc _,((Row.newAt 212 nr (by simp)).alloc _).alloc _,?_,Row.newAt 25 Z16 (by simp),((((Below.refl _ _).alloc (Nat.le_refl _) _).alloc (by simp) _).alloc (by simp;omega) _).alloc (by simp;omega) _⟩
  rw[fC,← hzs]
  exact(Row.newAt 5 zs (by simp)).alloc _
 have xf:Hid ((code key av b).length=n):=by show _=_;rw[bC,hnl]
 have HLz:Hid ((List.replicate n (0:UInt8)).length=(code key av b).length):=by show _=_;rw[bC,List.length_replicate,hnl]
 clear hnl hk hn h hzs
 go_enter Tryz.func125,Tryz.ntmps125
 go_wp2
 go_loopw [9,10,16] (fun _ _ i wr=>∃ (k:Nat) (cs:List Value) (s:List UInt8),k≤n∧i=.int .i64 k∧Hid (Vec 16 s cs)∧Hid (k % 16≠0→s=blk key av (k / 16))∧Hid (Cod w wr kr nr cs (upd (code key av b) (List.replicate n 0) k))) (fun _ _ i _=>n - (intOf i).toNat)
 case atStart=>exact⟨0,Z16,List.replicate 16 0,by omega,rfl,⟨qD,List.length_replicate⟩,fun h=>absurd rfl h,HC0⟩
 case round =>
  obtain ⟨k,cs,s,hk,rfl,Hcs,Hs,HC⟩:=hrel
  clear HC0 hmk hz
  by_cases hlt:k<n
  ·obtain ⟨bb,o,rfl,hbb,cd⟩:∃ bb o,A=some ⟨bb,o,none⟩∧bb<w.heap.size∧ah w bb o (b.map V8):=by
    rcases HA.out with ⟨A',e,_⟩ | ⟨bb,o,c,e,hbb,_,hs⟩
    ·injection e with _ e2 _;omega
    ·injection e with e1 _ _;exact⟨bb,o,e1,hbb,hs⟩
   have c1:wr.cell? ⟨bb,o+k,none⟩=some (.int .u8 (b.getD k 0).toNat):=at8 (cd.below HC.out.bel hbb) k (by rw[← HNl.out];exact hlt)
   have JJ:Hid ((code key av b).getD k 0=b.getD k 0 ^^^ tW key av k):=uy key av b k (by rw[← HNl.out];exact hlt)
   generalize b.getD k 0=x at *
   have c3:wr.cell? ⟨w.heap.size+1+1,k,none⟩=some (.int .u8 ((List.replicate n (0:UInt8)).getD k 0).toNat):=dJ HC.out.out HLz.out k (Nat.le_refl _) (by rw[xf.out];exact hlt)
   generalize ((List.replicate n (0:UInt8)).getD k 0).toNat=y at *
   have hkl:k<(code key av b).length:=by rw[xf.out];exact hlt
   have HX:=ae (dV x (tW key av k))
   have Hkl:=ae hkl
   clear hkl cd
   by_cases hm:k % 16=0
   ·clear Hs c3
    go_wp2_with (first
     | (refine wpList_load_row rfl 25 (.tmp 3) rfl w.heap.size rfl 25 kr.toArray (0,0) _ HC.out.key Tryz.underlying25 rfl (by rw[Hzk.out];kernel_rfl) ?_)
     | (refine wpList_load_row rfl 212 (.tmp 4) rfl (w.heap.size+1) rfl 212 nr.toArray (0,0) _ HC.out.non Tryz.underlying212 rfl (by rw[Hzn.out];kernel_rfl) ?_))
    refine(pG key av kr nr HK.out HN.out _ (k / 16) (by omega) (by omega) wr).mono ?_
    rintro e w1 ⟨ts,Hts,rfl,hb1⟩
    have Hzt:Hid (ts.toArray.size=16):=Hts.out.size
    have aN:Hid (ts.toArray.all (·.oneCell')=true):=Hts.out.one
    have HC1:Hid (Cod w w1 kr nr cs (upd (code key av b) (List.replicate n 0) k)):=HC.out.call hb1
    have HC2:Hid (Cod w (w1.setRow (w.heap.size+1+1+1) ts.toArray) kr nr ts (upd (code key av b) (List.replicate n 0) k)):=HC1.out.stream ts
    have c2:=HC2.out.ks Hts.out rfl
    have f3:=HC2.out.out.free k
    have c4:(w1.setRow (w.heap.size+1+1+1) ts.toArray).cell? ⟨w.heap.size+1+1,k,none⟩=some (.int .u8 ((List.replicate n (0:UInt8)).getD k 0).toNat):=dJ HC2.out.out HLz.out k (Nat.le_refl _) Hkl.out
    generalize ((List.replicate n (0:UInt8)).getD k 0).toNat=y at *
    generalize tW key av k=z at *
    have Hzc:Hid (cs.toArray.size=16):=Hcs.out.size
    have Hm:=ae hm
    clear hb1 HC c1 Hcs hm
    go_wp2_with (refine wpList_store_row rfl 25 (.tmp 8) (.tmp 29) rfl (w.heap.size+1+1+1) ts.toArray rfl rfl 25 _ HC1.out.str (by rw[Hzt.out];kernel_rfl) (by rw[Hzt.out];exact Hzc.out) aN.out ?_)
    clear HC1
    generalize w1.setRow (w.heap.size+1+1+1) ts.toArray=w2 at *
    go_wp2
    go_roundw
    case rel =>
     refine⟨k+1,ts,blk key av (k / 16),by omega,by go_num,Hts,?_,HC2.out.put HLz.out Hkl.out ?_⟩
     ·intro _
      rw[show (k+1) / 16=k / 16 by have:=Hm.out;omega]
     ·rw[HX.out,JJ.out]
    case measure=>simp [intOf];omega
   ·have c2:=HC.out.ks Hcs.out (Hs.out hm)
    have f3:=HC.out.out.free k
    generalize tW key av k=z at *
    go_wp2
    go_roundw
    case rel =>
     refine⟨k+1,cs,s,by omega,by go_num,Hcs,?_,HC.out.put HLz.out Hkl.out ?_⟩
     ·intro h1
      rw[show (k+1) / 16=k / 16 by omega]
      exact Hs.out hm
     ·rw[HX.out,JJ.out]
    case measure=>simp [intOf];omega
  ·obtain rfl:k=n:=by omega
   have uP:Hid (upd (code key av b) (List.replicate k 0) k=code key av b):=l9 xf.out List.length_replicate
   rw[uP.out] at HC
   clear uP
   go_wp2
   go_ret
   exact⟨_,rfl,by omega,HC.out.out,HC.out.bel⟩
end Go.Proofs.YthbmknpbcgnabaaGreatDoor
end
namespace Go.Proofs.YthbmknpbcgnabaaGreatDoor
open Aes Ctr Go.RowKit
theorem iK {w:World} {v:Value} {bs:List UInt8}:Hm.Arg w v bs ↔ Arg w v bs:=Iff.rfl
namespace Sl
def nm (d:Int):Nat:=(d % 18446744073709551616).toNat
theorem tR (d:Int):((nm d:Nat):Int)=d % 18446744073709551616:=by unfold nm;omega
theorem si (d:Int):nm d<2 ^ 64:=by unfold nm;omega
def num (l:List UInt8):Nat:=l.foldl (fun a x=>a*256+x.toNat) 0
theorem vK (l:List UInt8) (x:UInt8):num (l++[x])=num l*256+x.toNat:=by simp [num,List.foldl_append]
theorem pP (l:List UInt8) (j:Nat) (h:j<l.length):num (l.take (j+1))=num (l.take j)*256+(l.getD j 0).toNat:=by
 rw[List.take_succ_eq_append_getElem h,vK,List.getD_eq_getElem?_getD,List.getElem?_eq_getElem h]
 rfl
theorem tP (l:List UInt8):∀ k,l.length≤k→num l<256 ^ k:=by
 intro k h
 have key:∀ j,j≤l.length→num (l.take j)<256 ^ j:=by
  intro j
  induction j with
  | zero=>intro _;simp [num]
  | succ j ih =>
   intro hj
   have h1:=ih (by omega)
   rw[pP l j (by omega),Nat.pow_succ]
   have:=(l.getD j 0).toNat_lt
   omega
 have h1:=key l.length (Nat.le_refl _)
 rw[List.take_length] at h1
 exact Nat.lt_of_lt_of_le h1 (Nat.pow_le_pow_right (by omega) h)
theorem zX (k:Nat):∀ n,n<256 ^ k→num (big k n)=n:=by
 induction k with
 | zero=>intro n h;simp at h;simp [big,num,h]
 | succ k ih =>
  intro n h
  rw[Nat.pow_succ] at h
  rw[big,vK,ih (n / 256) (by omega),UInt8.toNat_ofNat']
  omega
def a6:List UInt8:=[108,101,97,102]
def wh:List UInt8:=[101,110,99]
def nh:List UInt8:=[109,97,99]
def kE (s:List UInt8):List UInt8:=(Hm.mac s (Hm.joined [wh])).take 16
def mE (s:List UInt8):List UInt8:=Hm.mac s (Hm.joined [nh])
theorem iZ (s:List UInt8):(kE s).length=16:=by rw[kE,List.length_take,Hm.eD];rfl
theorem kz (s:List UInt8):(mE s).length=32:=Hm.eD _ _
def tg (mk:List UInt8) (b:Nat) (raw:List UInt8):List UInt8:=Hm.mac mk (Hm.joined [a6,big 4 b,raw])
theorem jk (mk:List UInt8) (b:Nat) (raw:List UInt8):(tg mk b raw).length=32:=Hm.eD _ _
def rw_ (ek:List UInt8) (b v:Nat) (plain:List UInt8):List UInt8:=big 8 v++code ek (nnc b v) plain
theorem kS (ek:List UInt8) (b v:Nat) (plain:List UInt8):(rw_ ek b v plain).length=8+plain.length:=by rw[rw_,List.length_append,aU,bC]
def ver (raw:List UInt8):Nat:=num (raw.take 8)
def pl (ek:List UInt8) (b:Nat) (raw:List UInt8):List UInt8:=code ek (nnc b (ver raw)) (raw.drop 8)
theorem Dd (raw:List UInt8):ver raw<2 ^ 64:=by
 have:=tP (raw.take 8) 8 (by rw[List.length_take];omega)
 have e:(256:Nat) ^ 8=2 ^ 64:=by decide
 unfold ver
 omega
theorem JO (ek:List UInt8) (b v:Nat) (hv:v<2 ^ 64) (plain:List UInt8):ver (rw_ ek b v plain)=v:=by
 have e:(256:Nat) ^ 8=2 ^ 64:=by decide
 rw[ver,rw_,List.take_append_of_le_length (by rw[aU];omega),List.take_of_length_le (by rw[aU];omega),zX 8 v (by omega)]
theorem Na (ek:List UInt8) (b v:Nat) (hv:v<2 ^ 64) (plain:List UInt8):pl ek b (rw_ ek b v plain)=plain:=by
 rw[pl,JO ek b v hv,rw_,List.drop_append_of_le_length (by rw[aU];omega),List.drop_eq_nil_of_le (by rw[aU];omega),List.nil_append,Cb]
theorem BB (ek:List UInt8) (b:Nat) (raw:List UInt8):(pl ek b raw).length=raw.length - 8:=by rw[pl,bC,List.length_drop]
theorem lL (b:Nat) (raw:List UInt8) (h:raw.length≤1000):Hm.Small [a6,big 4 b,raw]:=by
 refine⟨by simp,fun p hp=>?_⟩
 simp only [List.mem_cons,List.not_mem_nil,or_false] at hp
 rcases hp with rfl | rfl | rfl
 ·decide
 ·rw[aU];omega
 ·exact h
theorem Dv:Hm.Small [wh]:=⟨by simp,by decide⟩
theorem Du:Hm.Small [nh]:=⟨by simp,by decide⟩
theorem GU (d:Int) (D4 u:Nat) (hD4:(D4:Int)=d % 4294967296):nnc D4 u=nnc (nm d) u:=by
 have hD:=tR d
 unfold nnc
 rw[Ck 4 D4 (nm d) (by
                have:(256:Nat) ^ 4=4294967296:=by decide
                rw[this];omega)]
end Sl
end Go.Proofs.YthbmknpbcgnabaaGreatDoor
