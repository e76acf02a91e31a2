/- Of the walk. -/
import Derived.Deep.LoopGhost
import Derived.Test.YthbmknpbcgnabaaGreatDoorB36
set_option maxHeartbeats 40000000
namespace Go.Proofs.YthbmknpbcgnabaaGreatDoor
open Go.RowKit Aes Ctr Sl Dsk
set_option maxRecDepth 100000
theorem FO {w:World} {P d T:Nat} {ek mk:List UInt8} {s:Bk.Bn} {ks:List Value} {FT G:Nat→Prop} {nx:Value} {S:List Bool} {V:Nat} {D:List Blk} (h:cQ w P d ek mk s ks T FT nx S V) (hD:aG w G d D) (i:Nat) (hi:i<s.n) (hl:D.length=2*s.n) (cur:List UInt8) (mH:cur=Bk.aq D (s.af*s.n+i)) (ES:cur.length=72) {plain:List UInt8} {u:Int}
  (hOp:∀ (W:World) (x:Value) (ts:List Value),Below w.heap.size w W→Arg W x cur→Vec 32 (s.tags.getD i []) ts→Calls Tryz.prog 53 #[.agg ks.toArray,IV i,x,.agg ts.toArray] W fun e w'=>∃ g,e=.returned (.tuple #[.slice (some ⟨g,0,none⟩) 64 64,.int .u64 u,.int .i64 0])∧W.heap.size≤g∧Hid (Row w' g 5 (plain.map V8))∧Below W.heap.size W w') :
  Calls Tryz.prog 21 #[PT P,IV i] w fun e w'=>∃ g,e=.returned (.tuple #[.slice (some ⟨g,0,none⟩) 64 64,.int .i64 0])∧w.heap.size≤g∧Hid (Row w' g 5 (plain.map V8))∧Below w.heap.size w w':=by
 have hkl:=h.kl
 have eU:=h.n100
 have HSz:=ae (gj h)
 have HH:=ae h
 have HGt:=ae (fun W (hW:Below w.heap.size w W)=>Mr.aL.E4 (h.below hW).tree i (by rw[h.tl];exact hi))
 have HRw:=ae (fun W (hW:Below w.heap.size w W)=>qI (h.below hW) (hD.below hW) i hi hl)
 rw[← mH] at HRw
 obtain ⟨tag,rh⟩:∃ t,t=s.tags.getD i []:=⟨_,rfl⟩
 rw[← rh] at HGt hOp
 obtain ⟨n,hn⟩:∃ x,x=s.n:=⟨_,rfl⟩
 rw[← hn] at HSz hi
 have HOp:=ae hOp
 have qM:=ae ES
 have Hin:Hid ((i:Int)<(n:Int)):=by show _<_;omega
 have H0i:Hid (¬ (i:Int)<0):=by show ¬ _;omega
 have hi1:(Tryz.prog.info? 29).map (·.size)=some ks.length:=by rw[hkl];kernel_rfl
 have hz:=Hm.eM
 clear h hD hl mH hOp ES hkl eU rh hn hi
 go_enter Tryz.func21,Tryz.ntmps21
 have hin:=Hin.out
 have h0:=H0i.out
 go_wp2_with fail
 refine HSz.out.mono ?_
 rintro e w1 ⟨rfl,hb1⟩
 have HB1:=ae hb1
 have HG1:=ae (HGt.out w1 hb1)
 have Ii:=(HH.out.below hb1).at_.cells.2.2.2.1
 clear HSz HGt hb1
 go_wp2_with fail
 refine HG1.out.mono ?_
 rintro e w2 ⟨⟨ts,Hts,rfl⟩,hb2⟩
 have HB2:=ae (HB1.out.trans (hb2.mono HB1.out.size))
 have Hsz:Hid (ts.toArray.size=32):=Hts.out.size
 have aN:Hid (ts.toArray.all (·.oneCell')=true):=Hts.out.one
 clear HG1 HB1 hb2 Ii w1
 obtain ⟨w3,hw3⟩:∃ W,W=w2.alloc (.cells Hm.Z32.toArray 27):=⟨_,rfl⟩
 have HZ3:Hid (Row w3 w2.heap.size 27 Hm.Z32):=by rw[hw3];exact Row.new w2 27 Hm.Z32
 have HB3:Hid (Below w.heap.size w w3):=by rw[hw3];exact HB2.out.alloc HB2.out.size _
 have HZ4:=ae (HZ3.out.whole ts)
 have HB4:Hid (Below w.heap.size w (w3.setRow w2.heap.size ts.toArray)):=ag HB3.out HB2.out.size _
 go_wp2_with (rw[← hw3];clear hw3;refine wpList_store_row rfl 27 (.tmp 6) (.tmp 26) rfl w2.heap.size ts.toArray rfl rfl 27 _ HZ3.out (by rw[Hsz.out];kernel_rfl) (by rw[Hsz.out];rfl) aN.out ?_)
 generalize w3.setRow w2.heap.size ts.toArray=w4 at *
 generalize w2.heap.size=fB at *
 have hi2:(Tryz.prog.info? 27).map (·.size)=some ts.length:=by rw[← List.size_toArray,Hsz.out];kernel_rfl
 have up:Hid (∀ W,Below w4.heap.size w4 W→Below w.heap.size w W):=fun W hW=>HB4.out.trans (hW.mono HB4.out.size)
 have ai:Hid (∀ W,Below w4.heap.size w4 W→W.rangeAt P 1 ks∧W.rangeAt fB 0 ts):=fun W hW=>⟨(HH.out.below (up.out W hW)).at_.ks.1,dn (HZ4.out.below hW HZ4.out.lt)⟩
 clear HZ3 HB3 HB2 hin h0
 clear HZ4 HH
 have hC:Below w4.heap.size w4 w4.drew:=below_drewN (Below.refl _ _) 1
 refine wp_region_held_drew (S:=(fun W=>W.rangeAt P 1 ks∧W.rangeAt fB 0 ts)) (by kernel_rfl) (ai.out _ hC) (fun aa=>?_)
 generalize w4.drew=w4d at *
 refine tkq 0 29 aa ?_
 try go_frame
 refine tkq 1 30 aa ?_
 try go_frame
 refine tkq 2 31 aa ?_
 try go_frame
 refine tkh 3 32 (v:=.agg (ks).toArray) rfl aa ?_ (yieldsIf_load_mid (by rfl) 29 (.tmp 31) rfl (P) 1 rfl (ks) _ (fun W h=>h.1) Tryz.underlying29 rfl hi1)
 try go_frame
 refine tkq 4 33 aa ?_
 try go_frame
 refine tkq 5 34 aa ?_
 try go_frame
 refine tkq 6 35 aa ?_
 try go_frame
 refine tkh 8 37 (v:=.agg (ts).toArray) rfl aa ?_ (yieldsIf_load_mid (by rfl) 27 (.tmp 6) rfl (fB) 0 rfl (ts) _ (fun W h=>h.2) Tryz.underlying27 rfl hi2)
 try go_frame
 refine rdq 7 36 fun K hK=>?_
 go_simp
 go_at_call 37
 refine(HRw.out w4d (up.out _ hC)).mono ?_
 rintro e pq ⟨oO,rfl,_,hR,hb⟩
 have qO:Hid (Arg pq (.slice (some ⟨oO,0,none⟩) 72 72) cur):=.inr ⟨oO,0,72,by rw[qM.out],hR.out.lt (by rw[List.length_map,qM.out];omega),by rw[qM.out];omega,hR.out.1⟩
 replace hC:=hC.trans (hb.mono hC.size)
 refine hK.out _ _ (ai.out _ hC) (fun aa=>?_)
 clear hK K hb 
 clear hR
 try go_frame
 refine rdq 9 38 fun K hK=>?_
 go_simp
 go_at_call 53
 have hC0:=hC
 refine(HOp.out pq _ ts (up.out _ hC) qO.out Hts.out).mono ?_
 rintro e rG ⟨g,rfl,hg,HR,hb⟩
 have QM:Hid (Row rG g 5 (plain.map V8)):=HR.out
 have HG:Hid (w.heap.size≤g):=Nat.le_trans (up.out _ hC0).size hg
 replace hC:=hC.trans (hb.mono hC.size)
 replace qO:=ae (qO.out.below hb)
 refine hK.out _ _ (ai.out _ hC) (fun aa=>?_)
 clear hK K hb 
 clear HR hg hC0
 try go_frame
 refine tkq 10 28 aa ?_
 try go_frame
 refine tkq 11 39 aa ?_
 try go_frame
 refine tkq 12 40 aa ?_
 try go_frame
 refine tkq 13 41 aa ?_
 try go_frame
 refine tkq 14 8 aa ?_
 try go_frame
 refine tkq 15 9 aa ?_
 try go_frame
 refine tkq 16 10 aa ?_
 try go_frame
 refine wpAnyH_done (by kernel_rfl) ?_ _
 clear ai aa HOp HRw
 have HC:=ae (up.out _ hC)
 clear hC
 go_wp2
 go_ret2
 exact⟨g,rfl,HG.out,QM,HC.out⟩
theorem CJ {w:World} {P d T:Nat} {ek mk:List UInt8} {s:Bk.Bn} {ks:List Value} {FT G:Nat→Prop} {nx:Value} {S:List Bool} {V:Nat} {D:List Blk} (h:cQ w P d ek mk s ks T FT nx S V) (hD:aG w G d D) (i:Nat) (hi:i<s.n) (hl:D.length=2*s.n) (cur:List UInt8) (mH:cur=Bk.aq D (s.af*s.n+i)) (ES:cur.length=72)
  (hOp:∀ (W:World) (x:Value) (ts:List Value),Below w.heap.size w W→Arg W x cur→Vec 32 (s.tags.getD i []) ts→Calls Tryz.prog 53 #[.agg ks.toArray,IV i,x,.agg ts.toArray] W fun e w'=>e=.returned (.tuple #[.slice none 0 0,.int .u64 0,.int .i64 10])∧Below W.heap.size W w') :
  Calls Tryz.prog 21 #[PT P,IV i] w fun e w'=>e=.returned (.tuple #[.slice none 0 0,.int .i64 10])∧Below w.heap.size w w':=by
 have hkl:=h.kl
 have eU:=h.n100
 have HSz:=ae (gj h)
 have HH:=ae h
 have HGt:=ae (fun W (hW:Below w.heap.size w W)=>Mr.aL.E4 (h.below hW).tree i (by rw[h.tl];exact hi))
 have HRw:=ae (fun W (hW:Below w.heap.size w W)=>qI (h.below hW) (hD.below hW) i hi hl)
 rw[← mH] at HRw
 obtain ⟨tag,rh⟩:∃ t,t=s.tags.getD i []:=⟨_,rfl⟩
 rw[← rh] at HGt hOp
 obtain ⟨n,hn⟩:∃ x,x=s.n:=⟨_,rfl⟩
 rw[← hn] at HSz hi
 have HOp:=ae hOp
 have qM:=ae ES
 have Hin:Hid ((i:Int)<(n:Int)):=by show _<_;omega
 have H0i:Hid (¬ (i:Int)<0):=by show ¬ _;omega
 have hi1:(Tryz.prog.info? 29).map (·.size)=some ks.length:=by rw[hkl];kernel_rfl
 have hz:=Hm.eM
 clear h hD hl mH hOp ES hkl eU rh hn hi
 go_enter Tryz.func21,Tryz.ntmps21
 have hin:=Hin.out
 have h0:=H0i.out
 go_wp2_with fail
 refine HSz.out.mono ?_
 rintro e w1 ⟨rfl,hb1⟩
 have HB1:=ae hb1
 have HG1:=ae (HGt.out w1 hb1)
 have Ii:=(HH.out.below hb1).at_.cells.2.2.2.1
 clear HSz HGt hb1
 go_wp2_with fail
 refine HG1.out.mono ?_
 rintro e w2 ⟨⟨ts,Hts,rfl⟩,hb2⟩
 have HB2:=ae (HB1.out.trans (hb2.mono HB1.out.size))
 have Hsz:Hid (ts.toArray.size=32):=Hts.out.size
 have aN:Hid (ts.toArray.all (·.oneCell')=true):=Hts.out.one
 clear HG1 HB1 hb2 Ii w1
 obtain ⟨w3,hw3⟩:∃ W,W=w2.alloc (.cells Hm.Z32.toArray 27):=⟨_,rfl⟩
 have HZ3:Hid (Row w3 w2.heap.size 27 Hm.Z32):=by rw[hw3];exact Row.new w2 27 Hm.Z32
 have HB3:Hid (Below w.heap.size w w3):=by rw[hw3];exact HB2.out.alloc HB2.out.size _
 have HZ4:=ae (HZ3.out.whole ts)
 have HB4:Hid (Below w.heap.size w (w3.setRow w2.heap.size ts.toArray)):=ag HB3.out HB2.out.size _
 go_wp2_with (rw[← hw3];clear hw3;refine wpList_store_row rfl 27 (.tmp 6) (.tmp 26) rfl w2.heap.size ts.toArray rfl rfl 27 _ HZ3.out (by rw[Hsz.out];kernel_rfl) (by rw[Hsz.out];rfl) aN.out ?_)
 generalize w3.setRow w2.heap.size ts.toArray=w4 at *
 generalize w2.heap.size=fB at *
 have hi2:(Tryz.prog.info? 27).map (·.size)=some ts.length:=by rw[← List.size_toArray,Hsz.out];kernel_rfl
 have up:Hid (∀ W,Below w4.heap.size w4 W→Below w.heap.size w W):=fun W hW=>HB4.out.trans (hW.mono HB4.out.size)
 have ai:Hid (∀ W,Below w4.heap.size w4 W→W.rangeAt P 1 ks∧W.rangeAt fB 0 ts):=fun W hW=>⟨(HH.out.below (up.out W hW)).at_.ks.1,dn (HZ4.out.below hW HZ4.out.lt)⟩
 clear HZ3 HB3 HB2 hin h0
 clear HZ4 HH
 have hC:Below w4.heap.size w4 w4.drew:=below_drewN (Below.refl _ _) 1
 refine wp_region_held_drew (S:=(fun W=>W.rangeAt P 1 ks∧W.rangeAt fB 0 ts)) (by kernel_rfl) (ai.out _ hC) (fun aa=>?_)
 generalize w4.drew=w4d at *
 refine tkq 0 29 aa ?_
 try go_frame
 refine tkq 1 30 aa ?_
 try go_frame
 refine tkq 2 31 aa ?_
 try go_frame
 refine tkh 3 32 (v:=.agg (ks).toArray) rfl aa ?_ (yieldsIf_load_mid (by rfl) 29 (.tmp 31) rfl (P) 1 rfl (ks) _ (fun W h=>h.1) Tryz.underlying29 rfl hi1)
 try go_frame
 refine tkq 4 33 aa ?_
 try go_frame
 refine tkq 5 34 aa ?_
 try go_frame
 refine tkq 6 35 aa ?_
 try go_frame
 refine tkh 8 37 (v:=.agg (ts).toArray) rfl aa ?_ (yieldsIf_load_mid (by rfl) 27 (.tmp 6) rfl (fB) 0 rfl (ts) _ (fun W h=>h.2) Tryz.underlying27 rfl hi2)
 try go_frame
 refine rdq 7 36 fun K hK=>?_
 go_simp
 go_at_call 37
 refine(HRw.out w4d (up.out _ hC)).mono ?_
 rintro e pq ⟨oO,rfl,_,hR,hb⟩
 have qO:Hid (Arg pq (.slice (some ⟨oO,0,none⟩) 72 72) cur):=.inr ⟨oO,0,72,by rw[qM.out],hR.out.lt (by rw[List.length_map,qM.out];omega),by rw[qM.out];omega,hR.out.1⟩
 replace hC:=hC.trans (hb.mono hC.size)
 refine hK.out _ _ (ai.out _ hC) (fun aa=>?_)
 clear hK K hb 
 clear hR
 try go_frame
 refine rdq 9 38 fun K hK=>?_
 go_simp
 go_at_call 53
 refine(HOp.out pq _ ts (up.out _ hC) qO.out Hts.out).mono ?_
 rintro e rG ⟨rfl,hb⟩
 replace hC:=hC.trans (hb.mono hC.size)
 replace qO:=ae (qO.out.below hb)
 refine hK.out _ _ (ai.out _ hC) (fun aa=>?_)
 clear hK K hb 
 try go_frame
 refine tkq 10 28 aa ?_
 try go_frame
 refine tkq 11 39 aa ?_
 try go_frame
 refine tkq 12 40 aa ?_
 try go_frame
 refine tkq 13 41 aa ?_
 try go_frame
 refine tkq 14 8 aa ?_
 try go_frame
 refine tkq 15 9 aa ?_
 try go_frame
 refine tkq 16 10 aa ?_
 try go_frame
 refine wpAnyH_done (by kernel_rfl) ?_ _
 clear ai aa HOp HRw
 have HC:=ae (up.out _ hC)
 clear hC
 go_wp2
 go_ret2
 exact⟨rfl,HC.out⟩
theorem CI {w:World} {P d T:Nat} {ek mk:List UInt8} {s:Bk.Bn} {ks:List Value} {FT:Nat→Prop} {nx:Value} {S:List Bool} {V:Nat} (h:cQ w P d ek mk s ks T FT nx S V) (i:Int) (hi:i<0∨(s.n:Int)≤i) :
  Calls Tryz.prog 21 #[PT P,.int .i64 i] w fun e w'=>e=.returned (.tuple #[.slice none 0 0,.int .i64 1])∧Below w.heap.size w w':=by
 have HSz:=ae (gj h)
 obtain ⟨n,hn⟩:∃ x,x=s.n:=⟨_,rfl⟩
 rw[← hn] at HSz hi
 clear h hn
 by_cases h0:i<0
 ·clear HSz hi
  go_enter Tryz.func21,Tryz.ntmps21
  go_wp2
  go_ret2
  exact⟨rfl,Below.refl _ _⟩
 ·have hni:(n:Int)≤i:=by omega
  clear hi
  go_enter Tryz.func21,Tryz.ntmps21
  go_wp2_with fail
  refine HSz.out.mono ?_
  rintro e w1 ⟨rfl,hb1⟩
  go_wp2
  go_ret2
  exact⟨rfl,hb1⟩
set_option maxRecDepth 512
theorem qo {w:World} {G:Nat→Prop} {d k:Nat} {D:List Blk} (h:aG w G d D) (hk:k<D.length):(Bk.aq D k).length=72:=by
 obtain ⟨g,ps,hW⟩:=h
 have:=(hW.ok k (D[k]'hk) (List.getElem?_eq_getElem hk)).cur
 unfold Bk.aq
 rw[List.getD_eq_getElem?_getD,List.getElem?_eq_getElem hk]
 exact this
theorem sN {w:World} {F G:Nat→Prop} {P d:Nat} {ek mk:List UInt8} {s:Bk.Bn} {D:List Blk} (h:BL w F P d ek mk s) (hD:aG w G d D) (hl:D.length=2*s.n) (hT:Hm.Tab w) (i:Nat) (hi:i<s.n) :
  Calls Tryz.prog 21 #[PT P,IV i] w fun e w'=>∃ v,e=.returned (.tuple #[v,.int .i64 (if (Bk.read ek mk s D i).isSome then 0 else 10)])∧Hid (Own w' w.heap.size 5 v (((Bk.read ek mk s D i).getD []).map V8))∧Below w.heap.size w w':=by
 obtain ⟨ks,T,FT,nx,S,V,hH,_⟩:=h
 have eU:=hH.n100
 have hk:s.af*s.n+i<D.length:=by
  rw[hl]
  rcases(show s.af=0∨s.af=1 by have:=hH.b1;omega) with e | e <;> rw[e] <;> simp <;> omega
 have hc:=qo hD hk
 by_cases he:tg mk i (Bk.aq D (s.af*s.n+i))=s.tags.getD i []
 ·have hr:Bk.read ek mk s D i=some (pl ek i (Bk.aq D (s.af*s.n+i))):=by rw[Bk.read,if_pos he]
  rw[hr]
  refine(FO hH hD i hi hl _ rfl hc (plain:=pl ek i (Bk.aq D (s.af*s.n+i))) (u:=((ver (Bk.aq D (s.af*s.n+i)):Nat):Int)) fun W x ts hW hx hv=>?_).mono ?_
  ·have:=Fw ek mk ks hH.keys (i:Int) _ hc x _ ts hv (by rw[nmN i (by omega)];exact he) W (hT.below hW) hx
   rw[nmN i (by omega)] at this
   exact this
  ·rintro e w' ⟨g,rfl,hg,HR,hb⟩
   have h64:(pl ek i (Bk.aq D (s.af*s.n+i))).length=64:=by rw[BB,hc]
   exact⟨_,rfl,HR.out.own hg (by rw[List.length_map,h64]) (by omega),hb⟩
 ·have hr:Bk.read ek mk s D i=none:=by rw[Bk.read,if_neg he]
  rw[hr]
  refine(CJ hH hD i hi hl _ rfl hc fun W x ts hW hx hv=>?_).mono ?_
  ·exact yQ ek mk ks hH.keys (i:Int) _ hc x _ ts hv (by rw[nmN i (by omega)];exact he) W (hT.below hW) hx
  ·rintro e w' ⟨rfl,hb⟩
   exact⟨_,rfl,Own.nil _ _ _,hb⟩
open Go.RowKit Go.Shelf Aes Ctr Sl Dsk
def kq (x:Value) (n k:Nat):List Value:=List.replicate k x++List.replicate (n - k) nS
theorem DS (x:Value) (n:Nat):kq x n n=List.replicate n x:=by rw[kq,Nat.sub_self];simp
theorem vE {W:World} {g:Nat} {x:Value} {n k m:Nat} (hm:k+m≤n) (hR:Row W g 22 (kq x n k)) :
  Row (W.setCells g k (List.replicate m x)) g 22 (kq x n (k+m))∧W.there g k (List.replicate m x).length:=by
 have e1:kq x n k=List.replicate k x++(List.replicate m nS++List.replicate (n - (k+m)) nS):=by
  rw[kq,List.replicate_append_replicate,show n - k=m+(n - (k+m)) by omega]
 have e2:kq x n (k+m)=List.replicate k x++(List.replicate m x++List.replicate (n - (k+m)) nS):=by
  rw[kq,← List.replicate_append_replicate,List.append_assoc]
 have hl:(kq x n k).length=n:=by rw[kq,List.length_append,List.length_replicate,List.length_replicate];omega
 refine⟨?_,hR.gw _ _ (by rw[hl,List.length_replicate];omega)⟩
 rw[e1] at hR
 rw[e2]
 exact Mr.mq _ _ _ _ _ _ List.length_replicate (by rw[List.length_replicate,List.length_replicate]) hR
set_option maxRecDepth 100000
theorem Nf (n:Nat) (hn:n≤100000) (W:World):(Instr.makeSlice 48 (.int .i64 (n:Int)) (.int .i64 (n:Int))).run Tryz.prog W=.ok (.slice (some ⟨W.heap.size,0,none⟩) n n) (W.alloc (.cells (List.replicate n nS).toArray 22)):=by
 obtain ⟨i,hi,hz0,hz1,hz2⟩:=info_parts Ad
 have:=run_make (P:=Tryz.prog) W 48 22 i nS Tryz.underlying48 hi hz0 .i64 .i64 n n (by omega) (by omega) (by rw[hz2];omega) (by omega)
 rw[Int.toNat_natCast,hz1,Nat.mul_one] at this
 rw[this]
 congr 3
 rw[← toList_madeCells_one]
 rfl
set_option maxRecDepth 512
theorem Jc:(Tryz.prog.info? 22).map (·.size)=some 1:=by kernel_rfl
theorem PU (k:Nat) (A:Option Addr) (n c:Nat):∀ v∈List.replicate k (Value.slice A n c),v.oneCell'=true:=fun v hv=>by rw[List.eq_of_mem_replicate hv];rfl
set_option maxRecDepth 100000
theorem wV (A:Option Addr) (xn xc b n:Nat) (h1:1≤n) (h2:n≤1000) (w:World) (hR:Row w b 22 [.slice A xn xc]):Calls Tryz.prog 34 #[.slice (some ⟨b,0,none⟩) 1 1,IV n] w fun e w' =>
  ∃ g,e=.returned (.slice (some ⟨g,0,none⟩) n n)∧w.heap.size≤g∧Hid (Row w' g 22 (List.replicate n (.slice A xn xc)))∧Below w.heap.size w w':=by
 have hm:=Any.bits_Mul Tryz.El 1 n (by omega) (by omega) w
 change Calls Tryz.prog 71 _ _ _ at hm
 rw[show 1*n / 18446744073709551616=0 by omega,show 1*n % 18446744073709551616=n by omega] at hm
 have hmk:=Nf n (by omega) w
 obtain ⟨x,hx⟩:∃ x,x=Value.slice A xn xc:=⟨_,rfl⟩
 have H1x:Hid (∀ k,∀ v∈List.replicate k x,v.oneCell'=true):=by rw[hx];exact fun k=>PU k A xn xc
 rw[← hx] at hR ⊢
 clear hx
 obtain ⟨g,hg⟩:∃ g,g=w.heap.size:=⟨_,rfl⟩
 obtain ⟨w1,hw1⟩:∃ W,W=w.alloc (.cells (List.replicate n nS).toArray 22):=⟨_,rfl⟩
 have hB1:Below w.heap.size w w1:=by rw[hw1];exact(Below.refl _ _).alloc (Nat.le_refl _) _
 have hR1:Row w1 g 22 (kq x n 0):=by
  rw[hw1,hg,show kq x n 0=List.replicate n nS by rw[kq];simp]
  exact Row.new w 22 (List.replicate n nS)
 have hRb:Row w1 b 22 [x]:=hR.below hB1 hR.lt
 have h11:Nat.min 1 n=1:=Nat.min_eq_left h1
 have hrr:=vE (k:=0) (m:=1) (by omega) hR1
 rw[show List.replicate 1 x=[x] from rfl] at hrr
 have hcp:(Builtin.copy_ #[48,48] 3 #[.slice (some ⟨g,0,none⟩) n n,.slice (some ⟨b,0,none⟩) 1 1]).run Tryz.prog w1=.ok (goInt 1) (w1.setCells g 0 [x]):=by
  have h:=Mr.ic (P:=Tryz.prog) 1 w1 48 48 3 22 g 0 n n ⟨b,0,none⟩ 1 1 [x] Tryz.underlying48 Jc (by rw[h11];rfl) (fun j v hj=>by rw[bD,Nat.zero_add,hRb.cell];exact hj) hrr.2 (H1x.out 1)
  rwa [h11] at h
 obtain ⟨w2,hw2⟩:∃ W,W=w1.setCells g 0 [x]:=⟨_,rfl⟩
 have HR2:Hid (Row w2 g 22 (kq x n 1)):=by
  have:=hrr.1
  rw[Nat.zero_add] at this
  show Row _ _ _ _
  rw[hw2];exact this
 have HB2:Hid (Below w.heap.size w w2):=by
  show RowKit.Below _ _ _
  rw[hw2];exact Mr.dv (by omega) _ 0 hB1
 have Hg:Hid (w.heap.size≤g):=by show _≤_;omega
 rw[← hw1,← hg] at hmk
 have hwu:IntKind.u64.wrap (n:Int)=(n:Int):=by simp [IntKind.wrap,IntKind.bits,IntKind.signed];omega
 have hwi:IntKind.i64.wrap (n:Int)=(n:Int):=by rw[IntKind.wrap_i64];omega
 have hwn:wrap64 (n:Int)=(n:Int):=Mr.w64 _ (by omega)
 clear hR hB1 hR1 hRb hrr hw1 h11 hg
 go_enter Tryz.func34,Tryz.ntmps34
 go_wp2_with (go_at_call 71;refine hm.mono ?_;rintro e w ⟨rfl,rfl⟩;clear hm)
 try rw [← hw2]
 clear hcp hw2 hmk
 go_loopw [8] (fun i wr=>∃ k:Nat,1≤k∧k≤n∧i=IV k∧Hid (Row wr g 22 (kq x n k))∧Hid (RowKit.Below w.heap.size w wr)) (fun i _=>n - (RowKit.intOf i).toNat)
 case atStart=>exact⟨1,Nat.le_refl _,h1,rfl,HR2,HB2⟩
 case round =>
  obtain ⟨k,hk1,hkn,rfl,HR,HB⟩:=hrel
  clear HR2 HB2
  by_cases hlt:k<n
  ·obtain ⟨q,hq⟩:∃ q,n - k=q:=⟨_,rfl⟩
   obtain ⟨m,hm⟩:∃ m,m=Nat.min k q:=⟨_,rfl⟩
   obtain ⟨s,hs⟩:∃ s,s=k+m:=⟨_,rfl⟩
   have KD:m≤k:=by rw[hm];exact Nat.min_le_left _ _
   have hmq:m≤q:=by rw[hm];exact Nat.min_le_right _ _
   have hm1:1≤m:=by rw[hm];exact Nat.le_min.2 ⟨hk1,by omega⟩
   have HCp:Hid (∀ W,RowKit.Below wr.heap.size wr W→(Builtin.copy_ #[48,48] 3 #[.slice (some ⟨g,k,none⟩) q q,.slice (some ⟨g,0,none⟩) k n]).run Tryz.prog W=.ok (.int .i64 (m:Int)) (W.setCells g (k) (List.replicate m x)) ∧
     Row (W.setCells g (k) (List.replicate m x)) g 22 (kq x n s)∧RowKit.Below w.heap.size w (W.setCells g (k) (List.replicate m x))):=fun W hW=>by
    have hRW:=HR.out.below hW HR.out.lt
    have hr:=vE (k:=k) (m:=m) (by omega) hRW
    have h:=Mr.ic (P:=Tryz.prog) 1 W 48 48 3 22 g k q q ⟨g,0,none⟩ k n (List.replicate m x) Tryz.underlying48 Jc (by rw[List.length_replicate,← hm];omega) (fun j v hj=>by
     rw[bD,Nat.zero_add,hRW.cell,kq]
     have hjl:=(List.getElem?_eq_some_iff.1 hj).1
     rw[List.length_replicate] at hjl
     rw[List.getElem?_append_left (by rw[List.length_replicate];omega),List.getElem?_replicate,if_pos (by omega)]
     rw[List.getElem?_replicate,if_pos hjl] at hj
     exact hj) hr.2 (H1x.out m)
    rw[← hm] at h
    rw[hs]
    exact⟨h,hr.1,Mr.dv Hg.out _ _ (HB.out.trans (hW.mono HB.out.size))⟩
   have Hb1:Hid (k≤n∧¬ n=k):=by show _∧_;omega
   have Hb2:Hid ((0:Int)≤(k:Int)∧(k:Int)≤(n:Int)):=by show _∧_;omega
   have LF:Hid ((k:Int)+(m:Int)=(s:Int)):=by show _=_;omega
   have Hsw:Hid (IntKind.i64.wrap (s:Int)=(s:Int)):=by show _=_;rw[IntKind.wrap_i64];omega
   have Hsn:Hid (k<s∧s≤n):=by show _∧_;omega
   have ai:Hid (∀ W,RowKit.Below wr.heap.size wr W→True):=fun _ _=>trivial
   have Hq:=ae hq
   clear hm hs KD hmq hm1 HR HB hq
   go_wp2
   have hC:Below wr.heap.size wr wr.drew:=below_drewN (Below.refl _ _) 1
   refine wp_region_held_drew (S:=(fun _=>True)) (by kernel_rfl) (ai.out _ hC) (fun aa=>?_)
   generalize wr.drew=wrd at *
   refine tkq 0 38 aa ?_
   try go_frame
   refine tkq 1 39 aa ?_
   try go_frame
   refine tkq 2 40 aa ?_
   try go_frame
   refine tkh 3 41 rfl aa ?_ (Or.inl ⟨by rfl,by intro w hSw;have hb1:=Hb1.out.1;have hb3:=Hb1.out.2;have hq:=Hq.out;go_simp;with_reducible rfl⟩)
   try go_frame
   refine tkq 4 42 aa ?_
   try go_frame
   refine tkq 5 43 aa ?_
   try go_frame
   refine tkh 6 44 rfl aa ?_ (Or.inl ⟨by rfl,by intro w hSw;have hb2:=Hb2.out;go_simp;with_reducible rfl⟩)
   try go_frame
   refine rdq 7 45 fun K hK=>?_
   rw[if_pos (by rfl)]
   refine Mr.CW (Mr.nZ rfl rfl rfl (HCp.out _ hC).1) ?_
   have HAf:=ae (HCp.out _ hC).2
   refine hK.out _ _ trivial (fun aa=>?_)
   clear hK K
   generalize (wrd.setCells g (k) (List.replicate m x))=wz at *
   try go_frame
   refine tkh 8 46 rfl aa ?_ (Or.inl ⟨by rfl,by intro w hSw;have hsum:=LF.out;have hsw:=Hsw.out;go_simp;with_reducible rfl⟩)
   try go_frame
   refine tkq 9 8 aa ?_
   try go_frame
   refine wpAnyH_done (by kernel_rfl) ?_ _
   clear hC ai aa HCp
   have Qf:=Hsn.out
   go_wp2
   go_roundw
   case rel=>exact⟨s,by omega,by omega,rfl,HAf.out.1,HAf.out.2⟩
   case measure=>rw[show RowKit.intOf (.int .i64 (s:Int))=(s:Int) from rfl,show RowKit.intOf (.int .i64 (k:Int))=(k:Int) from rfl];omega
  ·obtain rfl:k=n:=by omega
   rw[DS] at HR
   go_wp2
   refine bodyPost_ret (results_tmp rfl _ _ _) rfl ?_
   exact⟨g,rfl,Hg.out,HR,HB.out⟩
end Go.Proofs.YthbmknpbcgnabaaGreatDoor
namespace Go.Proofs.YthbmknpbcgnabaaGreatDoor
open Go.RowKit Aes Ctr Sl Dsk
namespace Bk
def z32:List UInt8:=List.replicate 32 0
def bn0 (n:Nat):Bn:=⟨n,0,1,z32,List.replicate n Mr.Mk.zero,[],0,[]⟩
def begun (n:Nat):Bn:=⟨n,0,1,z32,List.replicate n Mr.Mk.zero,List.replicate n z64,0,[]⟩
theorem jJ:z64.length=64:=List.length_replicate
theorem Cn (n:Nat):bA (bn0 n) (List.replicate n z64)=(begun n,0):=by
 unfold bA
 rw[if_neg (fun h=>h rfl),if_pos ⟨fun x hx=>by rw[List.eq_of_mem_replicate hx,jJ],List.length_replicate⟩]
 rfl
def itS (ek mk:List UInt8) (n:Nat) (D:List Blk):Nat→Bn × List Blk
 | 0=>(begun n,D)
 | j+1=>(step ek mk (itS ek mk n D j).1 (itS ek mk n D j).2).1
section
variable {ek mk:List UInt8} {n:Nat} {D:List Blk}
theorem tX (hn:0<n):∀ j,j≤n→itS ek mk n D j=(⟨n,0,1,z32,List.replicate n Mr.Mk.zero,List.replicate n z64,j,(bw ek mk n 0 1 (fun _=>z64) j D).2⟩,(bw ek mk n 0 1 (fun _=>z64) j D).1)
 | 0,_=>rfl
 | j+1,hj=>by
  rw[itS,tX hn j (by omega),step]
  have hL:List.replicate n z64≠[]:=fun e=>by have:=congrArg List.length e;simp at this;omega
  rw[if_neg hL,if_pos (show j<n by omega)]
  have hg:(List.replicate n z64).getD j []=z64:=by rw[List.getD_eq_getElem?_getD,List.getElem?_replicate,if_pos (by omega)];rfl
  show ((⟨n,0,1,z32,_,_,j+1,_++[(put ek mk n (1 - 1) j (0+1) ((List.replicate n z64).getD j []) _).2]⟩:Bn),(put ek mk n (1 - 1) j (0+1) ((List.replicate n z64).getD j []) _).1)=_
  rw[hg,bw]
theorem su (hn:0<n):itS ek mk n D (n+1)=(⟨n,0,1,z32,List.replicate n Mr.Mk.zero,List.replicate n z64,n+1,(bw ek mk n 0 1 (fun _=>z64) n D).2⟩,flush (bw ek mk n 0 1 (fun _=>z64) n D).1):=by
 have hL:List.replicate n z64≠[]:=fun e=>by have:=congrArg List.length e;simp at this;omega
 rw[itS,tX hn n (Nat.le_refl _),step,if_neg hL,if_neg (Nat.lt_irrefl _),if_pos rfl]
theorem EC (hn:0<n):itS ek mk n D (n+2)=format ek mk n D:=by
 have hL:List.replicate n z64≠[]:=fun e=>by have:=congrArg List.length e;simp at this;omega
 rw[itS,su hn,step,if_neg hL,if_neg (show ¬ n+1<n by omega),if_neg (show ¬ n+1=n by omega)]
 rfl
theorem BP (hn:0<n) (j:Nat) (hj:j≤n+1):(itS ek mk n D j).1.L≠[]∧(itS ek mk n D j).1.n=n∧(itS ek mk n D j).1.ep=0∧(itS ek mk n D j).2.length=D.length:=by
 have hL:List.replicate n z64≠[]:=fun e=>by have:=congrArg List.length e;simp at this;omega
 rcases Nat.lt_or_ge n j with h | h
 ·obtain rfl:j=n+1:=by omega
  rw[su hn]
  exact⟨hL,rfl,rfl,by rw[fI];exact(cC _).1⟩
 ·rw[tX hn j h]
  exact⟨hL,rfl,rfl,(cC _).1⟩
end
end Bk
theorem Tab.chg {w w':World} {X:Nat→Nat→Prop} (h:Hm.Tab w) (hc:Chg X w w') (hn:∀ o,¬ X 0 o):Hm.Tab w':=by
 have hlt:=h.1
 have hs:=hc.block _ hlt hn
 refine⟨?_,fun j u hu=>?_⟩
 ·rw[Array.getElem?_eq_getElem hlt] at hs
  exact(Array.getElem?_eq_some_iff.1 hs).1
 ·rw[← h.2 j u hu]
  exact World.cell?_of_block hs
theorem Jh (n:Nat) (hn:n≤1000000) (W:World):(Instr.makeSlice 22 (.int .i64 (n:Int)) (.int .i64 (n:Int))).run Tryz.prog W=.ok (.slice (some ⟨W.heap.size,0,none⟩) n n) (W.alloc (.cells ((List.replicate n 0).map V8).toArray 5)):=by
 have h:=run_make_row' (P:=Tryz.prog) 22 5 (.int .u8 0) 1 Tryz.underlying22 bK rfl .i64 .i64 n (by omega) (by omega) W
 rw[show madeCells #[Value.int .u8 0] n=((List.replicate n 0).map V8).toArray from by
  unfold madeCells
  apply Array.ext
  ·simp
  ·intro i h1 h2
   simp [V8,Nat.mod_one]] at h
 exact h
set_option maxRecDepth 100000
theorem kO {w:World} {G:Nat→Prop} {d:Nat} {D:List Blk} (ek mk:List UInt8) (ks:List Value) (n:Int) (hD:aG w G d D) (hk:cz ek mk ks) (hr:-9223372036854775808≤n∧n≤9223372036854775807) (hn:n<8∨128<n∨(D.length:Int)≠2*n) :
  Calls Tryz.prog 9 #[PT d,.agg ks.toArray,.int .i64 n] w fun e w'=>e=.returned (.tuple #[.pointer none,.int .i64 1])∧Below w.heap.size w w':=by
 obtain ⟨w0,hw0⟩:∃ w0,w0=w.alloc (.cells ks.toArray 29):=⟨_,rfl⟩
 have HB0:Hid (Below w.heap.size w w0):=by rw[hw0];exact(Below.refl _ _).alloc (Nat.le_refl _) _
 have HF:=ae (jH (hD.below HB0.out) n hr.1 hr.2)
 rw[decide_eq_false (show ¬ (8≤n∧n≤128∧(D.length:Int)=2*n) by omega)] at HF
 have Hzk:Hid (ks.toArray.size=48):=hk.size
 clear hD hk hn hr
 go_enter Tryz.func9,Tryz.ntmps9
 go_wp2_with fail
 rw[← hw0]
 clear hw0
 refine HF.out.mono ?_
 rintro e w1 ⟨rfl,hb⟩
 have HB1:=ae (HB0.out.trans (hb.mono HB0.out.size))
 clear hb HF
 go_wp2
 go_ret2
 exact⟨rfl,HB1.out⟩
theorem qJ {w:World} {G:Nat→Prop} {d:Nat} {D:List Blk} (ek mk:List UInt8) (ks:List Value) (n:Nat) (hD:aG w G d D) (hk:cz ek mk ks) (hn:8≤n∧n≤100) (hl:D.length=2*n) (hT:Hm.Tab w) (hNG:sL G) :
  Calls Tryz.prog 9 #[PT d,.agg ks.toArray,IV n] w fun e w'=>∃ P,e=.returned (.tuple #[PT P,.int .i64 0])∧ji BL w (fun _=>False) G w' P d ek mk (Bk.format ek mk n D).1 (Bk.format ek mk n D).2:=by
 obtain ⟨w0,hw0⟩:∃ w0,w0=w.alloc (.cells ks.toArray 29):=⟨_,rfl⟩
 have HB0:Hid (Below w.heap.size w w0):=by rw[hw0];exact(Below.refl _ _).alloc (Nat.le_refl _) _
 have HX:Hid (Row w0 w.heap.size 29 ks):=by rw[hw0];exact Row.new w 29 ks
 have HF:=ae (jH (hD.below HB0.out) (n:Int) (by omega) (by omega))
 rw[decide_eq_true (show (8≤(n:Int)∧(n:Int)≤128∧(D.length:Int)=2*(n:Int)) by omega)] at HF
 have Hzk:Hid (ks.toArray.size=48):=hk.size
 have hrs:Hid (([.int .u64 0,.int .i64 1,.int .u8 0,.int .u8 0,.int .u8 0,.int .u8 0,.int .u8 0,.int .u8 0,.int .u8 0,.int .u8 0,.int .u8 0,.int .u8 0,.int .u8 0,.int .u8 0,.int .u8 0,.int .u8 0,.int .u8 0,.int .u8 0,.int .u8 0,.int .u8 0,.int .u8 0,.int .u8 0,.int .u8 0,.int .u8 0,.int .u8 0,.int .u8 0,.int .u8 0,.int .u8 0,.int .u8 0,.int .u8 0,.int .u8 0,.int .u8 0,.int .u8 0,.int .u8 0]:List Value)=dL 0 1 Bk.z32):=rfl
 have HNb:=ae (fun W (hW:Below w.heap.size w W)=>mN d ek mk ks hk n hn.1 hn.2 0 1 (Nat.le_refl _) Bk.z32 List.length_replicate _ hrs W (hT.below hW))
 obtain ⟨z,hz⟩:∃ z,z=Bk.z64.map V8:=⟨_,rfl⟩
 have hmk:∀ W:World,(Instr.makeSlice 22 (.int .i64 64) (.int .i64 64)).run Tryz.prog W=.ok (.slice (some ⟨W.heap.size,0,none⟩) 64 64) (W.alloc (.cells z.toArray 5)):=fun W=>by rw[hz,Bk.z64];exact Jh 64 (by omega) W
 have HZ:=ae hz
 clear hz
 have HD:=ae hD
 have HT:=ae hT
 have Hn:=ae hn
 have HDl:=ae hl
 have HNG:=ae hNG
 have hi1:(Tryz.prog.info? 29).map (·.size)=some ks.length:=by rw[hk.vec.len];kernel_rfl
 clear hD hk hn hl hT hrs hNG
 go_enter Tryz.func9,Tryz.ntmps9
 go_wp2_with fail
 rw[← hw0]
 clear hw0
 refine HF.out.mono ?_
 rintro e w1 ⟨rfl,hb⟩
 have HX1:=ae (HX.out.below hb HX.out.lt)
 have HB1:=ae (HB0.out.trans (hb.mono HB0.out.size))
 clear hb HF HB0 HX w0
 go_wp2_with (refine wpList_load_row rfl 29 (.tmp 4) rfl w.heap.size rfl 29 ks.toArray (0,0) _ HX1.out Tryz.underlying29 rfl (by rw[Hzk.out];kernel_rfl) ?_)
 refine(HNb.out w1 HB1.out).mono ?_
 rintro e w2 ⟨P,T,FT,rfl,hH,hFT,hP,hPl,hb⟩
 have HB2:=ae (HB1.out.trans (hb.mono HB1.out.size))
 obtain ⟨F2,hF2⟩:∃ F2:Nat→Prop,F2=fun k=>k=P∨FT k:=⟨_,rfl⟩
 have HL2:Hid (BL w2 F2 P d ek mk (Bk.bn0 n)):=by
  rw[hF2]
  exact⟨ks,T,FT,_,_,_,hH,.inl rfl,fun _ hk=>.inr hk,fun k hk=>hk.elim (fun e=>e ▸ hPl) (Mr.aL.lt hH.tree k),.inl ⟨rfl,rfl⟩⟩
 have HF2:Hid (∀ k,F2 k→w.heap.size≤k):=by
  rw[hF2]
  exact fun k hk=>Nat.le_trans HB1.out.size (hk.elim (fun e=>e ▸ hP) (hFT k))
 clear hF2 hH hFT hP hPl hb HNb HX1 HB1 w1 hi1 Hzk
 obtain ⟨w3,hw3⟩:∃ W,W=(w2.alloc (.cells z.toArray 5)).alloc (.cells #[.slice (some ⟨w2.heap.size,0,none⟩) 64 64] 22):=⟨_,rfl⟩
 have hB3:Below w2.heap.size w2 w3:=by rw[hw3];exact((Below.refl _ _).alloc (Nat.le_refl _) _).alloc (by simp) _
 have hZ3:Row w3 w2.heap.size 5 z:=by rw[hw3];exact(Row.new w2 5 z).alloc _
 have HRp:=ae (wV (some ⟨w2.heap.size,0,none⟩) 64 64 (w2.heap.size+1) n (by have:=Hn.out;omega) (by have:=Hn.out;omega) w3 (by rw[hw3];exact Row.newAt 22 _ (by simp)))
 have HB3:=ae (HB2.out.trans (hB3.mono HB2.out.size))
 have HL3:Hid (BL w3 F2 P d ek mk (Bk.bn0 n)):=HL2.out.stay (Chg.below hB3 fun _ _=>False) fun _ _ _ x=>x
 have HZ3:=ae hZ3
 have HZb:Hid (w.heap.size≤w2.heap.size):=HB2.out.size
 have HZn:Hid (∀ k,F2 k→k<w2.heap.size):=by
  obtain ⟨_,_,_,_,_,_,_,_,_,h,_⟩:=HL2.out
  exact h
 clear hB3 hZ3
 have NF:=hmk w2
 go_wp2_with fail
 rw[← hw3]
 clear hw3
 refine HRp.out.mono ?_
 rintro e w4 ⟨g,rfl,hg,HR4,hb4⟩
 have HPt:Hid (aI w4 (fun k=>w2.heap.size≤k) (.slice (some ⟨g,0,none⟩) n n) (List.replicate n Bk.z64)):=by
  have hZ4:=HZ3.out.below hb4 HZ3.out.lt
  rw[HZ.out] at hZ4
  have hs3:=HZ3.out.lt
  refine .inr ⟨g,0,n,_,by rw[List.length_replicate],HR4.out.lt,by show w2.heap.size≤g;omega,HR4.out.sees,by rw[List.length_replicate,List.length_replicate],fun j u q hu hq=>?_⟩
  rw[List.getElem?_replicate] at hu hq
  split at hu
  ·rename_i hj
   rw[if_pos hj] at hq
   injection hu with hu
   injection hq with hq
   subst hu hq
   exact .inr ⟨w2.heap.size,0,64,rfl,⟨hZ4.lt,Nat.le_refl _⟩,by rw[Bk.jJ];omega,hZ4.sees⟩
  ·cases hu
 have HB4:=ae (HB3.out.trans (hb4.mono HB3.out.size))
 have HL4:Hid (BL w4 F2 P d ek mk (Bk.bn0 n)):=HL3.out.stay (Chg.below hb4 fun _ _=>False) fun _ _ _ x=>x
 have HBg:=ae (l4 HL4.out _ _ _ HPt.out (by show (0:Nat)≤_;omega) (HT.out.below HB4.out) (by rw[List.length_replicate];have:=Hn.out;omega))
 rw[Bk.Cn] at HBg
 clear hg HR4 hb4 HRp HPt HL3 HL2 HZ3 HB3 NF hmk HL4 HZn
 go_wp2_with fail
 refine HBg.out.mono ?_
 rintro e w5 ⟨rfl,F5,hL5,hF5,hC5⟩
 have HI:Hid (∃ F' G',BL w5 F' P d ek mk (Bk.itS ek mk n D 0).1∧aG w5 G' d (Bk.itS ek mk n D 0).2∧(∀ k,F' k→¬ G' k)∧(∀ k,F' k→w.heap.size≤k)∧(∀ k,G' k→G k∨w.heap.size≤k)∧Chg (fun k _=>G k) w w5):=by
  have hC4:Chg (fun k _=>w.heap.size≤k) w4 w5:=hC5.mono fun k _ _ hk=>HF2.out k hk
  refine⟨F5,G,hL5,(HD.out.below HB4.out).stay hC4 fun k _ hk h=>by have:=HD.out.lt k hk;omega,fun k hk hg=>?_,fun k hk=>?_,fun _ hk=>.inl hk,(Chg.below HB4.out _).trans hC4 fun k _ hk h=>by omega⟩
  ·have:=HD.out.lt k hg
   exact(hF5 k hk).elim (fun h=>by have:=HF2.out k h;omega) fun h=>by have:=HB4.out.size;omega
  ·exact(hF5 k hk).elim (HF2.out k) fun h=>Nat.le_trans HB4.out.size h
 have HTl:Hid (0<w.heap.size):=HT.out.1
 clear hL5 hF5 hC5 HBg HF2 HB4 HB2 HZb
 go_wp2
 go_loopg [] (n+2) (fun k wr=>∃ j,j+k=n+2∧Hid (∃ F' G',BL wr F' P d ek mk (Bk.itS ek mk n D j).1∧aG wr G' d (Bk.itS ek mk n D j).2∧(∀ k,F' k→¬ G' k)∧(∀ k,F' k→w.heap.size≤k)∧(∀ k,G' k→G k∨w.heap.size≤k)∧Chg (fun k _=>G k) w wr))
 case atStart=>exact⟨0,by omega,HI⟩
 case round =>
  obtain ⟨j,hjk,HJ⟩:=hrel
  clear HI
  by_cases h0:j≤n+1
  ·obtain ⟨hf1,hf2,hf3,hf4⟩:=Bk.BP (ek:=ek) (mk:=mk) (D:=D) (show 0<n by have:=Hn.out;omega) j h0
   obtain ⟨F',G',hL,hd,hFG,hFw,hGw,hC⟩:=HJ.out
   have HBu:=ae (jI hL)
   rw[decide_eq_true hf1] at HBu
   have HSt:Hid (∀ W,Below wr.heap.size wr W→Calls Tryz.prog 19 #[PT P] W fun e w'=>(∃ x y,e=.returned (.tuple #[.bool x,.int .i64 y]))∧∃ F' G',BL w' F' P d ek mk (Bk.itS ek mk n D (j+1)).1∧aG w' G' d (Bk.itS ek mk n D (j+1)).2∧(∀ k,F' k→¬ G' k)∧(∀ k,F' k→w.heap.size≤k)∧(∀ k,G' k→G k∨w.heap.size≤k)∧Chg (fun k _=>G k) w w'):=fun W hW=>by
    have hCW:=hC.then (Chg.below hW _)
    have hLW:=hL.stay (Chg.below hW fun _ _=>False) fun _ _ _ x=>x
    have hTW:Hm.Tab W:=Tab.chg HT.out hCW fun o hg=>HNG.out _ hg rfl
    refine(nQ hLW (hd.below hW) hFG (by rw[hf4,hf2];exact HDl.out) (by rw[hf3];omega) hTW fun k hk e=>by have:=hFw k hk;have:=HTl.out;omega).mono ?_
    rintro e w' ⟨rfl,F2',G2',hL2,hD2,Qz,QA,Qy,hC2⟩
    refine⟨⟨_,_,rfl⟩,F2',G2',hL2,hD2,Qz,fun k hk=>(QA k hk).elim (hFw k) fun h=>Nat.le_trans hCW.size h,fun k hk=>(Qy k hk).elim (hGw k) fun h=>.inr (Nat.le_trans hCW.size h),hCW.trans hC2 fun k o hk h=>?_⟩
    rcases h with h | h
    ·have:=hFw k h;omega
    ·exact(hGw k h).elim id fun h=>by omega
   clear hL hd hFG hFw hGw hC hf1 hf2 hf3 hf4 HJ
   go_wp2_with fail
   refine HBu.out.mono ?_
   rintro e w6 ⟨rfl,hb6⟩
   have HS6:=ae (HSt.out w6 hb6)
   clear HBu HSt hb6
   go_wp2_with fail
   refine HS6.out.mono ?_
   rintro e w7 ⟨⟨x,y,rfl⟩,hN⟩
   have HN:=ae hN
   clear HS6 hN
   go_wp2
   go_roundg (n+2 - (j+1))
   case rel=>exact⟨j+1,by omega,HN⟩
   case measure=>omega
  ·obtain rfl:j=n+2:=by omega
   rw[Bk.EC (show 0<n by have:=Hn.out;omega)] at HJ
   obtain ⟨F',G',hL,hd,hFG,hFw,hGw,hC⟩:=HJ.out
   have HBu:=ae (jI hL)
   rw[decide_eq_false (show ¬ (Bk.format ek mk n D).1.L≠[] from fun h=>h rfl)] at HBu
   have eT:Hid (∀ W,Below wr.heap.size wr W→ji BL w (fun _=>False) G W P d ek mk (Bk.format ek mk n D).1 (Bk.format ek mk n D).2):=fun W hW =>
    ⟨F',G',hL.stay (Chg.below hW fun _ _=>False) (fun _ _ _ x=>x),hd.below hW,hFG,fun k hk=>.inr (hFw k hk),hGw,(hC.then (Chg.below hW _)).mono fun _ _ _ h=>.inr h⟩
   clear hL hd hFG hFw hGw hC HJ
   go_wp2_with fail
   refine HBu.out.mono ?_
   rintro e w6 ⟨rfl,hb6⟩
   have HE:=ae (eT.out w6 hb6)
   clear HBu eT hb6
   go_wp2
   go_ret2
   exact⟨P,rfl,HE.out⟩
end Go.Proofs.YthbmknpbcgnabaaGreatDoor
