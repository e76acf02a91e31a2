/- Of the walk. -/
import Derived.Laws.EntriesVeiled
import Derived.Test.YthbmknpbcgnabaaGreatDoorB33
set_option maxHeartbeats 40000000
namespace Go.Proofs.YthbmknpbcgnabaaGreatDoor
open Go.RowKit Aes Ctr Sl Dsk
set_option maxRecDepth 100000
theorem zy (v:Value) (bs:List UInt8) (w:World) (hk:bs.length≤1000) (hA:Arg w v bs):Calls Tryz.prog 88 #[v] w fun e w'=>∃ v',e=.returned v'∧Hid (Own w' w.heap.size 5 v' (bs.map V8))∧Below w.heap.size w w':=by
 obtain ⟨A,cap,rfl⟩:=hA.form
 cases A with
 | none =>
  have hn:bs=[]:=by
   rcases hA with ⟨A,_,h⟩ | ⟨b,o,c,h,_⟩
   ·exact h
   ·injection h with h;cases h
  subst hn
  clear hA
  have he:∀ W:World,(binOp .eql 22 (.slice none 0 cap) (.slice none 0 0)).run Tryz.prog W=.ok (.bool true) W:=fun _=>rfl
  rw[List.length_nil]
  go_enter Tryz.func88,Tryz.ntmps88
  go_wp2
  go_ret
  exact⟨_,rfl,Own.nil _ _ _,Below.refl _ _⟩
 | some ad =>
  obtain ⟨w1,hw1⟩:∃ W,W=w.alloc (.cells #[] 5):=⟨_,rfl⟩
  have HFr:Hid (bq w1 (.slice (some ad) bs.length cap) (bs.map V8)):=by rw[hw1];exact(dy hA).alloc _
  have HO:Hid (Own w1 w.heap.size 5 (.slice (some ⟨w.heap.size,0,none⟩) 0 0) []):=by rw[hw1];exact Own.lit w w.heap.size 5 [] (Nat.le_refl _) (Nat.zero_le _)
  have HB:Hid (Below w.heap.size w w1):=by rw[hw1];exact(Below.refl _ _).alloc (Nat.le_refl _) _
  have HLn:Hid (([]:List Value).length+(bs.map V8).length≤100000000):=by show _≤_;simp;omega
  have H1:=ae (bI bs)
  have Hsz:Hid (w.heap.size≤w1.heap.size):=HB.out.size
  obtain ⟨n,hn⟩:∃ n,n=bs.length:=⟨_,rfl⟩
  rw[← hn] at HFr ⊢
  clear hA hk hn
  have he:∀ W:World,(binOp .eql 22 (.slice (some ad) n cap) (.slice none 0 0)).run Tryz.prog W=.ok (.bool false) W:=fun _=>rfl
  go_enter Tryz.func88,Tryz.ntmps88
  go_wp2_with (at_builtin;rw[← hw1];refine aA rfl (.tmp 5) (.tmp 6) 22 rfl w.heap.size 5 Tryz.underlying22 bK rfl (by decide) _ [] rfl HO.out _ (bs.map V8) rfl HFr.out H1.out HLn.out Hsz.out ?_;intro v2 w2 aC hg2 _;rw[List.nil_append] at aC;have HO2:=ae aC;have HB2:Hid (Below w.heap.size w w2):=au HB.out HO.out hg2 (Nat.le_refl _) HB.out.size;clear aC hg2)
  go_ret
  exact⟨v2,rfl,HO2.out,HB2.out⟩
set_option maxRecDepth 512
theorem ox (A:Option Addr) (n c:Nat) (w:World):Calls Tryz.prog 86 #[.slice A n c] w fun e w'=>e=.returned (.bool (decide (n≠64)))∧w'=w:=by
 by_cases h:n=64
 ·subst h
  go_enter Tryz.func86,Tryz.ntmps86
  go_wp2
  go_ret
  exact⟨rfl,rfl⟩
 ·have he:((n:Int) != 64)=true:=bne_iff_ne.2 (by omega)
  rw[decide_eq_true h]
  clear h
  go_enter Tryz.func86,Tryz.ntmps86
  go_wp2
  go_ret
  exact⟨rfl,rfl⟩
theorem aI.at_ {w:World} {K:Nat→Prop} {A:Option Addr} {n cap:Nat} {l:List (List UInt8)} (h:aI w K (.slice A n cap) l) (hn:l.length=n) (hp:0<n) :
  ∃ b o,A=some ⟨b,o,none⟩∧b<w.heap.size∧K b∧∀ j,j<n→∃ A' c,w.cell? ⟨b,o+j,none⟩=some (.slice A' (l.getD j []).length c)∧cW w K (.slice A' (l.getD j []).length c) (l.getD j []):=by
 rcases h with ⟨A',c,e,rfl⟩ | ⟨b,o,c,vs,e,hb,hk,hs,hl,ha⟩
 ·simp at hn;omega
 ·injection e with e1 e2 e3
  refine⟨b,o,e1,hb,hk,fun j hj=>?_⟩
  have hu:=List.getElem?_eq_getElem (show j<vs.length by omega)
  have hq:=List.getElem?_eq_getElem (show j<l.length by omega)
  have hx:=ha j _ _ hu hq
  have he:l.getD j []=l[j]'(by omega):=by rw[List.getD_eq_getElem?_getD,hq];rfl
  obtain ⟨A',c',e'⟩:=hx.arg.form
  rw[e'] at hx hu
  exact⟨A',c',by rw[he];exact hs j _ hu,by rw[he];exact hx⟩
set_option maxRecDepth 100000
theorem ze {w:World} {K:Nat→Prop} {v:Value} {l:List (List UInt8)} (h:aI w K v l) (hl:l.length≤1000) :
  Calls Tryz.prog 120 #[v,.func (.func 86) #[] #[]] w fun e w'=>(∃ r:Int,e=.returned (.int .i64 r)∧-1≤r∧r≤1000∧Hid (0≤r ↔ ¬ ∀ x∈l,x.length=64))∧Below w.heap.size w w':=by
 obtain ⟨A,cap,rfl⟩:=h.form
 obtain ⟨n,hn⟩:∃ n,n=l.length:=⟨_,rfl⟩
 rw[← hn] at h hl ⊢
 have HP:Hid (0<n→_):=fun hp=>h.at_ hn.symm hp
 have HN:=ae hn
 clear h hn
 go_enter Tryz.func120,Tryz.ntmps120
 go_wp2
 go_loopw [5,8] (fun _ i wr=>∃ k:Nat,k≤n∧i=.int .i64 k∧Hid (∀ x∈l.take k,x.length=64)∧Hid (Below w.heap.size w wr)) (fun _ i _=>n - (RowKit.intOf i).toNat)
 case atStart=>exact⟨0,by omega,rfl,by show ∀ x∈l.take 0,_;simp,Below.refl _ _⟩
 case round =>
  obtain ⟨k,hk,rfl,HT,HB⟩:=hrel
  rename World=>w2
  by_cases hlt:k<n
  ·obtain ⟨b,o,rfl,hb,_,hat⟩:=HP.out (by omega)
   obtain ⟨A',c',hc,_⟩:=hat k hlt
   have hc2:w2.cell? ⟨b,o+k,none⟩=_:=(World.cell?_of_block (w:=w) (HB.out.block b hb)).trans hc
   have HS:Hid (l.take (k+1)=l.take k++[l.getD k []]):=by
    show _=_
    rw[List.take_succ_eq_append_getElem (by rw[← HN.out];exact hlt),List.getD_eq_getElem?_getD,List.getElem?_eq_getElem (by rw[← HN.out];exact hlt)];rfl
   have HM:Hid (l.getD k []∈l):=by
    show _∈_
    rw[List.getD_eq_getElem?_getD,List.getElem?_eq_getElem (by rw[← HN.out];exact hlt)];exact List.getElem_mem _
   generalize l.getD k []=q at *
   by_cases hq:q.length=64
   ·have HW:=ae (ox A' q.length c' w2)
    have hd:decide (q.length≠64)=false:=decide_eq_false (fun h=>h hq)
    rw[hd] at HW
    have HT2:Hid (∀ x∈l.take (k+1),x.length=64):=by
     show ∀ x∈_,_
     rw[HS.out]
     intro x hx
     rcases List.mem_append.1 hx with hx | hx
     ·exact HT.out x hx
     ·rw[List.mem_singleton.1 hx];exact hq
    generalize q.length=ql at *
    clear hat hc hd hq HT
    go_wp2_with fail
    refine HW.out.mono ?_
    rintro e w3 ⟨rfl,rfl⟩
    clear HW
    go_wp2
    go_roundw
    case rel=>exact⟨k+1,by omega,by go_num,HT2,HB⟩
    case measure=>simp [RowKit.intOf];omega
   ·have HW:=ae (ox A' q.length c' w2)
    have hd:decide (q.length≠64)=true:=decide_eq_true hq
    rw[hd] at HW
    have HR:Hid (0≤(k:Int) ↔ ¬ ∀ x∈l,x.length=64):=⟨fun _ hx=>hq (hx q HM.out),fun _=>by omega⟩
    generalize q.length=ql at *
    clear hat hc hd hq HT HS HM
    go_wp2_with fail
    refine HW.out.mono ?_
    rintro e w3 ⟨rfl,rfl⟩
    clear HW
    go_wp2
    go_ret
    exact⟨⟨k,rfl,by omega,by omega,HR⟩,HB.out⟩
  ·obtain rfl:k=n:=by omega
   have HR:Hid (0≤(-1:Int) ↔ ¬ ∀ x∈l,x.length=64):=⟨fun h=>by omega,fun h=>absurd (by have:=HT.out;rwa [HN.out,List.take_length] at this) h⟩
   clear HT HP
   go_wp2
   go_ret
   exact⟨⟨-1,rfl,by omega,by omega,HR⟩,HB.out⟩
set_option maxRecDepth 512
theorem rz {w:World} {K:Nat→Prop} {v:Value} {l:List (List UInt8)} (h:aI w K v l) (hl:l.length≤1000) :
  Calls Tryz.prog 87 #[v,.func (.func 86) #[] #[]] w fun e w'=>e=.returned (.bool (decide (¬ ∀ x∈l,x.length=64)))∧Below w.heap.size w w':=by
 have HI:=ae (ze h hl)
 have HD:Hid (∀ r:Int,(0≤r ↔ ¬ ∀ x∈l,x.length=64)→decide (¬ ∀ x∈l,x.length=64)=decide (0≤r)):=fun r hr=>by
  by_cases h0:0≤r
  ·rw[decide_eq_true h0,decide_eq_true (hr.1 h0)]
  ·rw[decide_eq_false h0,decide_eq_false (fun h=>h0 (hr.2 h))]
 generalize decide (¬ ∀ x∈l,x.length=64)=rr at *
 clear h hl
 go_enter Tryz.func87,Tryz.ntmps87
 go_wp2_with fail
 refine HI.out.mono ?_
 rintro e w' ⟨⟨r,rfl,hr1,hr2,HR⟩,hb⟩
 have HX:Hid (rr=decide (0≤r)):=HD.out r HR.out
 clear HI HR HD
 by_cases h0:0≤r
 ·rw[decide_eq_true h0] at HX
  go_wp2
  go_ret
  exact⟨by rw[HX.out];rfl,hb⟩
 ·rw[decide_eq_false h0] at HX
  go_wp2
  go_ret
  exact⟨by rw[HX.out];show Ending.returned (.bool (decide (0≤r)))=_;rw[decide_eq_false (by omega)],hb⟩
theorem qH {w:World} {K:Nat→Prop} {v:Value} {l:List (List UInt8)} (h:aI w K v l) (hl:l.length≤1000) (m:Nat) :
  Calls Tryz.prog 48 #[v,IV m] w fun e w'=>e=.returned (.bool (decide (l.length=m∧∀ x∈l,x.length=64)))∧Below w.heap.size w w':=by
 have HC:=ae (rz h hl)
 obtain ⟨A,cap,rfl⟩:=h.form
 obtain ⟨n,hn⟩:∃ n,n=l.length:=⟨_,rfl⟩
 rw[← hn] at HC ⊢
 clear h hn hl
 by_cases hm:n=m
 ·subst hm
  have hd:decide (n=n∧∀ x∈l,x.length=64) = !decide (¬ ∀ x∈l,x.length=64):=by
   by_cases hh:∀ x∈l,x.length=64
   ·rw[decide_eq_true ⟨rfl,hh⟩,decide_eq_false (fun k=>k hh)];rfl
   ·rw[decide_eq_false (fun k=>hh k.2),decide_eq_true hh];rfl
  rw[hd]
  generalize decide (¬ ∀ x∈l,x.length=64)=r at *
  go_enter Tryz.func48,Tryz.ntmps48
  go_wp2_with fail
  refine HC.out.mono ?_
  rintro e w' ⟨rfl,hb⟩
  clear HC
  go_wp2
  go_ret
  exact⟨rfl,hb⟩
 ·rw[decide_eq_false (fun h=>hm h.1)]
  have he:((n:Int) == (m:Int))=false:=beq_false_of_ne (by omega)
  clear HC hm
  go_enter Tryz.func48,Tryz.ntmps48
  go_wp2
  go_ret
  exact⟨rfl,Below.refl _ _⟩
set_option maxRecDepth 100000
theorem wX {w:World} {K:Nat→Prop} {v:Value} {l:List (List UInt8)} (h:aI w K v l) (hl:l.length≤1000) (h64:∀ x∈l,x.length=64) :
  Calls Tryz.prog 49 #[v] w fun e w'=>(∃ r,e=.returned r∧Hid (aR w.heap.size w.heap.size w' r l))∧Below w.heap.size w w':=by
 obtain ⟨A,cap,rfl⟩:=h.form
 obtain ⟨n,hn⟩:∃ n,n=l.length:=⟨_,rfl⟩
 rw[← hn] at h hl ⊢
 have HP:Hid (0<n→_):=fun hp=>h.at_ hn.symm hp
 have HN:=ae hn
 have H64:=ae h64
 clear h hn h64
 go_enter Tryz.func49,Tryz.ntmps49
 go_wp2
 go_loopw [3,5,8] (fun x _ i wr=>∃ k:Nat,k≤n∧i=.int .i64 k∧Hid (aR w.heap.size w.heap.size wr x (l.take k))∧Hid (Below w.heap.size w wr)) (fun _ _ i _=>n - (RowKit.intOf i).toNat)
 case atStart=>exact⟨0,by omega,rfl,aR.nil _ _ _,Below.refl _ _⟩
 case round =>
  obtain ⟨k,hk,rfl,HR,HB⟩:=hrel
  rename World=>w2
  by_cases hlt:k<n
  ·obtain ⟨b,o,rfl,hb,_,hat⟩:=HP.out (by omega)
   obtain ⟨A',c',hc,ri⟩:=hat k hlt
   have hc2:w2.cell? ⟨b,o+k,none⟩=_:=(World.cell?_of_block (w:=w) (HB.out.block b hb)).trans hc
   have HS:Hid (l.take k++[l.getD k []]=l.take (k+1)):=by
    show _=_
    rw[List.take_succ_eq_append_getElem (by rw[← HN.out];exact hlt),List.getD_eq_getElem?_getD,List.getElem?_eq_getElem (by rw[← HN.out];exact hlt)];rfl
   have Hq:Hid ((l.getD k []).length=64):=H64.out _ (by rw[List.getD_eq_getElem?_getD,List.getElem?_eq_getElem (by rw[← HN.out];exact hlt)];exact List.getElem_mem _)
   have HCl:=ae (zy _ _ w2 (by rw[Hq.out];omega) (ri.arg.below HB.out))
   have HLk:Hid ((l.take k).length≤1000):=by show _≤_;rw[List.length_take];omega
   generalize l.getD k []=q at *
   clear hat hc ri
   go_wp2_with fail
   refine HCl.out.mono ?_
   rintro e w3 ⟨v',rfl,HO,hb3⟩
   obtain ⟨g,gc,hv',hg,hgl,hgc,hgs⟩:=HO.out.cM (by rw[List.length_map,Hq.out];omega)
   rw[List.length_map] at hgc hv'
   subst hv'
   have hsz:=HB.out.size
   obtain ⟨w4,hw4⟩:∃ W,W=w3.alloc (.cells #[.slice (some ⟨g,0,none⟩) q.length gc] 22):=⟨_,rfl⟩
   have hal:Below w3.heap.size w3 w4:=by rw[hw4];exact(Below.refl _ _).alloc (Nat.le_refl _) _
   have HSe:Hid (ah w4 w3.heap.size 0 [.slice (some ⟨g,0,none⟩) q.length gc]):=by rw[hw4];exact(Row.new w3 22 [.slice (some ⟨g,0,none⟩) q.length gc]).sees
   have HR4:=ae ((HR.out.below hb3).below hal)
   have HG4:Hid (g<w4.heap.size∧w.heap.size≤g∧q.length≤gc∧ah w4 g 0 (q.map V8)):=⟨Nat.lt_of_lt_of_le hgl hal.size,by omega,hgc,hgs.below hal hgl⟩
   have Hne:Hid (u3.ownBlock≠some g):=by
    show _≠_
    intro e
    obtain ⟨vs,ho,_⟩:=HR.out
    have:=(ho.lt e).2
    omega
   have HB4:Hid (Below w.heap.size w w4):=HB.out.trans ((hb3.trans (hal.mono hb3.size)).mono hsz)
   have qN:Hid (w.heap.size≤w4.heap.size):=HB4.out.size
   clear HO hg hgl hgc hgs hb3 hal HR HCl hsz
   go_wp2_with (at_builtin;rw[← hw4];clear hw4;refine aX rfl (.tmp 12) (.tmp 15) rfl w.heap.size w.heap.size _ (l.take k) rfl HR4.out w3.heap.size 1 g 0 gc q rfl HSe.out HG4.out.1 HG4.out.2.1 Hne.out HG4.out.2.2.1 HG4.out.2.2.2 HLk.out qN.out ?_;intro v5 w5 HR5 hb5)
   go_roundw
   case rel=>exact⟨k+1,by omega,by go_num,by have:=HR5.out;rw[HS.out] at this;exact this,HB4.out.trans hb5⟩
   case measure=>simp [RowKit.intOf];omega
  ·obtain rfl:k=n:=by omega
   have hr:=HR.out
   rw[HN.out,List.take_length] at hr
   have HR2:=ae hr
   clear HR HP hr
   go_wp2
   go_ret
   exact⟨⟨_,rfl,HR2⟩,HB.out⟩
set_option maxRecDepth 512
def cmC (P n:Nat) (RG:List Value) (Ac:Option Addr) (cc T2:Nat):List Value:=PT P::(RG++[.slice Ac n cc,zI,PT T2])
theorem Ce (P T2 n cc:Nat) (RG:List Value) (Ac:Option Addr) (h:RG.length=34):Tryz.prog.built 117 [(0,PT P),(1,.agg RG.toArray),(2,.slice Ac n cc),(4,PT T2)]=some (cmC P n RG Ac cc T2).toArray:=Fg P T2 RG (.slice Ac n cc) rfl h
set_option maxRecDepth 100000
theorem CK {w:World} {P d T:Nat} {ek mk:List UInt8} {s:Bk.Bn} {ks:List Value} {F FT:Nat→Prop} {nx:Value} {S:List Bool} {V:Nat} (h:cQ w P d ek mk s ks T FT nx S V) (hnx:nx=.nilFunc) (hFP:F P) (hFT:∀ k,FT k→F k) (hFl:∀ k,F k→k<w.heap.size)
  {K:Nat→Prop} {v:Value} {l:List (List UInt8)} (hPt:aI w K v l) (hep:s.ep≤1000000) (hT:Hm.Tab w) (hl:l.length=s.n) (h64:∀ x∈l,x.length=64) :
  Calls Tryz.prog 16 #[PT P,v] w fun e w'=>e=.returned (.int .i64 0)∧∃ F',BL w' F' P d ek mk { s with L:=l,at_:=0,next:=[] }∧(∀ k,F' k→F k∨w.heap.size≤k)∧Chg (fun k _=>F k) w w':=by
 subst hnx
 have eU:=h.n100
 have h8:=h.n8
 have hb1:=h.b1
 have hkl:=h.kl
 obtain ⟨Av,cv,rfl⟩:=hPt.form
 obtain ⟨ep,KJ⟩:∃ x,x=s.ep:=⟨_,rfl⟩
 obtain ⟨af,KO⟩:∃ x,x=s.af:=⟨_,rfl⟩
 obtain ⟨n,hne⟩:∃ x,x=s.n:=⟨_,rfl⟩
 obtain ⟨ep1,oK⟩:∃ x,x=ep+1:=⟨_,rfl⟩
 obtain ⟨bk1,qc⟩:∃ x,x=1 - af:=⟨_,rfl⟩
 obtain ⟨RG,hRG⟩:∃ r:List Value,r=.int .u64 (ep1:Int)::.int .i64 (bk1:Int)::Fq:=⟨_,rfl⟩
 have HRG:=ae hRG
 have HRl:Hid (RG.length=34):=by show _=_;rw[hRG];rfl
 clear hRG
 have ai:Hid (∀ W,Below w.heap.size w W→W.cell? ⟨P,49,none⟩=some (.int .u64 (ep:Int))∧W.cell? ⟨P,50,none⟩=some (IV af)∧W.rangeAt P 1 ks):=fun W hW=>by
  have hc:=(h.below hW).at_.cells
  rw[KJ,KO]
  exact⟨hc.2.1,hc.2.2.1,(h.below hW).at_.ks.1⟩
 have HNx:Hid (∀ W,Below w.heap.size w W→W.cell? ⟨P,84,none⟩=some .nilFunc∧W.frozen? ⟨P,84,none⟩=false):=fun W hW=>⟨(h.below hW).at_.cells.2.2.2.2,(iM (h.below hW).at_).2.2.2⟩
 have HSz:Hid (∀ W,Below w.heap.size w W→Calls Tryz.prog 47 #[PT P] W fun e w'=>e=.returned (IV n)∧Below W.heap.size W w'):=fun W hW=>by rw[hne];exact gj (h.below hW)
 have HBu:=ae (k8 (h.at_.cells.2.2.2.2))
 have LQ:=ae (gj h)
 rw[← hne] at LQ
 have HWh:=ae (fun W (hW:Below w.heap.size w W)=>qH (hPt.below hW) (show l.length≤1000 by omega) n)
 rw[hl,← hne] at HWh
 have hdec:decide (n=n∧∀ x∈l,x.length=64)=true:=decide_eq_true ⟨rfl,h64⟩
 rw[hdec] at HWh
 have HCp:Hid (∀ W,Below w.heap.size w W→Calls Tryz.prog 49 #[.slice Av n cv] W fun e w'=>(∃ A c,e=.returned (.slice A n c)∧Hid (aI w' (fun k=>w.heap.size≤k) (.slice A n c) l))∧Below W.heap.size W w'):=fun W hW=>by
  have hc:=wX (hPt.below hW) (by omega) h64
  rw[hl,← hne] at hc
  refine hc.mono ?_
  rintro e w' ⟨⟨r,rfl,HR⟩,hb⟩
  have hp:=HR.out.zS (Nat.le_refl _)
  obtain ⟨A,c,rfl⟩:=hp.form
  rw[hl,← hne] at hp ⊢
  exact⟨⟨A,c,rfl,hp.imp fun k hk _=>Nat.le_trans hW.size hk⟩,hb⟩
 have HNt:Hid (∀ W,Below w.heap.size w W→Calls Tryz.prog 50 #[.agg ks.toArray,IV n] W fun e w'=>∃ T F,e=.returned (PT T)∧Mr.T9 w' F T mk (List.replicate n Mr.Mk.zero) (List.replicate n false) 0∧(∀ k,F k→W.heap.size≤k)∧Below W.heap.size W w') :=
  fun W hW=>oy ek mk ks h.keys n (by omega) (by omega) W (hT.below hW)
 have eT:Hid (∀ (W:World) (C T2:Nat) (FT2:Nat→Prop) (Ac:Option Addr) (cc N1:Nat),Row W C 117 (cmC P n RG Ac cc T2)→Mr.T9 W FT2 T2 mk (List.replicate n Mr.Mk.zero) (List.replicate n false) 0 →
   aI W (fun k=>w.heap.size≤k∧k<N1) (.slice Ac n cc) l→(∀ k,FT2 k→N1≤k)→(∀ k,FT2 k→k<C)→N1≤C→w.heap.size≤N1→Below w.heap.size w W →
   ∃ F',BL (W.setCell ⟨P,84,none⟩ (wrV C)) F' P d ek mk { s with L:=l,at_:=0,next:=[] }∧(∀ k,F' k→F k∨w.heap.size≤k)∧Chg (fun k _=>F k) w (W.setCell ⟨P,84,none⟩ (wrV C))):=fun W C T2 FT2 Ac cc N1 hR hTr hPW hF1 hF2 hNC hwN hB=>by
  have hP:=hFl P hFP
  have hHW:=h.below hB
  have hsm:=(iM hHW.at_).2.1
  have hc1:Chg (fun k _=>k=P) W (W.setCell ⟨P,84,none⟩ (wrV C)):=(Chg.refl _ W).setCell (p:=⟨P,84,none⟩) rfl (fun _=>rfl) hsm _
  have hCl:=hR.lt
  refine⟨fun k=>F k∨(w.heap.size≤k∧k<W.heap.size),⟨ks,T,FT,wrV C,S,V,?_,.inl hFP,fun k hk=>.inl (hFT k hk),fun k hk=>?_,.inr ⟨C,T2,FT2,fun k=>w.heap.size≤k∧k<N1,List.replicate 32 0,.slice Ac n cc,List.replicate n false,?_,?_,fun hk=>by have:=hFl C (hFT C hk);omega,fun k h1 h2=>by have:=hFl k (hFT k h2);have:=hF1 k h1;omega,.inr ⟨by omega,hCl⟩,fun k hk=>.inr ⟨by have:=hF1 k hk;omega,by have:=hF2 k hk;omega⟩,fun k hk=>.inr ⟨hk.1,by omega⟩⟩⟩,fun k hk=>hk.imp id fun h=>h.1,?_⟩
  ·exact⟨hHW.at_.next hkl h.r32 _,h.keys,Mr.aL.stay hHW.tree hc1 fun k _ hk e=>h.PF (e ▸ hk),h.tl,h.n8,h.r32,h.b1,h.PF⟩
  ·rw[show (W.setCell ⟨P,84,none⟩ (wrV C)).heap.size=W.heap.size by simp [World.setCell]]
   rcases hk with hk | hk
   ·exact Nat.lt_of_lt_of_le (hFl k hk) hB.size
   ·exact hk.2
  ·have hat:gJ W C P ep1 bk1 (List.replicate 32 0) (.slice Ac n cc) 0 T2:=Fh (show aj W C 0 (JC P ep1 bk1 (List.replicate 32 0) (.slice Ac n cc) 0 T2) from by have:=hR.here;rw[cmC,HRG.out] at this;exact this) List.length_replicate
   have Ik:=hat.chg hc1 fun o e=>by omega
   refine⟨?_,List.length_replicate,?_,hPW.chg hc1 fun k _ hk e=>by omega,hl,h64,Nat.zero_le _,(Nat.zero_min _).symm,fun hk=>by have:=hF2 C hk;omega,fun hk=>by have:=hF1 P hk;omega,fun k hk h2=>by have:=hF1 k h2;omega,fun hk=>by omega,fun hk=>by omega,by omega⟩
   ·show gJ _ C P (s.ep+1) (1 - s.af) _ _ (min 0 s.n) T2
    rw[Nat.zero_min,← KJ,← KO,← oK,← qc]
    exact Ik
   ·show Mr.T9 _ FT2 T2 mk ([]++List.replicate (s.n - 0) Mr.Mk.zero) _ 0
    rw[List.nil_append,Nat.sub_zero,← hne]
    exact Mr.aL.stay hTr hc1 fun k _ hk e=>by have:=hF1 k hk;omega
  ·show wrV C=b8 _ C
   unfold b8
   rw[if_pos (show 0<s.n by omega)]
  ·exact(Chg.below hB _).then (hc1.mono fun k _ _ e=>e ▸ hFP)
 have Hm1:Hid (IntKind.u64.wrap ((ep:Int)+1)=(ep1:Int)):=by
  show _=_
  rw[oK,show (ep:Int)+1=((ep+1:Nat):Int) by simp]
  show ((ep+1:Nat):Int) % (2 ^ 64)=_
  omega
 have Hm2:Hid (IntKind.i64.wrap (1 - (af:Int))=(bk1:Int)):=by show _=_;rw[IntWalk.i64_in _ (by omega),qc];omega
 have hi1:(Tryz.prog.info? 29).map (·.size)=some ks.length:=by rw[hkl];kernel_rfl
 have Hn0:Hid (((n:Int) == 0)=false):=beq_false_of_ne (by omega)
 have HNe:=ae hne
 rw[hl,← hne]
 clear h hPt hep hT hl h64 eU h8 hb1 hkl KJ KO hne oK qc hFP hFT hFl
 go_enter Tryz.func16,Tryz.ntmps16
 go_wp2_with fail
 refine HBu.out.mono ?_
 rintro e w1 ⟨rfl,hw⟩
 rw[hw]
 clear hw w1
 go_wp2_with fail
 refine LQ.out.mono ?_
 rintro e w1 ⟨rfl,hb1⟩
 have HB1:=ae hb1
 have h0:=Hn0.out
 clear hb1 HBu LQ
 go_wp2_with fail
 refine(HSz.out _ HB1.out).mono ?_
 rintro e w2 ⟨rfl,hb2⟩
 have HB2:=ae (HB1.out.trans (hb2.mono HB1.out.size))
 clear hb2 HB1
 go_wp2_with fail
 refine(HWh.out _ HB2.out).mono ?_
 rintro e w3 ⟨rfl,hb3⟩
 have HB3:=ae (HB2.out.trans (hb3.mono HB2.out.size))
 clear hb3 HB2 HWh h0 Hn0
 have up:Hid (∀ W,Below w3.heap.size w3 W→Below w.heap.size w W):=fun W hW=>HB3.out.trans (hW.mono HB3.out.size)
 replace ai:=ae (fun W (hW:Below w3.heap.size w3 W)=>ai.out W (up.out W hW))
 replace HNx:=ae (fun W (hW:Below w3.heap.size w3 W)=>HNx.out W (up.out W hW))
 replace HSz:=ae (fun W (hW:Below w3.heap.size w3 W)=>HSz.out W (up.out W hW))
 replace HCp:=ae (fun W (hW:Below w3.heap.size w3 W)=>HCp.out W (up.out W hW))
 replace HNt:=ae (fun W (hW:Below w3.heap.size w3 W)=>HNt.out W (up.out W hW))
 clear HB3
 go_wp2_with fail
 have hC:Below w3.heap.size w3 w3.drew:=below_drewN (Below.refl _ _) 1
 refine wp_region_held_drew (S:=(fun W=>W.cell? ⟨P,49,none⟩=some (.int .u64 (ep:Int))∧W.cell? ⟨P,50,none⟩=some (IV af)∧W.rangeAt P 1 ks)) (by kernel_rfl) (ai.out _ hC) (fun aa=>?_)
 generalize w3.drew=w3d at *
 refine tkq 0 18 aa ?_
 try go_frame
 refine tkq 1 19 aa ?_
 try go_frame
 refine tkq 2 20 aa ?_
 try go_frame
 refine tkq 3 21 aa ?_
 try go_frame
 refine tkq 4 22 aa ?_
 try go_frame
 refine tkh 5 23 rfl aa ?_ (Or.inl ⟨by rfl,by intro w hSw;have hc:=hSw.1;go_simp;with_reducible rfl⟩)
 try go_frame
 refine tkh 6 24 rfl aa ?_ (Or.inl ⟨by rfl,by intro w hSw;have hm:=Hm1.out;go_simp;with_reducible rfl⟩)
 try go_frame
 refine tkq 7 25 aa ?_
 try go_frame
 refine tkq 8 26 aa ?_
 try go_frame
 refine tkq 9 27 aa ?_
 try go_frame
 refine tkq 10 28 aa ?_
 try go_frame
 refine tkh 11 29 rfl aa ?_ (Or.inl ⟨by rfl,by intro w hSw;have hc:=hSw.2.1;go_simp;with_reducible rfl⟩)
 try go_frame
 refine tkh 12 30 rfl aa ?_ (Or.inl ⟨by rfl,by intro w hSw;have hm:=Hm2.out;go_simp;with_reducible rfl⟩)
 try go_frame
 refine tkh 13 31 (v:=.agg (RG).toArray) rfl aa ?_ (gL (by rfl) 41 [(0,.tmp 24),(1,.tmp 30)] rfl [(0,.int .u64 (ep1:Int)),(1,.int .i64 (bk1:Int))] (by rfl) _ (HRG.out ▸ Mv ep1 bk1))
 try go_frame
 refine tkq 14 32 aa ?_
 try go_frame
 refine tkq 16 34 aa ?_
 try go_frame
 refine tkq 17 35 aa ?_
 try go_frame
 refine tkq 18 36 aa ?_
 try go_frame
 refine tkh 19 37 (v:=.agg (ks).toArray) rfl aa ?_ (yieldsIf_load_mid (by rfl) 29 (.tmp 36) rfl (P) 1 rfl (ks) _ (fun W h=>h.2.2) Tryz.underlying29 rfl hi1)
 try go_frame
 refine tkq 20 38 aa ?_
 try go_frame
 refine rdq 15 33 fun K hK=>?_
 go_simp
 go_at_call 49
 refine(HCp.out w3d hC).mono ?_
 rintro e jM ⟨⟨Ac,cc,rfl,hPt⟩,hb⟩
 have zq:Hid (aI jM (fun k=>w.heap.size≤k∧k<jM.heap.size) (.slice Ac n cc) l):=hPt.out.imp fun k h1 h2=>⟨h1,h2⟩
 replace hC:=hC.trans (hb.mono hC.size)
 refine hK.out _ _ (ai.out _ hC) (fun aa=>?_)
 clear hK K hb 
 have HN1:Hid (w.heap.size≤jM.heap.size):=(up.out _ hC).size
 clear hPt
 try go_frame
 refine rdq 21 39 fun K hK=>?_
 go_simp
 go_at_call 47
 refine(HSz.out jM hC).mono ?_
 rintro e rH ⟨rfl,hb⟩
 have HN2:Hid (jM.heap.size≤rH.heap.size):=hb.size
 replace hC:=hC.trans (hb.mono hC.size)
 replace zq:=ae (zq.out.below hb)
 refine hK.out _ _ (ai.out _ hC) (fun aa=>?_)
 clear hK K hb 
 try go_frame
 refine rdq 22 40 fun K hK=>?_
 go_simp
 go_at_call 50
 refine(HNt.out rH hC).mono ?_
 rintro e bE ⟨T2,FT2,rfl,hT,hFT,hb⟩
 have F_T:Hid (Mr.T9 bE FT2 T2 mk (List.replicate n Mr.Mk.zero) (List.replicate n false) 0):=hT
 have KX:Hid (∀ k,FT2 k→jM.heap.size≤k):=fun k hk=>Nat.le_trans HN2.out (hFT k hk)
 have HN3:Hid (jM.heap.size≤bE.heap.size):=Nat.le_trans HN2.out hb.size
 replace hC:=hC.trans (hb.mono hC.size)
 replace zq:=ae (zq.out.below hb)
 refine hK.out _ _ (ai.out _ hC) (fun aa=>?_)
 clear hK K hb 
 clear hT hFT
 try go_frame
 refine tkh 23 41 (v:=.agg (cmC P n RG Ac cc T2).toArray) rfl aa ?_ (gL (by rfl) 117 [(0,.tmp 18),(1,.tmp 31),(2,.tmp 33),(4,.tmp 40)] rfl [(0,PT P),(1,.agg (RG).toArray),(2,.slice Ac n cc),(4,PT T2)] (by rfl) _ (Ce P T2 n cc RG Ac HRl.out))
 try go_frame
 refine rdq 24 42 fun K hK=>?_
 go_simp
 have hb:Below bE.heap.size bE (bE.alloc (.cells (cmC P n RG Ac cc T2).toArray 117)):=Joins.below_alloc1 _ _
 have Ah:=hC.size
 obtain ⟨K8,lC⟩:∃ g,Hid (g=bE.heap.size):=⟨_,rfl⟩
 have Fz:Hid (Row (bE.alloc (.cells (cmC P n RG Ac cc T2).toArray 117)) bE.heap.size 117 (cmC P n RG Ac cc T2)):=Row.new bE 117 _
 have Gh:Hid (∀ k,FT2 k→k<bE.heap.size):=Mr.aL.lt F_T.out
 have F_N:Hid (jM.heap.size≤bE.heap.size):=HN3.out
 replace hC:=hC.trans (hb.mono hC.size)
 replace zq:=ae (zq.out.below hb)
 replace F_T:=ae (Mr.aL.stay F_T.out (Chg.below hb fun _ _=>False) fun _ _ _ x=>x)
 refine hK.out _ _ (ai.out _ hC) (fun aa=>?_)
 clear hK K hb
 generalize (bE.alloc (.cells (cmC P n RG Ac cc T2).toArray 117))=CU at *
 rw[← lC.out] at Ah ⊢
 rw[← lC.out] at Fz
 rw[← lC.out] at Gh
 rw[← lC.out] at F_N
 clear lC
 try go_frame
 refine tkq 25 5 aa ?_
 try go_frame
 refine wpAnyH_done (by kernel_rfl) ?_ _
 clear ai aa HCp HSz HNt
 have HE:=ae (eT.out _ K8 T2 FT2 Ac cc jM.heap.size Fz.out F_T.out zq.out KX.out Gh.out F_N.out HN1.out (up.out _ hC))
 obtain ⟨RH,RD⟩:=HNx.out _ hC
 clear hC eT HNx
 go_wp2
 go_ret
 have HE2:=HE.out
 rw[← HNe.out] at HE2
 exact⟨rfl,HE2⟩
set_option maxRecDepth 512
theorem wY {w:World} {P:Nat} {v:Value} {A:Option Addr} {n cv:Nat} (hv:v=.slice A n cv) (hB:Calls Tryz.prog 29 #[PT P] w fun e w'=>e=.returned (.bool true)∧Below w.heap.size w w') :
  Calls Tryz.prog 16 #[PT P,v] w fun e w'=>e=.returned (.int .i64 12)∧Below w.heap.size w w':=by
 subst hv
 have HB:=ae hB
 clear hB
 go_enter Tryz.func16,Tryz.ntmps16
 go_wp2_with fail
 refine HB.out.mono ?_
 rintro e w' ⟨rfl,hb⟩
 go_wp2
 go_ret
 exact⟨rfl,hb⟩
set_option maxRecDepth 100000
theorem zg {w:World} {P n m cv:Nat} {A:Option Addr} (hn:0<n) (hn2:n≤1000) (hB:Calls Tryz.prog 29 #[PT P] w fun e w'=>e=.returned (.bool false)∧Below w.heap.size w w')
  (hS:∀ W,Below w.heap.size w W→Calls Tryz.prog 47 #[PT P] W fun e w'=>e=.returned (IV n)∧Below W.heap.size W w')
  (hW:∀ W,Below w.heap.size w W→Calls Tryz.prog 48 #[.slice A m cv,IV n] W fun e w'=>e=.returned (.bool false)∧Below W.heap.size W w') :
  Calls Tryz.prog 16 #[PT P,.slice A m cv] w fun e w'=>e=.returned (.int .i64 1)∧Below w.heap.size w w':=by
 have HB:=ae hB
 have HS:=ae hS
 have HW:=ae hW
 have Hn0:Hid (((n:Int) == 0)=false):=beq_false_of_ne (by omega)
 clear hB hS hW hn hn2
 go_enter Tryz.func16,Tryz.ntmps16
 go_wp2_with fail
 refine HB.out.mono ?_
 rintro e w1 ⟨rfl,hb1⟩
 have HB1:=ae hb1
 clear hb1 HB
 go_wp2_with fail
 refine(HS.out _ HB1.out).mono ?_
 rintro e w2 ⟨rfl,hb2⟩
 have HB2:=ae (HB1.out.trans (hb2.mono HB1.out.size))
 have h0:=Hn0.out
 clear hb2 HB1 Hn0
 go_wp2_with fail
 refine(HS.out _ HB2.out).mono ?_
 rintro e w3 ⟨rfl,hb3⟩
 have HB3:=ae (HB2.out.trans (hb3.mono HB2.out.size))
 clear hb3 HB2 HS
 go_wp2_with fail
 refine(HW.out _ HB3.out).mono ?_
 rintro e w4 ⟨rfl,hb4⟩
 have HB4:=ae (HB3.out.trans (hb4.mono HB3.out.size))
 clear hb4 HB3 HW h0
 go_wp2
 go_ret
 exact⟨rfl,HB4.out⟩
set_option maxRecDepth 512
theorem l4 {w:World} {F:Nat→Prop} {P d:Nat} {ek mk:List UInt8} {s:Bk.Bn} (h:BL w F P d ek mk s) (K:Nat→Prop) (v:Value) (l:List (List UInt8)) (hP:aI w K v l) (hep:s.ep≤1000000) (hT:Hm.Tab w) (hl:l.length≤1000) :
  Calls Tryz.prog 16 #[PT P,v] w fun e w'=>e=.returned (.int .i64 ((Bk.bA s l).2:Int))∧∃ F',BL w' F' P d ek mk (Bk.bA s l).1∧(∀ k,F' k→F k∨w.heap.size≤k)∧Chg (fun k _=>F k) w w':=by
 have same:∀ w',Below w.heap.size w w'→∃ F',BL w' F' P d ek mk s∧(∀ k,F' k→F k∨w.heap.size≤k)∧Chg (fun k _=>F k) w w':=fun w' hb=>⟨F,h.stay (Chg.below hb fun _ _=>False) fun _ _ _ x=>x,fun _ hk=>.inl hk,Chg.below hb _⟩
 have Ai:=jI h
 obtain ⟨A,cv,hv⟩:=hP.form
 by_cases hL:s.L=[]
 ·rw[decide_eq_false (fun k=>k hL)] at Ai
  have hb2:=h
  obtain ⟨ks,T,FT,nx,S,V,hH,hFP,hFT,hFl,hc⟩:=hb2
  have h8:=hH.n8
  have mI:=hH.n100
  by_cases hw:(∀ x∈l,x.length=64)∧l.length=s.n
  ·have e:Bk.bA s l=({ s with L:=l,at_:=0,next:=[] },0):=by unfold Bk.bA;rw[if_neg (fun k=>k hL),if_pos hw]
   rw[e]
   rcases hc with ⟨_,hnx⟩ | ⟨C,T2,FT2,KB,rt,bv,S2,hC,_⟩
   ·exact CK hH hnx hFP hFT hFl hP hep hT hw.2 hw.1
   ·exact absurd hL (hC.busy h8)
  ·have e:Bk.bA s l=(s,1):=by unfold Bk.bA;rw[if_neg (fun k=>k hL),if_neg hw]
   rw[e]
   have hwh:∀ W,Below w.heap.size w W→Calls Tryz.prog 48 #[.slice A l.length cv,IV s.n] W fun e w'=>e=.returned (.bool false)∧Below W.heap.size W w':=fun W hW=>by
    have:=qH (hP.below hW) hl s.n
    rw[decide_eq_false (fun k=>hw ⟨k.2,k.1⟩),hv] at this
    exact this
   rw[hv]
   refine(zg (by omega) (by omega) Ai (fun W hW=>gj (hH.below hW)) hwh).mono ?_
   rintro e w' ⟨rfl,hb⟩
   exact⟨rfl,same w' hb⟩
 ·have e:Bk.bA s l=(s,12):=by unfold Bk.bA;rw[if_pos hL]
  rw[decide_eq_true hL] at Ai
  rw[e]
  refine(wY hv Ai).mono ?_
  rintro e w' ⟨rfl,hb⟩
  exact⟨rfl,same w' hb⟩
end Go.Proofs.YthbmknpbcgnabaaGreatDoor
