/- Of the walk. -/
import Derived.Shelf.Abstract
import Derived.Test.YthbmknpbcgnabaaGreatDoorB20
set_option maxHeartbeats 40000000
namespace Go.Proofs.YthbmknpbcgnabaaGreatDoor
open Go.RowKit Dsk
theorem Ca (g:Nat) (ps:Nat→Nat) (i:Nat) (b:Blk):(if b.aK=true then (⟨ps i,0,none⟩:Addr) else ⟨g,i*145,none⟩)=⟨(aq g ps i b).block,(aq g ps i b).off,none⟩:=by unfold aq;split <;> rfl
section
variable {w:World} {F:Nat→Prop} {D g:Nat} {ps:Nat→Nat} {L:List Blk}
theorem bM.current (h:bM w F D g ps L) {i:Nat} {b:Blk} (hb:L[i]? = some b)  (W:World) (hW:W.heap=w.heap):Calls Tryz.prog 64 #[.pointer (some ⟨g,i*145,none⟩)] W fun e w'=>e=.returned (.pointer (some ⟨(aq g ps i b).block,(aq g ps i b).off,none⟩))∧w'=W:=by
 have hpc:=(h.ptr hb).cell (j:=0) rfl
 rw[Nat.add_zero] at hpc
 have:=mS g (i*145) b.aK (ps i) W (by rw[World.cell?_of_block (w:=w) (by rw[hW])];exact hpc)
 rwa [Ca] at this
theorem bM.Iw (h:bM w F D g ps L) {i:Nat} {b:Blk} (hb:L[i]? = some b):(aq g ps i b).block≠g∨(aq g ps i b).off+72≤i*145+73∨i*145+73+72≤(aq g ps i b).off:=by
 unfold aq
 by_cases hd:b.aK=true
 ·rw[if_pos hd];exact .inl (h.apart i b hb hd).2.1
 ·rw[if_neg hd];exact .inr (.inl (by simp))
theorem bM.Le (h:bM w F D g ps L) {i k:Nat} {b c:Blk} (hb:L[i]? = some b) (hc:L[k]? = some c) (hik:i≠k) :
  (aq g ps i b).block≠(aq g ps k c).block∨(aq g ps i b).off+72≤(aq g ps k c).off∨(aq g ps k c).off+72≤(aq g ps i b).off:=by
 unfold aq
 by_cases hd:b.aK=true <;> by_cases hd':c.aK=true
 ·rw[if_pos hd,if_pos hd'];exact .inl fun e=>hik (h.inj i k b c hb hc hd hd' e)
 ·rw[if_pos hd,if_neg hd'];exact .inl (h.apart i b hb hd).2.1
 ·rw[if_neg hd,if_pos hd'];exact .inl fun e=>(h.apart k c hc hd').2.1 e.symm
 ·rw[if_neg hd,if_neg hd']
  exact .inr (by simp only;omega)
end
set_option maxRecDepth 100000
theorem CR {w:World} {F:Nat→Prop} {D:Nat} {L:List Blk} (h:aG w F D L) (i:Int) :
  Calls Tryz.prog 61 #[.pointer (some ⟨D,0,none⟩),.int .i64 i] w fun e w'=>e=.returned (.bool (okB L i))∧After w F w' D (fK L i):=by
 have HA0:=ae h.after
 obtain ⟨g,ps,hD⟩:=h
 cases hg:eQ L i with
 | none =>
  have hok:okB L i=false:=by rw[okB,hg];rfl
  have HE:Hid (After w F w D (fK L i)):=by show After _ _ _ _ _;rw[fK,rJ hg];exact HA0.out
  rw[hok]
  generalize fK L i=L' at *
  have HAt:=ae (o7 hD i (jy hg))
  clear hD hg hok HA0
  go_enter Tryz.func61,Tryz.ntmps61
  go_wp2_with fail
  refine HAt.out.mono ?_
  rintro e w1 ⟨rfl,rfl⟩
  go_wp2
  go_ret
  exact⟨rfl,HE.out⟩
 | some b =>
  obtain ⟨i,rfl,hb⟩:=dM hg
  have hi:=(List.getElem?_eq_some_iff.1 hb).1
  have HAt:=ae (kQ hD i hi)
  have hok:okB L i=true:=by rw[okB,hg];rfl
  have hL:fK L i=L.set i (b.a7 b.past b.cur):=by rw[fK,fP hb,Blk.sG]
  rw[hok,hL]
  have iJ:=hD.ok i b hb
  have qL:=ae (hD.current hb w.drew rfl)
  have hc:aj w.drew (aq g ps i b).block (aq g ps i b).off (b.cur.map V8):=hD.cur hb
  have hp:aj w.drew g (i*145+73) (b.past.map V8):=hD.past hb
  have hEx:=sQ (aq g ps i b).block (aq g ps i b).off g (i*145+73) (b.cur.map V8) (b.past.map V8) w.drew hc hp (dO iJ) (bQ _ 72 iJ.past) (ku _) (ku _) (hD.Iw hb)
  have HEx:Hid (Calls Tryz.prog 101 #[.pointer (some ⟨(aq g ps i b).block,(aq g ps i b).off,none⟩),.pointer (some ⟨g,i*145+73,none⟩)] w.drew fun e w'=>e=.returned (.tuple #[])∧After w F w' D (L.set i (b.a7 b.past b.cur))):=by
   refine hEx.mono ?_
   rintro e w' ⟨rfl,h1,h2,h3⟩
   refine⟨rfl,hD.both (S:=fun k o=>(k=(aq g ps i b).block∧(aq g ps i b).off≤o∧o<(aq g ps i b).off+72)∨(k=g∧i*145+73≤o∧o<i*145+145)) ((Chg.refl _ w).drew.trans h3 fun k o _ hs=>?_) hb _ _ (fun k o hs=>hs) iJ.past iJ.cur h1 h2⟩
   rcases hs with hs | ⟨e,h4,h5⟩
   ·exact .inl hs
   ·exact .inr ⟨e,h4,by omega⟩
  generalize L.set i (b.a7 b.past b.cur)=L' at *
  generalize (aq g ps i b).block=cb at *
  generalize (aq g ps i b).off=co at *
  clear hD hg hok hL HA0 hb hi iJ hc hp hEx
  go_enter Tryz.func61,Tryz.ntmps61
  go_wp2_with fail
  refine HAt.out.mono ?_
  rintro e w1 ⟨rfl,rfl⟩
  go_wp2
  refine wp_region_still_tail 5 (by kernel_rfl) (by kernel_rfl) ?_
  simp only [List.take_succ_cons,List.take_zero,List.drop_succ_cons,List.drop_zero]
  repeat (first
   | still_step
   | (refine wpStill_step (fun K hK=>?_);go_simp;(with_reducible refine⟨_,qL.out,hK _ ?_⟩);clear hK K))
  refine wpStill_nil ?_
  change wpList _ _ _ _ _ w1.drew
  go_wp2_with fail
  refine HEx.out.mono ?_
  rintro e w2 ⟨rfl,h2⟩
  have H2:=ae h2
  clear h2 HEx qL
  go_wp2
  go_ret
  exact⟨rfl,H2.out⟩
theorem CQ {w:World} {F:Nat→Prop} {D:Nat} {L:List Blk} (h:aG w F D L) (i k:Int) :
  Calls Tryz.prog 59 #[.pointer (some ⟨D,0,none⟩),.int .i64 i,.int .i64 k] w fun e w'=>e=.returned (.bool (okS L i k))∧After w F w' D (cF L i k):=by
 have HA0:=ae h.after
 obtain ⟨g,ps,hD⟩:=h
 have hAt:∀ j,Calls Tryz.prog 63 #[.pointer (some ⟨D,0,none⟩),.int .i64 j] w fun e w'=>e=.returned (.pointer (match eQ L j with | some _=>some ⟨g,j.toNat*145,none⟩ | none=>none))∧w'=w:=fun j=>by
  cases hj:eQ L j with
  | none=>exact o7 hD j (jy hj)
  | some b =>
   obtain ⟨j,rfl,hb⟩:=dM hj
   exact kQ hD j (List.getElem?_eq_some_iff.1 hb).1
 have HI:=ae (hAt i)
 have HK:=ae (hAt k)
 clear hAt
 cases hg:eQ L i with
 | none =>
  have hok:okS L i k=false:=by rw[okS,hg];rfl
  have HE:Hid (After w F w D (cF L i k)):=by show After _ _ _ _ _;rw[cF,hg];exact HA0.out
  rw[hok]
  generalize cF L i k=L' at *
  rw[hg] at HI
  clear hD hg hok HA0
  generalize (match eQ L k with | some _=>some (⟨g,k.toNat*145,none⟩:Addr) | none=>none)=pk at *
  go_enter Tryz.func59,Tryz.ntmps59
  go_wp2_with fail
  refine HI.out.mono ?_
  rintro e w1 ⟨rfl,rfl⟩
  go_wp2_with fail
  refine HK.out.mono ?_
  rintro e w1 ⟨rfl,rfl⟩
  go_wp2
  go_ret
  exact⟨rfl,HE.out⟩
 | some b =>
  rw[hg] at HI
  cases hgk:eQ L k with
  | none =>
   have hok:okS L i k=false:=by rw[okS,hgk];simp
   have HE:Hid (After w F w D (cF L i k)):=by show After _ _ _ _ _;rw[cF,hg,hgk];exact HA0.out
   rw[hok]
   generalize cF L i k=L' at *
   rw[hgk] at HK
   clear hD hg hok hgk HA0
   go_enter Tryz.func59,Tryz.ntmps59
   go_wp2_with fail
   refine HI.out.mono ?_
   rintro e w1 ⟨rfl,rfl⟩
   go_wp2_with fail
   refine HK.out.mono ?_
   rintro e w1 ⟨rfl,rfl⟩
   go_wp2
   go_ret
   exact⟨rfl,HE.out⟩
  | some c =>
   rw[hgk] at HK
   by_cases hik:i=k
   ·have hok:okS L i k=false:=by rw[okS,decide_eq_false (p:=i≠k) (by simp [hik])];simp
    have HE:Hid (After w F w D (cF L i k)):=by show After _ _ _ _ _;rw[cF,hg,hgk];simp only;rw[if_pos hik];exact HA0.out
    rw[hok]
    generalize cF L i k=L' at *
    clear hD hg hok hgk HA0 HK
    subst hik
    go_enter Tryz.func59,Tryz.ntmps59
    go_wp2_with fail
    refine HI.out.mono ?_
    rintro e w1 ⟨rfl,rfl⟩
    go_wp2_with fail
    refine HI.out.mono ?_
    rintro e w1 ⟨rfl,rfl⟩
    go_wp2
    go_ret
    exact⟨rfl,HE.out⟩
   ·have hok:okS L i k=true:=by rw[okS,hg,hgk,decide_eq_true (p:=i≠k) hik];rfl
    have hsw:cF L i k=(L.set i.toNat (b.setCur c.cur)).set k.toNat (c.setCur b.cur):=by rw[cF,hg,hgk];simp only;rw[if_neg hik]
    rw[hok,hsw]
    obtain ⟨i,rfl,hb⟩:=dM hg
    obtain ⟨k,rfl,hc⟩:=dM hgk
    have BS:i≠k:=fun e=>hik (by rw[e])
    have hB:((i:Int) == (k:Int))=false:=by rw[beq_eq_false_iff_ne];omega
    simp only [Int.toNat_natCast] at HI HK ⊢
    have hi:=(List.getElem?_eq_some_iff.1 hb).1
    have hk:=(List.getElem?_eq_some_iff.1 hc).1
    have hob:=hD.ok i b hb
    have hoc:=hD.ok k c hc
    have HC1:=ae (hD.current hb w rfl)
    have HC2:=ae (hD.current hc w rfl)
    have hEx:=sQ (aq g ps i b).block (aq g ps i b).off (aq g ps k c).block (aq g ps k c).off (b.cur.map V8) (c.cur.map V8) w (hD.cur hb) (hD.cur hc) (dO hob) (dO hoc) (ku _) (ku _) (hD.Le hb hc BS)
    have HEx:Hid (Calls Tryz.prog 101 #[.pointer (some ⟨(aq g ps i b).block,(aq g ps i b).off,none⟩),.pointer (some ⟨(aq g ps k c).block,(aq g ps k c).off,none⟩)] w fun e w'=>e=.returned (.tuple #[])∧After w F w' D ((L.set i (b.setCur c.cur)).set k (c.setCur b.cur))):=by
     refine hEx.mono ?_
     rintro e w' ⟨rfl,h1,h2,h3⟩
     refine⟨rfl,?_⟩
     have hS:∀ (m:Nat) (d:Blk),L[m]? = some d→∀ k' o,(k'=(aq g ps m d).block∧(aq g ps m d).off≤o∧o<(aq g ps m d).off+72)→(k'=g∧d.aK=false∧m*145≤o∧o<m*145+72)∨(d.aK=true∧k'=ps m):=fun m d hm k' o hs=>by
      unfold aq at hs
      by_cases hd:d.aK=true
      ·rw[if_pos hd] at hs;exact .inr ⟨hd,hs.1⟩
      ·rw[if_neg hd] at hs;exact .inl ⟨hs.1,by simpa using hd,hs.2.1,hs.2.2⟩
     have rj:∀ (m:Nat) (d:Blk),L[m]? = some d→∀ o,(∀ (h1:d.aK=false),¬ (m*145≤o∧o<m*145+72))→¬ (g=(aq g ps m d).block∧(aq g ps m d).off≤o∧o<(aq g ps m d).off+72):=fun m d hm o hn hs=>by
      rcases hS m d hm g o hs with ⟨_,hd,h4⟩ | ⟨hd,e⟩
      ·exact hn hd h4
      ·exact(hD.apart m d hm hd).2.1 e.symm
     have Jo:∀ (m:Nat) (d:Blk),L[m]? = some d→aj w' g (m*145+73) (d.past.map V8):=fun m d hm=>(hD.past hm).chg h3 fun j hj hs=>by
      rw[bQ _ 72 (hD.ok m d hm).past] at hj
      rcases hs with hs | hs
      ·exact rj i b hb _ (fun _ h=>by omega) hs
      ·exact rj k c hc _ (fun _ h=>by omega) hs
     obtain ⟨r1,r2⟩:=hD.tH h3 hb c.cur b.past (fun hs=>by
       rcases hs with hs | hs
       ·exact rj i b hb _ (fun _ h=>by omega) hs
       ·exact rj k c hc _ (fun _ h=>by omega) hs) (fun hd o ho hs=>by
       rcases hs with hs | hs
       ·exact rj i b hb _ (fun h=>by rw[hd] at h;cases h) hs
       ·exact rj k c hc _ (fun _ h=>by omega) hs) hoc.cur h1 (Jo i b hb)
     obtain ⟨s1,s2⟩:=hD.tH h3 hc b.cur c.past (fun hs=>by
       rcases hs with hs | hs
       ·exact rj i b hb _ (fun _ h=>by omega) hs
       ·exact rj k c hc _ (fun _ h=>by omega) hs) (fun hd o ho hs=>by
       rcases hs with hs | hs
       ·exact rj i b hb _ (fun _ h=>by omega) hs
       ·exact rj k c hc _ (fun h=>by rw[hd] at h;cases h) hs) hob.cur h2 (Jo k c hc)
     refine⟨F,⟨g,ps,hD.update (L':=(L.set i (b.setCur c.cur)).set k (c.setCur b.cur)) h3 (fun m=>m=i∨m=k) (fun k' o hs=>?_) (by simp) (fun m hm=>⟨?_,rfl⟩) (fun m d hm hd=>?_) (fun m n d d' hm hn hd hd' q1 q2 q4 e=>?_) (fun _ h=>h) (fun k' h=>Nat.lt_of_lt_of_le (hD.lt k' h) h3.size)⟩,fun k' h=>.inl h,h3.mono fun k' o _ hs=>?_⟩
     ·rcases hs with hs | hs
      ·rcases hS i b hb k' o hs with ⟨e,_,h4,h5⟩ | ⟨hd,e⟩
       ·exact .inl ⟨e,i,.inl rfl,h4,by omega⟩
       ·exact .inr ⟨i,b,.inl rfl,hb,hd,e⟩
      ·rcases hS k c hc k' o hs with ⟨e,_,h4,h5⟩ | ⟨hd,e⟩
       ·exact .inl ⟨e,k,.inr rfl,h4,by omega⟩
       ·exact .inr ⟨k,c,.inr rfl,hc,hd,e⟩
     ·rw[List.getElem?_set_ne (fun e=>hm (.inr e.symm)),List.getElem?_set_ne (fun e=>hm (.inl e.symm))]
     ·rcases hm with rfl | rfl
      ·rw[List.getElem?_set_ne (fun e=>BS e.symm),List.getElem?_set_self hi] at hd
       injection hd with hd
       subst hd
       rw[Blk.eB]
       exact⟨Blk.jO hob hoc.cur hob.past,r1,fun hd=>⟨r2 hd,.inl ⟨rfl,b,hb,by rw[Blk.dB] at hd;exact hd⟩⟩⟩
      ·rw[List.getElem?_set_self (by simp;exact hk)] at hd
       injection hd with hd
       subst hd
       rw[Blk.eB]
       exact⟨Blk.jO hoc hob.cur hoc.past,s1,fun hd=>⟨s2 hd,.inl ⟨rfl,c,hc,by rw[Blk.dB] at hd;exact hd⟩⟩⟩
     ·have hlt:ps m<w.heap.size:=by
       rcases hm with rfl | rfl
       ·rw[List.getElem?_set_ne (fun e=>BS e.symm),List.getElem?_set_self hi] at hd
        injection hd with hd
        rw[← hd,Blk.eB,Blk.dB] at q1
        exact hD.lt _ (hD.apart _ b hb q1).2.2
       ·rw[List.getElem?_set_self (by simp;exact hk)] at hd
        injection hd with hd
        rw[← hd,Blk.eB,Blk.dB] at q1
        exact hD.lt _ (hD.apart _ c hc q1).2.2
      omega
     ·rcases hs with hs | hs
      ·rcases hS i b hb k' o hs with ⟨e,_⟩ | ⟨hd,e⟩
       ·rw[e];exact hD.fg
       ·rw[e];exact(hD.apart i b hb hd).2.2
      ·rcases hS k c hc k' o hs with ⟨e,_⟩ | ⟨hd,e⟩
       ·rw[e];exact hD.fg
       ·rw[e];exact(hD.apart k c hc hd).2.2
    generalize (L.set i (b.setCur c.cur)).set k (c.setCur b.cur)=L' at *
    generalize (aq g ps i b).block=cb at *
    generalize (aq g ps i b).off=co at *
    generalize (aq g ps k c).block=db at *
    generalize (aq g ps k c).off=do' at *
    clear hD hg hok hgk HA0 hsw hb hc hi hk hob hoc hEx hik
    go_enter Tryz.func59,Tryz.ntmps59
    go_wp2_with fail
    refine HI.out.mono ?_
    rintro e w1 ⟨rfl,rfl⟩
    go_wp2_with fail
    refine HK.out.mono ?_
    rintro e w1 ⟨rfl,rfl⟩
    go_wp2_with fail
    refine HC1.out.mono ?_
    rintro e w1 ⟨rfl,rfl⟩
    go_wp2_with fail
    refine HC2.out.mono ?_
    rintro e w1 ⟨rfl,rfl⟩
    go_wp2_with fail
    refine HEx.out.mono ?_
    rintro e w2 ⟨rfl,h2⟩
    have H2:=ae h2
    clear h2 HEx
    go_wp2
    go_ret
    exact⟨rfl,H2.out⟩
set_option maxRecDepth 512
def Zb:List Value:=List.replicate 72 (.int .u8 0)++.pointer none::List.replicate 72 (.int .u8 0)
theorem nI:Zb.length=145:=by simp [Zb]
theorem Fs (p:Nat):Zb=gW Blk.zero p:=by
 unfold Zb gW Blk.zero z72
 rw[List.map_replicate]
 rfl
theorem Hb:(Tryz.prog.info? 182).map (fun i=>(i.zero,i.size,i.bytes))=some (some (.agg Zb.toArray),145,152):=by kernel_rfl
theorem GZ (n:Nat) (hn:n≤512) (w:World):(Instr.makeSlice 82 (.int .i64 (n:Int)) (.int .i64 (n:Int))).run Tryz.prog w=.ok (.slice (some ⟨w.heap.size,0,none⟩) n n) (w.alloc (.cells (madeCells Zb.toArray (n*145)) 182)):=by
 obtain ⟨i,hi,h⟩:=Option.map_eq_some_iff.1 Hb
 simp only [Prod.mk.injEq] at h
 have:=run_make (P:=Tryz.prog) w 82 182 i _ Tryz.underlying82 hi h.1 .i64 .i64 n n (by omega) (Int.le_refl _) (by rw[h.2.2];omega) (by omega)
 rw[h.2.1] at this
 exact this
theorem Et (w:World) (n i:Nat) (hi:i<n) (p:Nat):aj (w.alloc (.cells (madeCells Zb.toArray (n*145)) 182)) w.heap.size (i*145) (gW Blk.zero p):=by
 have h0:=(Row.new w 182 (madeCells Zb.toArray (n*145)).toList).here
 rw[Array.toArray_toList] at h0
 have h1:=h0.part (i*145) 145
 rw[Nat.zero_add] at h1
 have e:((madeCells Zb.toArray (n*145)).toList.drop (i*145)).take 145=gW Blk.zero p:=by
  rw[← Fs p]
  apply List.ext_getElem?
  intro j
  rw[List.getElem?_take]
  by_cases hj:j<145
  ·rw[if_pos hj,List.getElem?_drop,Array.getElem?_toList,madeCells,Array.getElem?_map,Array.getElem?_range,if_pos (by omega),Option.map_some]
   have hs:Zb.toArray.size=145:=by rw[List.size_toArray,nI]
   rw[hs,show (i*145+j) % 145=j by omega,List.getElem?_eq_getElem (by rw[nI];exact hj)]
   rw[getElem!_pos Zb.toArray j (by rw[hs];exact hj)]
   rfl
  ·rw[if_neg hj,List.getElem?_eq_none (by rw[nI];omega)]
 rw[e] at h1
 exact h1
set_option maxRecDepth 100000
theorem qU (n:Nat) (h1:1≤n) (h2:n≤512) (w:World) :
  Calls Tryz.prog 8 #[.int .i64 n] w fun e w'=>∃ D F,e=.returned (.tuple #[.pointer (some ⟨D,0,none⟩),.int .i64 0])∧aG w' F D (List.replicate n Blk.zero)∧(∀ k,F k→w.heap.size≤k)∧Below w.heap.size w w':=by
 have hmk:=GZ n h2
 have HF:Hid (∀ w',w'=(w.alloc (.cells (madeCells Zb.toArray (n*145)) 182)).alloc (.cells #[.slice (some ⟨w.heap.size,0,none⟩) n n] 84)→aG w' (fun k=>w.heap.size≤k∧k<w.heap.size+2) (w.heap.size+1) (List.replicate n Blk.zero)∧Below w.heap.size w w'):=by
  rintro w' rfl
  have hz:∀ (i:Nat) (b:Blk),(List.replicate n Blk.zero)[i]? = some b→b=Blk.zero∧i<n:=fun i b hb=>by
   rw[List.getElem?_replicate] at hb
   split at hb
   ·injection hb with hb;exact⟨hb.symm,by assumption⟩
   ·cases hb
  constructor
  ·refine⟨w.heap.size,fun _=>0,?_,fun i b hb=>?_,fun i b hb hd=>?_,fun i b hb=>?_,fun i j b c hb _ hd=>?_,fun i b hb hd=>?_,by omega,⟨by omega,by omega⟩,⟨by omega,by omega⟩,fun k hk=>by simp;exact hk.2,by simp;omega⟩
   ·have:=(Row.newAt (w:=w.alloc (.cells (madeCells Zb.toArray (n*145)) 182)) 84 [.slice (some ⟨w.heap.size,0,none⟩) n n] (by simp)).here (g:=w.heap.size+1)
    rwa [List.length_replicate]
   ·obtain ⟨rfl,hi⟩:=hz i b hb
    exact(Et w n i hi 0).alloc _
   ·obtain ⟨rfl,hi⟩:=hz i b hb;cases hd
   ·obtain ⟨rfl,hi⟩:=hz i b hb;exact Blk.zz
   ·obtain ⟨rfl,hi⟩:=hz i b hb;cases hd
   ·obtain ⟨rfl,hi⟩:=hz i b hb;cases hd
  ·exact((Below.refl _ _).alloc (Nat.le_refl _) _).alloc (by simp) _
 generalize List.replicate n Blk.zero=L at *
 generalize madeCells Zb.toArray (n*145)=mc at *
 go_enter Tryz.func8,Tryz.ntmps8
 go_wp2
 go_ret2
 obtain ⟨h3,h4⟩:=HF.out _ rfl
 exact⟨_,_,rfl,h3,fun k hk=>hk.1,h4⟩
theorem nR (k:FuncId) (Ol:Array Value) (D g n:Nat) (hn:n≤512) (aK:Nat→Bool) (ps:Nat→Nat) (J:Nat→World→Prop) (w:World)
  (hEn:∀ (args:Array Value) (W:World),(callFunc k args).run Tryz.prog W=.ok (.enter k args) W)
  (hB:Calls Tryz.prog 70 #[.pointer (some ⟨D,0,none⟩)] w fun e w'=>e=.returned (.int .i64 n)∧w'=w)
  (hAt:∀ (i:Nat) W,i<n→J i W→Calls Tryz.prog 63 #[.pointer (some ⟨D,0,none⟩),.int .i64 i] W fun e w'=>e=.returned (.pointer (some ⟨g,i*145,none⟩))∧w'=W)
  (N6:∀ (i:Nat) W,i<n→J i W→W.cell? ⟨g,i*145+72,none⟩=some (.pointer (if aK i then some ⟨ps i,0,none⟩ else none)))
  (hDo:∀ (i:Nat) W,i<n→J i W→aK i=true→Calls Tryz.prog k (#[.pointer (some ⟨g,i*145,none⟩)]++Ol) W fun e w'=>e=.returned (.tuple #[])∧J (i+1) w')
  (Jw:∀ (i:Nat) W,i<n→J i W→aK i=false→J (i+1) W) (h0:J 0 w) :
  Calls Tryz.prog 65 #[.pointer (some ⟨D,0,none⟩),.func (.func k) #[] Ol] w fun e w'=>e=.returned (.tuple #[])∧J n w':=by
 have HB:=ae hB
 have HAt:=ae hAt
 have HP:=ae N6
 have HDo:=ae hDo
 have HS:=ae Jw
 have H0:=ae h0
 clear hB hAt N6 hDo Jw h0
 go_enter Tryz.func65,Tryz.ntmps65
 go_wp2_with fail
 refine HB.out.mono ?_
 rintro e w1 ⟨rfl,rfl⟩
 clear HB
 go_wp2
 go_loopw [8] (fun i wr=>∃ m:Nat,m≤n∧i=.int .i64 m∧Hid (J m wr)) (fun i _=>n - (intOf i).toNat)
 case atStart=>exact⟨0,by omega,rfl,H0⟩
 case round =>
  obtain ⟨m,hm,rfl,HJ⟩:=hrel
  clear H0
  by_cases hlt:m<n
  ·have HA:=ae (HAt.out m wr hlt HJ.out)
   have hp:=HP.out m wr hlt HJ.out
   by_cases hd:aK m=true
   ·have HD:=ae (HDo.out m wr hlt HJ.out hd)
    rw[hd,if_pos rfl] at hp
    clear hd HAt HP HDo HS
    go_wp2_with fail
    refine HA.out.mono ?_
    rintro e w2 ⟨rfl,rfl⟩
    go_wp2_with fail
    refine HD.out.mono ?_
    rintro e w3 ⟨rfl,hJ3⟩
    have HJ3:=ae hJ3
    clear hJ3 HD HJ hp HA
    go_wp2
    go_roundw
    case rel=>exact⟨m+1,by omega,by go_num,HJ3⟩
    case measure=>simp [intOf];omega
   ·have hd':aK m=false:=by simpa using hd
    have HJ':=ae (HS.out m wr hlt HJ.out hd')
    rw[if_neg hd] at hp
    clear hd hd' HAt HP HDo HS HJ
    go_wp2_with fail
    refine HA.out.mono ?_
    rintro e w2 ⟨rfl,rfl⟩
    go_wp2_with fail
    go_roundw
    case rel=>exact⟨m+1,by omega,by go_num,HJ'⟩
    case measure=>simp [intOf];omega
  ·obtain rfl:m=n:=by omega
   go_wp2
   go_end0
   exact⟨rfl,HJ.out⟩
section
variable {w w':World} {F:Nat→Prop} {D g:Nat} {ps:Nat→Nat} {L:List Blk} {S:Nat→Nat→Prop}
set_option maxRecDepth 512
theorem bM.settled (h:bM w F D g ps L) (hc:Chg S w w') {i:Nat} {b:Blk} (hb:L[i]? = some b) (k:Bool)
  (hS:∀ c o,c<w.heap.size→F c→S c o→c=g∧i*145≤o∧o<i*145+73)
  (h1:aj w' g (i*145+72) [.pointer none]) (h2:aj w' g (i*145) (if k then b.cur.map V8 else b.dur.map V8)) :
  bM w' F D g ps (L.set i (b.settle k)):=by
 have hok:=h.ok i b hb
 have hc':Chg (fun c o=>(c=g∧i*145≤o∧o<i*145+73)∨¬ F c) w w':=hc.mono fun c o hl hs=>by
  by_cases hf:F c
  ·exact .inl (hS c o hl hf hs)
  ·exact .inr hf
 have hi:=(List.getElem?_eq_some_iff.1 hb).1
 have hgo:∀ j,73≤j→j<145→¬ ((g=g∧i*145≤i*145+j∧i*145+j<i*145+73)∨¬ F g):=fun j hj _ hs=>by
  rcases hs with hs | hs
  ·omega
  ·exact hs h.fg
 have KA:∀ (m:Nat) (c:Blk),L[m]? = some c→m≠i→aj w' g (m*145) (gW c (ps m)):=fun m c hm hne=>(h.row m c hm).chg hc' fun j hj hs=>by
  rw[lB (h.ok m c hm)] at hj
  rcases hs with hs | hs
  ·omega
  ·exact hs h.fg
 have BU:∀ (m:Nat) (c:Blk),(L.set i (b.settle k))[m]? = some c→(m=i∧c=b.settle k)∨(m≠i∧L[m]? = some c):=fun m c hm=>by
  by_cases e:m=i
  ·subst e
   rw[List.getElem?_set_self hi] at hm
   injection hm with hm
   exact .inl ⟨rfl,hm.symm⟩
  ·rw[List.getElem?_set_ne (fun e'=>e e'.symm)] at hm
   exact .inr ⟨e,hm⟩
 refine⟨?_,fun m c hm=>?_,fun m c hm hd=>?_,fun m c hm=>?_,fun m n c d hm hn hd hd' e=>?_,fun m c hm hd=>?_,h.dg,h.fD,h.fg,fun c hf=>Nat.lt_of_lt_of_le (h.lt c hf) hc.size,by simp;exact h.few⟩
 ·rw[List.length_set]
  exact h.head.chg hc' fun j _ hs=>by
   rcases hs with hs | hs
   ·exact h.dg hs.1
   ·exact hs h.fD
 ·rcases BU m c hm with ⟨rfl,rfl⟩ | ⟨hne,hm⟩
  ·have e1:((b.settle k).dur.map V8).length=72:=bQ _ 72 (Blk.rV hok k).dur
   refine aj.append ?_ ?_
   ·show aj w' g (m*145) ((if k then b.cur else b.dur).map V8)
    cases k
    ·exact h2
    ·exact h2
   ·rw[e1]
    have h3:aj w' g (m*145+73) (b.past.map V8):=(h.past hb).chg hc' fun j hj hs=>by
     rw[bQ _ 72 hok.past] at hj
     exact hgo (73+j) (by omega) (by omega) (by rw[show m*145+(73+j)=m*145+73+j by omega];exact hs)
    exact h1.append h3
  ·exact KA m c hm hne
 ·rcases BU m c hm with ⟨rfl,rfl⟩ | ⟨hne,hm⟩
  ·cases hd
  ·refine(h.wr m c hm hd).chg hc' fun j _ hs=>?_
   have ha:=h.apart m c hm hd
   rcases hs with hs | hs
   ·exact ha.2.1 hs.1
   ·exact hs ha.2.2
 ·rcases BU m c hm with ⟨rfl,rfl⟩ | ⟨hne,hm⟩
  ·exact Blk.rV hok k
  ·exact h.ok m c hm
 ·rcases BU m c hm with ⟨rfl,rfl⟩ | ⟨_,hm⟩
  ·cases hd
  ·rcases BU n d hn with ⟨rfl,rfl⟩ | ⟨_,hn⟩
   ·cases hd'
   ·exact h.inj m n c d hm hn hd hd' e
 ·rcases BU m c hm with ⟨rfl,rfl⟩ | ⟨_,hm⟩
  ·cases hd
  ·exact h.apart m c hm hd
end
theorem xu (g o p:Nat) (cs ds:List Value) (w:World)
  (hp:aj w g (o+72) [.pointer (some ⟨p,0,none⟩)]) (hc:aj w p 0 cs) (hd:aj w g o ds)
  (l1:cs.length=72) (l2:ds.length=72) (c1:cs.toArray.all (·.oneCell')=true) :
  Calls Tryz.prog 142 #[.pointer (some ⟨g,o,none⟩)] w fun e w'=>e=.returned (.tuple #[]) ∧
   aj w' g (o+72) [.pointer none]∧aj w' g o cs∧Chg (fun b j=>b=g∧o≤j∧j<o+73) w w':=by
 have HS:=ae (oC g o p true cs ds w hp hc hd l1 l2 c1)
 clear hp hc hd l1 l2 c1
 go_enter Tryz.func142,Tryz.ntmps142
 go_wp2_with fail
 refine HS.out.mono ?_
 rintro e w1 ⟨rfl,h1,h2,h3⟩
 have HE:Hid (_∧_∧_):=⟨h1,h2,h3⟩
 clear h1 h2 h3 HS
 go_wp2
 go_end0
 exact⟨rfl,HE.out⟩
set_option maxRecDepth 512
theorem AG {w:World} {b off:Nat} {l:List Bool} (h:ah w b off (l.map Value.bool)) (i:Nat) (hi:i<l.length):w.cell? ⟨b,off+i,none⟩=some (.bool (l.getD i false)) :=
 h.at_ (by rw[List.getElem?_map,List.getElem?_eq_getElem hi];simp [hi])
set_option maxRecDepth 100000
theorem xy (g o p pc kc m:Nat) (A:Option Addr) (nk cap:Nat) (bs:List Bool) (hnk:bs.length=nk) (hm:m≤512) (cs ds:List Value) (w:World)
  (hp:aj w g (o+72) [.pointer (some ⟨p,0,none⟩)]) (hc:aj w p 0 cs) (hd:aj w g o ds)
  (l1:cs.length=72) (l2:ds.length=72) (c1:cs.toArray.all (·.oneCell')=true)
  (hpl:aj w pc 0 [.int .i64 m]) (hkc:aj w kc 0 [.slice A nk cap]) (hk:bq w (.slice A nk cap) (bs.map Value.bool)) (hpg:pc≠g) :
  Calls Tryz.prog 66 #[.pointer (some ⟨g,o,none⟩),.pointer (some ⟨pc,0,none⟩),.pointer (some ⟨kc,0,none⟩)] w fun e w'=>e=.returned (.tuple #[]) ∧
   aj w' g (o+72) [.pointer none]∧aj w' g o (if bs.getD m false then cs else ds)∧aj w' pc 0 [.int .i64 ((m+1:Nat):Int)]∧Chg (fun b j=>(b=g∧o≤j∧j<o+73)∨b=pc) w w':=by
 have HS:Hid (∀ k,Calls Tryz.prog 67 #[.pointer (some ⟨g,o,none⟩),.bool k] w fun e w'=>e=.returned (.tuple #[]) ∧
   aj w' g (o+72) [.pointer none]∧aj w' g o (if k then cs else ds)∧aj w' pc 0 [.int .i64 m]∧Chg (fun b j=>(b=g∧o≤j∧j<o+73)∨b=pc) w w'):=fun k=>by
  refine(oC g o p k cs ds w hp hc hd l1 l2 c1).mono ?_
  rintro e w' ⟨rfl,h1,h2,h3⟩
  exact⟨rfl,h1,h2,hpl.chg h3 fun j _ hs=>hpg hs.1,h3.mono fun b j _ hs=>.inl hs⟩
 have c1:=hpl.head (j:=0) rfl
 have c2:=hkc.head (j:=0) rfl
 have HPG:=ae hpg
 have HK:=ae hk
 have HN:=ae hnk
 clear hp hc hd l1 l2 hpl hkc hk hpg hnk
 have fin:∀ (k:Bool) (w1:World),(aj w1 g (o+72) [.pointer none]∧aj w1 g o (if k then cs else ds)∧aj w1 pc 0 [.int .i64 m]∧Chg (fun b j=>(b=g∧o≤j∧j<o+73)∨b=pc) w w1) →
   (w1.cell? ⟨pc,0,none⟩=some (.int .i64 m)∧w1.frozen? ⟨pc,0,none⟩=false)∧Hid (aj (w1.setCell ⟨pc,0,none⟩ (.int .i64 ((m:Int)+1))) g (o+72) [.pointer none]∧aj (w1.setCell ⟨pc,0,none⟩ (.int .i64 ((m:Int)+1))) g o (if k then cs else ds)∧aj (w1.setCell ⟨pc,0,none⟩ (.int .i64 ((m:Int)+1))) pc 0 [.int .i64 ((m+1:Nat):Int)]∧Chg (fun b j=>(b=g∧o≤j∧j<o+73)∨b=pc) w (w1.setCell ⟨pc,0,none⟩ (.int .i64 ((m:Int)+1)))):=by
  rintro k w1 ⟨h1,h2,h3,h4⟩
  refine⟨⟨h3.head (j:=0) rfl,h3.bJ (j:=0) (by simp)⟩,h1.eC (fun e=>HPG.out e.symm) _,h2.eC (fun e=>HPG.out e.symm) _,?_,h4.setCell rfl (fun _=>.inr rfl) (by rw[h3.head (j:=0) rfl];rfl) _⟩
  have:=h3.put 0 (by simp) (.int .i64 ((m:Int)+1))
  exact this
 have rB:=ae fin
 clear fin
 go_enter Tryz.func66,Tryz.ntmps66
 by_cases hlt:m<nk
 ·obtain ⟨A',cap',hA,hs⟩:=HK.out.parts
  injection hA with hA1 hA2 hA3
  subst hA1
  obtain ⟨bb,bo,rfl,hbl,cd⟩:=hs (by rw[List.length_map,HN.out];omega)
  have hcell:=AG cd m (by rw[HN.out];exact hlt)
  generalize bs.getD m false=k at *
  clear hA2 hA3 hs cd hbl HK HN
  cases k
  all_goals
   go_wp2_with fail
   refine(HS.out _).mono ?_
   rintro e w1 ⟨rfl,h1⟩
   obtain ⟨⟨hc1,hf1⟩,HE⟩:=rB.out _ w1 h1
   clear h1 HS rB c1 c2 hcell
   go_wp2
   go_end0
   exact⟨rfl,HE.out⟩
 ·have hg:bs.getD m false=false:=by rw[List.getD_eq_getElem?_getD,List.getElem?_eq_none (by rw[HN.out];omega)];rfl
  rw[hg]
  clear HK HN hg
  go_wp2_with fail
  refine(HS.out false).mono ?_
  rintro e w1 ⟨rfl,h1⟩
  obtain ⟨⟨hc1,hf1⟩,HE⟩:=rB.out false w1 h1
  clear h1 HS rB c1 c2
  go_wp2
  go_end0
  exact⟨rfl,HE.out⟩
theorem xw (ptr:Value) (mc m:Nat) (hm:m≤512) (w:World) (h:aj w mc 0 [.int .i64 m]) :
  Calls Tryz.prog 98 #[ptr,.pointer (some ⟨mc,0,none⟩)] w fun e w'=>e=.returned (.tuple #[])∧aj w' mc 0 [.int .i64 ((m+1:Nat):Int)]∧Chg (fun b _=>b=mc) w w':=by
 have hc:=h.head (j:=0) rfl
 have hf:=h.bJ (j:=0) (by simp)
 have HE:Hid (aj (w.setCell ⟨mc,0,none⟩ (.int .i64 ((m:Int)+1))) mc 0 [.int .i64 ((m+1:Nat):Int)]∧Chg (fun b _=>b=mc) w (w.setCell ⟨mc,0,none⟩ (.int .i64 ((m:Int)+1)))):=by
  refine⟨?_,(Chg.refl _ w).setCell rfl (fun _=>rfl) (by rw[hc];rfl) _⟩
  have:=h.put 0 (by simp) (.int .i64 ((m:Int)+1))
  exact this
 clear h
 go_enter Tryz.func98,Tryz.ntmps98
 go_wp2
 go_end0
 exact⟨rfl,HE.out⟩
set_option maxRecDepth 512
theorem Chg.toBelow {S:Nat→Nat→Prop} {w w':World} (h:Chg S w w') (hS:∀ b o,b<w.heap.size→¬ S b o):Below w.heap.size w w' :=
 ⟨h.os,h.tape,h.output,h.size,fun k hk=>h.block k hk fun o=>hS k o hk⟩
def kX (L:List Blk) (i:Nat):Bool:=match L[i]? with
 | some b=>b.aK
 | none=>false
theorem dY {L:List Blk} {i:Nat} {b:Blk} (h:L[i]? = some b):kX L i=b.aK:=by rw[kX,h]
theorem Iv (args:Array Value) (W:World):(callFunc 142 args).run Tryz.prog W=.ok (.enter 142 args) W:=Go.Proofs.enters_of Tryz.func142 (by kernel_rfl) rfl args W
theorem Iu (args:Array Value) (W:World):(callFunc 66 args).run Tryz.prog W=.ok (.enter 66 args) W:=Go.Proofs.enters_of Tryz.func66 (by kernel_rfl) rfl args W
theorem Ir (args:Array Value) (W:World):(callFunc 98 args).run Tryz.prog W=.ok (.enter 98 args) W:=Go.Proofs.enters_of Tryz.func98 (by kernel_rfl) rfl args W
section
variable {w:World} {F:Nat→Prop} {D g:Nat} {ps:Nat→Nat} {L:List Blk}
theorem bM.uq (h:bM w F D g ps L) (M:List Blk) (i:Nat) (hi:i<L.length) (hM:L[i]? = M[i]?):w.cell? ⟨g,i*145+72,none⟩=some (.pointer (if kX M i then some ⟨ps i,0,none⟩ else none)):=by
 obtain ⟨b,hb⟩:∃ b,L[i]? = some b:=⟨_,List.getElem?_eq_getElem hi⟩
 have:=(h.ptr hb).cell (j:=0) rfl
 rw[Nat.add_zero] at this
 rw[dY (hM ▸ hb)]
 exact this
end
set_option maxRecDepth 100000
theorem zu {w:World} {F:Nat→Prop} {D:Nat} {L:List Blk} (h:aG w F D L) :
  Calls Tryz.prog 123 #[.pointer (some ⟨D,0,none⟩)] w fun e w'=>e=.returned (.tuple #[])∧After w F w' D (cV (fun _=>true) L):=by
 obtain ⟨g,ps,hD⟩:=h
 have HE:Hid (Calls Tryz.prog 65 #[.pointer (some ⟨D,0,none⟩),.func (.func 142) #[] #[]] w fun e w'=>e=.returned (.tuple #[])∧After w F w' D (cV (fun _=>true) L)):=by
  refine(nR 142 #[] D g L.length hD.few (kX L) ps (fun i W=>bM W F D g ps (dE (fun _=>true) L i)∧Chg (fun k _=>F k) w W) w Iv (fA hD) ?_ ?_ ?_ ?_ ?_).mono ?_
  ·rintro i W hi ⟨hW,_⟩
   exact kQ hW i (by rw[bN];exact hi)
  ·rintro i W hi ⟨hW,_⟩
   exact hW.uq L i (by rw[bN];exact hi) (gh _ _ _)
  ·rintro i W hi ⟨hW,hX⟩ hd
   obtain ⟨b,hb⟩:∃ b,L[i]? = some b:=⟨_,List.getElem?_eq_getElem hi⟩
   rw[dY hb] at hd
   have hb':(dE (fun _=>true) L i)[i]? = some b:=by rw[gh];exact hb
   have hok:=hW.ok i b hb'
   have hp:=hW.ptr hb'
   rw[hd,if_pos rfl] at hp
   refine(xu g (i*145) (ps i) (b.cur.map V8) (b.dur.map V8) W hp (hW.wr i b hb' hd) (hW.dur hb') (dO hok) (bQ _ 72 hok.dur) (ku _)).mono ?_
   rintro e w' ⟨rfl,h1,h2,h3⟩
   refine⟨rfl,?_,hX.trans h3 fun c o _ hs=>by rw[hs.1];exact hW.fg⟩
   rw[iq _ L hb]
   exact hW.settled h3 hb' true (fun c o _ _ hs=>hs) h1 h2
  ·rintro i W hi ⟨hW,hX⟩ hd
   obtain ⟨b,hb⟩:∃ b,L[i]? = some b:=⟨_,List.getElem?_eq_getElem hi⟩
   rw[dY hb] at hd
   rw[jU _ L hb hd]
   exact⟨hW,hX⟩
  ·rw[jT]
   exact⟨hD,Chg.refl _ _⟩
  ·rintro e w' ⟨rfl,hW,hX⟩
   exact⟨rfl,F,⟨g,ps,hW⟩,fun k hk=>.inl hk,hX⟩
 generalize cV (fun _=>true) L=L' at *
 clear hD
 go_enter Tryz.func123,Tryz.ntmps123
 go_wp2_with fail
 refine HE.out.mono ?_
 rintro e w1 ⟨rfl,h1⟩
 have H1:=ae h1
 clear h1 HE
 go_wp2
 go_end0
 exact⟨rfl,H1.out⟩
theorem zw {w:World} {F:Nat→Prop} {D:Nat} {L:List Blk} (h:aG w F D L) (A:Option Addr) (nk cap:Nat) (bs:List Bool) (hnk:bs.length=nk) (hk:bq w (.slice A nk cap) (bs.map Value.bool))
  (hkF:∀ b o,A=some ⟨b,o,none⟩→0<nk→¬ F b) :
  Calls Tryz.prog 30 #[.pointer (some ⟨D,0,none⟩),.slice A nk cap] w fun e w'=>e=.returned (.tuple #[])∧After w F w' D (cV (fun n=>bs.getD n false) L):=by
 obtain ⟨g,ps,hD⟩:=h
 obtain ⟨w2,hw2⟩:∃ w2,w2=(w.alloc (.cells #[.slice A nk cap] 49)).alloc (.cells #[.int .i64 0] 3):=⟨_,rfl⟩
 have hB2:Below w.heap.size w w2:=by
  rw[hw2]
  exact((Below.refl _ _).alloc (Nat.le_refl _) _).alloc (by simp) _
 have hs2:w2.heap.size=w.heap.size+2:=by rw[hw2];simp
 have hkc:aj w2 w.heap.size 0 [.slice A nk cap]:=by
  rw[hw2]
  exact(Row.new w 49 [.slice A nk cap]).here.alloc _
 have hpc:aj w2 (w.heap.size+1) 0 [.int .i64 0]:=by
  rw[hw2]
  exact(Row.newAt (w:=w.alloc (.cells #[.slice A nk cap] 49)) 3 [.int .i64 0] (by simp)).here (g:=w.heap.size+1)
 have hD2:bM w2 F D g ps L:=hD.stay (Chg.below hB2 fun _ _=>False) fun _ _ _ x=>x
 have hk2:bq w2 (.slice A nk cap) (bs.map Value.bool):=hk.below hB2
 have vZ:=hD.lt
 have HE:Hid (Calls Tryz.prog 65 #[.pointer (some ⟨D,0,none⟩),.func (.func 66) #[] #[.pointer (some ⟨w.heap.size+1,0,none⟩),.pointer (some ⟨w.heap.size,0,none⟩)]] w2 fun e w'=>e=.returned (.tuple #[])∧After w F w' D (cV (fun n=>bs.getD n false) L)):=by
  refine(nR 66 #[.pointer (some ⟨w.heap.size+1,0,none⟩),.pointer (some ⟨w.heap.size,0,none⟩)] D g L.length hD.few (kX L) ps
   (fun i W=>bM W F D g ps (dE (fun n=>bs.getD n false) L i)∧aj W (w.heap.size+1) 0 [.int .i64 (cnt (L.take i):Nat)]∧Chg (fun k _=>F k∨k=w.heap.size+1) w2 W) w2 Iu (fA hD2) ?_ ?_ ?_ ?_ ?_).mono ?_
  ·rintro i W hi ⟨hW,_⟩
   exact kQ hW i (by rw[bN];exact hi)
  ·rintro i W hi ⟨hW,_⟩
   exact hW.uq L i (by rw[bN];exact hi) (gh _ _ _)
  ·rintro i W hi ⟨hW,hP,hX⟩ hd
   obtain ⟨b,hb⟩:∃ b,L[i]? = some b:=⟨_,List.getElem?_eq_getElem hi⟩
   rw[dY hb] at hd
   have hb':(dE (fun n=>bs.getD n false) L i)[i]? = some b:=by rw[gh];exact hb
   have hok:=hW.ok i b hb'
   have hp:=hW.ptr hb'
   rw[hd,if_pos rfl] at hp
   have hkW:bq W (.slice A nk cap) (bs.map Value.bool):=by
    rcases hk2 with h | ⟨b1,o1,c1,e,hl,hs⟩
    ·exact .inl h
    ·refine .inr ⟨b1,o1,c1,e,Nat.lt_of_lt_of_le hl hX.size,fun j u hu=>?_⟩
     injection e with e1 _ _
     rw[hX.cell b1 _ hl (fun hs'=>?_)]
     ·exact hs j u hu
     ·rcases hs' with hf | rfl
      ·exact hkF b1 o1 e1 (by have hj:=(List.getElem?_eq_some_iff.1 hu).1;rw[List.length_map,hnk] at hj;omega) hf
      ·have h1:=hs j u hu
       have h2:=hpc.2 0 (by simp)
       -- the slice lay there ahead of the call
       rcases hk with ⟨A',e',_⟩ | ⟨b2,o2,c2,e',hl2,_⟩
       ·injection e' with _ e2 _
        rw[← hnk] at e2
        have:bs=[]:=List.eq_nil_of_length_eq_zero e2
        rw[this] at hu;simp at hu
       ·injection e' with e3 _ _
        rw[e1] at e3
        injection e3 with e3
        injection e3 with e3 _
        omega
   refine(xy g (i*145) (ps i) (w.heap.size+1) w.heap.size (cnt (L.take i)) A nk cap bs hnk (Nat.le_trans (kF L i) hD.few) (b.cur.map V8) (b.dur.map V8) W hp (hW.wr i b hb' hd) (hW.dur hb') (dO hok) (bQ _ 72 hok.dur) (ku _) hP
    (hkc.chg hX fun j _ hs=>by
     rcases hs with hs | hs
     ·have:=vZ _ hs;omega
     ·omega) hkW (fun e=>by have:=vZ _ hW.fg;omega)).mono ?_
   rintro e w' ⟨rfl,h1,h2,h3,h4⟩
   refine⟨rfl,?_,?_,hX.trans h4 fun c o _ hs=>?_⟩
   ·rw[iq _ L hb]
    exact hW.settled h4 hb' _ (fun c o _ hf hs=>by
     rcases hs with hs | hs
     ·exact hs
     ·have:=vZ _ hf;omega) h1 h2
   ·rw[jA hb,hd,if_pos rfl];exact h3
   ·rcases hs with hs | hs
    ·exact .inl (by rw[hs.1];exact hW.fg)
    ·exact .inr hs
  ·rintro i W hi ⟨hW,hP,hX⟩ hd
   obtain ⟨b,hb⟩:∃ b,L[i]? = some b:=⟨_,List.getElem?_eq_getElem hi⟩
   rw[dY hb] at hd
   rw[jU _ L hb hd]
   refine⟨hW,?_,hX⟩
   rw[jA hb,hd];exact hP
  ·rw[jT]
   exact⟨hD2,hpc,Chg.refl _ _⟩
  ·rintro e w' ⟨rfl,hW,_,hX⟩
   refine⟨rfl,F,⟨g,ps,hW⟩,fun k hk=>.inl hk,((Chg.below hB2 fun k _=>F k).trans hX fun k o hl hs=>?_)⟩
   rcases hs with hs | hs
   ·exact hs
   ·omega
 have HW2:=ae hw2
 generalize cV (fun n=>bs.getD n false) L=L' at *
 clear hD hw2 hB2 hs2 hkc hpc hD2 hk2 hk hkF vZ hnk
 go_enter Tryz.func30,Tryz.ntmps30
 go_wp2_with fail
 rw[← HW2.out]
 refine HE.out.mono ?_
 rintro e w1 ⟨rfl,h1⟩
 have H1:=ae h1
 clear h1 HE HW2
 go_wp2
 go_end0
 exact⟨rfl,H1.out⟩
theorem zv {w:World} {F:Nat→Prop} {D:Nat} {L:List Blk} (h:aG w F D L) :
  Calls Tryz.prog 56 #[.pointer (some ⟨D,0,none⟩)] w fun e w'=>e=.returned (.int .i64 (cnt L))∧Below w.heap.size w w':=by
 obtain ⟨g,ps,hD⟩:=h
 obtain ⟨w2,hw2⟩:∃ w2,w2=w.alloc (.cells #[.int .i64 0] 3):=⟨_,rfl⟩
 have hB2:Below w.heap.size w w2:=by
  rw[hw2]
  exact(Below.refl _ _).alloc (Nat.le_refl _) _
 have hmc:aj w2 w.heap.size 0 [.int .i64 0]:=by
  rw[hw2]
  exact(Row.new w 3 [.int .i64 0]).here
 have hD2:bM w2 F D g ps L:=hD.stay (Chg.below hB2 fun _ _=>False) fun _ _ _ x=>x
 have vZ:=hD.lt
 have HE:Hid (Calls Tryz.prog 65 #[.pointer (some ⟨D,0,none⟩),.func (.func 98) #[] #[.pointer (some ⟨w.heap.size,0,none⟩)]] w2 fun e w'=>e=.returned (.tuple #[])∧aj w' w.heap.size 0 [.int .i64 (cnt L:Nat)]∧Below w.heap.size w w'):=by
  refine(nR 98 #[.pointer (some ⟨w.heap.size,0,none⟩)] D g L.length hD.few (kX L) ps
   (fun i W=>aj W w.heap.size 0 [.int .i64 (cnt (L.take i):Nat)]∧Chg (fun k _=>k=w.heap.size) w2 W) w2 Ir (fA hD2) ?_ ?_ ?_ ?_ ?_).mono ?_
  ·rintro i W hi ⟨_,hX⟩
   exact kQ (hD2.stay hX fun k o hf hs=>by have:=vZ k hf;omega) i hi
  ·rintro i W hi ⟨_,hX⟩
   exact(hD2.stay hX fun k o hf hs=>by have:=vZ k hf;omega).uq L i hi rfl
  ·rintro i W hi ⟨hP,hX⟩ hd
   obtain ⟨b,hb⟩:∃ b,L[i]? = some b:=⟨_,List.getElem?_eq_getElem hi⟩
   rw[dY hb] at hd
   refine(xw _ w.heap.size (cnt (L.take i)) (Nat.le_trans (kF L i) hD.few) W hP).mono ?_
   rintro e w' ⟨rfl,h1,h2⟩
   refine⟨rfl,?_,hX.then h2⟩
   rw[jA hb,hd,if_pos rfl];exact h1
  ·rintro i W hi ⟨hP,hX⟩ hd
   obtain ⟨b,hb⟩:∃ b,L[i]? = some b:=⟨_,List.getElem?_eq_getElem hi⟩
   rw[dY hb] at hd
   refine⟨?_,hX⟩
   rw[jA hb,hd];exact hP
  ·exact⟨hmc,Chg.refl _ _⟩
  ·rintro e w' ⟨rfl,hP,hX⟩
   rw[List.take_length] at hP
   exact⟨rfl,hP,((Chg.below hB2 fun k _=>k=w.heap.size).then hX).toBelow fun k o hl hs=>by omega⟩
 have HW2:=ae hw2
 generalize cnt L=n at *
 clear hD hw2 hB2 hmc hD2 vZ
 go_enter Tryz.func56,Tryz.ntmps56
 go_wp2_with fail
 rw[← HW2.out]
 refine HE.out.mono ?_
 rintro e w1 ⟨rfl,h1,h2⟩
 have hc:=h1.head (j:=0) rfl
 have H2:=ae h2
 clear h1 h2 HE HW2
 go_wp2
 go_ret
 exact⟨rfl,H2.out⟩
end Go.Proofs.YthbmknpbcgnabaaGreatDoor
