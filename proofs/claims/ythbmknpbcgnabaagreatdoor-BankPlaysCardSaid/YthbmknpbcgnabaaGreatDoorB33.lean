/- Of the walk. -/
import Derived.Test.YthbmknpbcgnabaaGreatDoorB32
set_option maxHeartbeats 40000000
namespace Go.Proofs.YthbmknpbcgnabaaGreatDoor
open Go.RowKit Aes Ctr Sl Dsk
section
variable {w w':World} {F G K:Nat→Prop} {P M kp wb:Nat} {ek mk:List UInt8} {s:Bk.Bn} {D D':List Blk} {ws ws':List (List UInt8)}
theorem RB.Gv (h:RB w F G K P M kp wb ek mk s D ws) (hR:bL w' G M D') (hW:aj w' wb 0 (ws'.map VS)) (hl:ws'.length=ws.length) (hc:Chg (fun k _=>G k∨k=wb) w w'):RB w' F G K P M kp wb ek mk s D' ws':=by
 obtain ⟨tv,lv,a,nv,wc,al,hh,ht,hlv,hn⟩:=h.head
 have hF:∀ k (_:Nat),F k→k≠wb→¬ (G k∨k=wb):=fun k _ hk hw e=>e.elim (h.apart.1 k hk).1 hw
 exact⟨hR,h.key.chg hc fun k _ hk e=>e.elim (h.apart.2 k hk) fun e=>(h.apart.1 wb h.inF.2.1).2 (e ▸ hk),h.lg,h.inF,⟨fun k hk=>Nat.lt_of_lt_of_le (h.lt.1 k hk) hc.size,fun k hk=>Nat.lt_of_lt_of_le (h.lt.2 k hk) hc.size⟩,h.apart,⟨hW,by rw[hl];exact h.wrote.2⟩,h.nums,
  tv,lv,a,nv,wc,al,hh.chg hc fun j _=>hF _ j h.inF.1 h.inF.2.2,ht.chg hc fun k o hk=>hF k o hk.1 hk.2.2.1,hlv.chg hc fun k o hk=>hF k o hk.1 hk.2.2.1,fun hL=>⟨(hn hL).1,ij (hn hL).2.1 hc fun k hk o=>hF k o ((hn hL).2.2 k hk).1 ((hn hL).2.2 k hk).2.2,(hn hL).2.2⟩⟩
theorem RB.put (h:RB w F G K P M kp wb ek mk s D ws) {af i ep:Nat} {plain:List UInt8} (hb1:af≤1) (hi:i<s.n) (hep:ep<2 ^ 64) (hp:plain.length=64) :
  Calls Tryz.prog 44 #[PT P,IV af,IV i,.int .u64 (ep:Int),VS plain] w fun e w' =>
   e=.returned (VS (Bk.put ek mk s.n af i ep plain D).2)∧RB w' F G K P M kp wb ek mk s (Bk.put ek mk s.n af i ep plain D).1 (ws.set (af*s.n+i) (rw_ ek i ep plain))∧Chg (fun k _=>G k∨k=wb) w w':=by
 obtain ⟨tv,lv,a,nv,wc,al,hh,ht,hlv,hn⟩:=h.head
 refine(sJ h.dN h.key h.lg (hh.head (j:=0) rfl) (hh.head (j:=1) rfl) (hh.head (j:=2) rfl) (hh.head (j:=10) rfl) h.wrote.1 h.wrote.2 h.gone.1 (h.apart.1 _ h.inF.1).1 (h.apart.1 _ h.inF.2.1).1 h.inF.2.2 h.apart.2 (h.apart.1 _ h.inF.2.1).2 hb1 hi (by have:=h.nums.1;omega) hep hp).mono ?_
 rintro e w' ⟨rfl,hR,hW,hc⟩
 exact⟨rfl,h.Gv hR hW (by rw[List.length_set]) hc,hc⟩
theorem RB.fJ (h:RB w F G K P M kp wb ek mk s D ws) (o:Nat) (ho:o<12) (v:Value):Chg (fun k _=>k=P) w (w.setCell ⟨P,o,none⟩ v):=by
 obtain ⟨tv,lv,a,nv,wc,al,hh,_⟩:=h.head
 refine(Chg.refl _ w).setCell (p:=⟨P,o,none⟩) rfl (fun _=>rfl) ?_ _
 obtain ⟨u,hu⟩:∃ u,(cU M kp s.n s.ep s.af s.root tv lv a nv wb wc al)[o]? = some u:=⟨_,List.getElem?_eq_getElem (by exact ho)⟩
 show (w.cell? ⟨P,o,none⟩).isSome=true
 rw[hh.head hu];rfl
theorem RB.store (h:RB w F G K P M kp wb ek mk s D ws) (o:Nat) (ho:o<12) (v:Value) {s':Bk.Bn} {tv lv nv:Value} {a wc:Nat} {al:Bool} (hn':s'.n=s.n) (hb:s'.af≤1∧s'.at_≤s'.n+1)
  (hh:aj (w.setCell ⟨P,o,none⟩ v) P 0 (cU M kp s'.n s'.ep s'.af s'.root tv lv a nv wb wc al))
  (ht:eo w (fun k=>F k∧k≠P∧k≠wb∧(s'.L≠[]→nv.ownBlock≠some k)) tv s'.tags) (hl:eo w (fun k=>F k∧k≠P∧k≠wb∧(s'.L≠[]→nv.ownBlock≠some k)) lv s'.L)
  (hn:s'.L≠[]→a=s'.at_∧Own w 0 9 nv (s'.next.map VS)∧∀ k,nv.ownBlock=some k→F k∧k≠P∧k≠wb):RB (w.setCell ⟨P,o,none⟩ v) F G K P M kp wb ek mk s' D ws:=by
 have hc:=h.fJ o ho v
 have nG:¬ G P:=(h.apart.1 P h.inF.1).1
 have nK:¬ K P:=(h.apart.1 P h.inF.1).2
 exact⟨h.dN.stay hc fun k _ hk e=>nG (e ▸ hk),h.key.chg hc fun k _ hk e=>nK (e ▸ hk),h.lg,h.inF,⟨fun k hk=>Nat.lt_of_lt_of_le (h.lt.1 k hk) hc.size,fun k hk=>Nat.lt_of_lt_of_le (h.lt.2 k hk) hc.size⟩,h.apart,⟨h.wrote.1.eC (fun e=>h.inF.2.2 e.symm) _,by rw[hn'];exact h.wrote.2⟩,⟨by rw[hn'];exact h.nums.1,hb⟩,
  tv,lv,a,nv,wc,al,hh,ht.chg hc fun k _ hk e=>hk.2.1 e,hl.chg hc fun k _ hk e=>hk.2.1 e,fun hL=>⟨(hn hL).1,ij (hn hL).2.1 hc fun k hk _ e=>((hn hL).2.2 k hk).2.1 e,(hn hL).2.2⟩⟩
theorem RB.Ao (h:RB w F G K P M kp wb ek mk s D ws) (hL:s.L≠[]) (ha:s.at_≤s.n):RB (w.setCell ⟨P,8,none⟩ (IV (s.at_+1))) F G K P M kp wb ek mk { s with at_:=s.at_+1 } D ws:=by
 obtain ⟨tv,lv,a,nv,wc,al,hh,ht,hlv,hn⟩:=h.head
 obtain ⟨rfl,h2,h3⟩:=hn hL
 exact h.store 8 (by omega) _ rfl ⟨h.nums.2.1,by show s.at_+1≤s.n+1;omega⟩ (tv:=tv) (lv:=lv) (nv:=nv) (a:=s.at_+1) (wc:=wc) (al:=al) (by
  have:=hh.put 8 (by exact(by omega:8<12)) (IV (s.at_+1))
  rw[Nat.zero_add] at this
  exact this) ht hlv fun _=>⟨rfl,h2,h3⟩
theorem RB.yf {w1:World} {nv v':Value} {t:List UInt8} (h:RB w F G K P M kp wb ek mk s D ws) (hL:s.L≠[]) (hnv:w.cell? ⟨P,9,none⟩=some nv) (ho:Own w1 0 9 v' (s.next.map VS++[VS t])) (hc:Chg (fun k _=>nv.ownBlock=some k) w w1) (hv:v'.ownBlock=nv.ownBlock∨∃ k,v'.ownBlock=some k∧w.heap.size≤k) :
  RB (w1.setCell ⟨P,9,none⟩ v') (fun k=>F k∨(w.heap.size≤k∧k<w1.heap.size)) G K P M kp wb ek mk { s with next:=s.next++[t] } D ws∧w1.cell? ⟨P,9,none⟩=some nv∧w1.frozen? ⟨P,9,none⟩=false∧Chg (fun k _=>F k) w (w1.setCell ⟨P,9,none⟩ v'):=by
 obtain ⟨tv,lv,a,nv',wc,al,hh,ht,hlv,hn⟩:=h.head
 obtain rfl:nv'=nv:=by have:=hh.head (j:=9) rfl;rw[this] at hnv;injection hnv
 obtain ⟨ha,h2,h3⟩:=hn hL
 have nS:∀ k,k=P∨k=wb∨G k∨K k→∀ (_:Nat),¬ nv'.ownBlock=some k:=fun k hk _ e=>by
  have hx:=h3 k e
  rcases hk with hk | hk | hk | hk
  ·exact hx.2.1 hk
  ·exact hx.2.2 hk
  ·exact(h.apart.1 k hx.1).1 hk
  ·exact(h.apart.1 k hx.1).2 hk
 have hsz:=hc.size
 have hh1:aj w1 P 0 (cU M kp s.n s.ep s.af s.root tv lv a nv' wb wc al):=hh.chg hc fun _ _=>nS P (.inl rfl) 0
 have hx:Chg (fun k _=>k=P) w1 (w1.setCell ⟨P,9,none⟩ v'):=(Chg.refl _ w1).setCell (p:=⟨P,9,none⟩) rfl (fun _=>rfl) (by show (w1.cell? ⟨P,9,none⟩).isSome=true;rw[hh1.head (j:=9) rfl];rfl) _
 have hK1:=h.key.chg hc fun k o hk=>nS k (.inr (.inr (.inr hk))) o
 have hR1:=h.dN.stay hc fun k o hk=>nS k (.inr (.inr (.inl hk))) o
 have hW1:aj w1 wb 0 (ws.map VS):=h.wrote.1.chg hc fun _ _=>nS wb (.inr (.inl rfl)) 0
 have hGl:∀ k,G k→k<w.heap.size:=by
  obtain ⟨_,_,_,_,_,_,hX⟩:=h.dN
  exact hX.lt
 have hsx:=hx.size
 have hown:∀ k,v'.ownBlock=some k→(F k∨(w.heap.size≤k∧k<w1.heap.size))∧k≠P∧k≠wb:=fun k hk=>by
  have hl:=(ho.lt hk).2
  rcases hv with e | ⟨k',e,hk'⟩
  ·have:=h3 k (by rw[← e];exact hk)
   exact⟨.inl this.1,this.2⟩
  ·rw[e] at hk;injection hk with hk
   have:=h.gone
   exact⟨.inr ⟨by omega,hl⟩,by omega,by omega⟩
 have NA:∀ k,F k∧k≠P∧k≠wb∧(s.L≠[]→nv'.ownBlock≠some k)→(F k∨(w.heap.size≤k∧k<w1.heap.size))∧k≠P∧k≠wb∧(s.L≠[]→v'.ownBlock≠some k):=fun k hk=>⟨.inl hk.1,hk.2.1,hk.2.2.1,fun _ e=>by
  rcases hv with e' | ⟨k',e',hk'⟩
  ·rw[e'] at e;exact hk.2.2.2 hL e
  ·rw[e'] at e;injection e with e
   have:=h.lt.1 k hk.1
   omega⟩
 have ht1:=ht.chg hc fun k o hk e=>hk.2.2.2 hL e
 have hl1:=hlv.chg hc fun k o hk e=>hk.2.2.2 hL e
 refine⟨⟨hR1.stay hx fun k _ hk e=>(h.apart.1 P h.inF.1).1 (e ▸ hk),hK1.chg hx fun k _ hk e=>(h.apart.1 P h.inF.1).2 (e ▸ hk),h.lg,⟨.inl h.inF.1,.inl h.inF.2.1,h.inF.2.2⟩,⟨fun k hk=>hk.elim (fun hk=>by have:=h.lt.1 k hk;omega) fun hk=>by omega,fun k hk=>by have:=h.lt.2 k hk;omega⟩,
  ⟨fun k hk=>hk.elim (h.apart.1 k) fun hk=>⟨fun hg=>by have:=hGl k hg;omega,fun hg=>by have:=h.lt.2 k hg;omega⟩,h.apart.2⟩,⟨hW1.eC (fun e=>h.inF.2.2 e.symm) _,h.wrote.2⟩,h.nums,
  tv,lv,a,v',wc,al,?_,?_,?_,fun _=>⟨ha,?_,hown⟩⟩,hh1.head (j:=9) rfl,hh1.bJ (j:=9) (by exact(by omega:9<12)),(hc.mono fun k _ _ hk=>(h3 k hk).1).trans hx fun k _ _ hk=>hk ▸ h.inF.1⟩
 ·have:=hh1.put 9 (by exact(by omega:9<12)) v'
  rw[Nat.zero_add] at this
  exact this
 ·exact(ht1.imp fun k hk _=>NA k hk).chg hx fun k _ hk e=>hk.2.1 e
 ·exact(hl1.imp fun k hk _=>NA k hk).chg hx fun k _ hk e=>hk.2.1 e
 ·show Own _ 0 9 v' ((s.next++[t]).map VS)
  rw[List.map_append]
  exact ij ho hx fun k hk _ e=>(hown k hk).2.1 e
end
theorem Es (n:Nat) (hn:n≤1000) (W:World):(Instr.makeSlice 58 (.int .i64 (n:Int)) (.int .i64 (n:Int))).run Tryz.prog W=.ok (.slice (some ⟨W.heap.size,0,none⟩) n n) (W.alloc (.cells ((List.replicate n ([]:List UInt8)).map VS).toArray 9)):=by
 have h:=run_make_row' (P:=Tryz.prog) 58 9 (.string ⟨#[]⟩) 16 Tryz.underlying58 aQ rfl .i64 .i64 n (by omega) (by omega) W
 rw[show madeCells #[Value.string ⟨#[]⟩] n=((List.replicate n ([]:List UInt8)).map VS).toArray from by
  unfold madeCells
  apply Array.ext
  ·simp
  ·intro i h1 h2
   simp [VS,Dk,Nat.mod_one]] at h
 exact h
theorem AK (pm:Value) (mk:List UInt8) (l:List (List UInt8)) (h32:∀ t∈l,t.length=32) (hl:l.length≤100) (x:Value) (w:World) (hK:Hm.ed w pm mk) (hx:bq w x (l.map VS)) :
  Calls Tryz.prog 46 #[pm,x] w fun e w'=>e=.returned (VS (Bk.b7 mk l))∧Below w.heap.size w w':=by
 refine(Mr.yV pm mk l h32 hl x w hK hx).mono ?_
 rintro e w' ⟨⟨h,hh,rfl⟩,hb⟩
 refine⟨?_,hb⟩
 unfold Bk.b7
 rw[hh.out.unique (Bk.sD _ hl)]
theorem cD.pm {w:World} {K:Nat→Prop} {p:Nat} {ek mk:List UInt8} (h:cD w K p ek mk):∃ pm,w.cell? ⟨p,3,none⟩=some (PT pm)∧fL w K (PT pm) mk∧K p:=by
 obtain ⟨va,vb,pe,pm,k1,h1,h2,h3,h4,h5,h6⟩:=h
 have h6':=h6
 obtain ⟨g,kb,kc,rb,rc,cb,cc,rfl,_⟩:=h6'
 exact⟨g,by have:=h2 3 (PT g) rfl;rwa [Nat.zero_add] at this,h6,k1⟩
section
variable {w w':World} {G K:Nat→Prop} {P M kp wb wc B n ep af:Nat} {root:List UInt8} {tv:Value} {tags:List (List UInt8)} {al:Bool} {ek mk:List UInt8} {D D':List Blk} {ws ws':List (List UInt8)}
theorem Lay.PQ (h:Lay w G K P M kp wb wc B n ep af root tv tags al ek mk D ws) {bk i e0:Nat} {plain:List UInt8} (hek:ek.length=16) (hwl:ws.length=2*n) (hb1:bk≤1) (hi:i<n) (hn:n≤100) (hep:e0<2 ^ 64) (hp:plain.length=64) :
  Calls Tryz.prog 44 #[PT P,IV bk,IV i,.int .u64 (e0:Int),VS plain] w fun e w' =>
   e=.returned (VS (Bk.put ek mk n bk i e0 plain D).2)∧Lay w' G K P M kp wb wc B n ep af root tv tags al ek mk (Bk.put ek mk n bk i e0 plain D).1 (ws.set (bk*n+i) (rw_ ek i e0 plain))∧Chg (fun k _=>G k∨k=wb) w w':=by
 refine(sJ h.ref h.key hek (h.cell (o:=0) rfl) (h.cell (o:=1) rfl) (h.cell (o:=2) rfl) (h.cell (o:=10) rfl) h.wrote hwl (by have:=h.lt;omega) (fun hg=>(h.hG _ hg).2.1 rfl) (fun hg=>(h.hG _ hg).2.2 rfl) h.lt.2.2.2 (fun k hk=>(h.hK k hk).2.2.2) (fun hk=>(h.hK _ hk).2.2.1 rfl) hb1 hi (by omega) hep hp).mono ?_
 rintro e w' ⟨rfl,hR,hW,hc⟩
 exact⟨rfl,h.CV hR hW hc,hc⟩
theorem Lay.tO (h:Lay w G K P M kp wb wc B n ep af root tv tags al ek mk D ws) (hd:aO w G w' M D'):Lay w' G K P M kp wb wc B n ep af root tv tags al ek mk D' ws :=
 h.CV hd.1 (h.wrote.chg hd.2 fun _ _ hg=>(h.hG _ hg).2.2 rfl) (hd.2.mono fun _ _ _ hk=>.inl hk)
theorem Lay.Je (h:Lay w G K P M kp wb wc B n ep af root tv tags al ek mk D ws) (h32:∀ t∈tags,t.length=32) (hl:tags.length≤100):∃ pm,(∀ X,Chg (fun k _=>k=P) w X→X.cell? ⟨kp,3,none⟩=some (PT pm))
  ∧ ∀ W,Chg (fun k _=>k=P) w W→Own W B 9 tv (tags.map VS)→Calls Tryz.prog 46 #[PT pm,tv] W fun e w'=>e=.returned (VS (Bk.b7 mk tags))∧Below W.heap.size W w':=by
 obtain ⟨pm,hc,hk,hkp⟩:=h.key.pm
 have hlt:kp<w.heap.size:=by have:=(h.hK kp hkp).1;have:=h.lt.2.2.1;omega
 refine⟨pm,fun X hX=>(World.cell?_of_block (hX.block kp hlt fun _ e=>(h.hK kp hkp).2.1 e)).trans hc,fun W hW ho=>AK (PT pm) mk tags h32 hl tv W (hk.chg hW fun k _ hkk e=>(h.hK k hkk).2.1 e).at ho.from_⟩
end
section
variable {w w':World} {P d:Nat} {ek mk:List UInt8} {s:Bk.Bn} {ks:List Value} {T C:Nat} {F FT KB:Nat→Prop} {nx:Value} {S:List Bool} {V:Nat} {rt:List UInt8} {bv:Value} {X:Nat→Nat→Prop}
theorem gj (h:cQ w P d ek mk s ks T FT nx S V):Calls Tryz.prog 47 #[PT P] w fun e w'=>e=.returned (IV s.n)∧Below w.heap.size w w':=by
 obtain ⟨c0,c49,c50,c83,c84⟩:=h.at_.cells
 have HP:=ae (Mr.aL.places h.tree)
 rw[h.tl] at HP
 clear h c0 c49 c50 c84
 go_enter Tryz.func47,Tryz.ntmps47
 go_wp2_with fail
 refine HP.out.mono ?_
 rintro e w1 ⟨rfl,hb⟩
 go_wp2
 go_ret
 exact⟨rfl,hb⟩
set_option maxRecDepth 100000
theorem GW (w:World):(binOp BinOp.neq 90 .nilFunc .nilFunc).run Tryz.prog w=.ok (.bool false) w:=by kernel_rfl
set_option maxRecDepth 512
theorem Ke (w:World) (f:Fn) (cs:Array Value):(binOp BinOp.neq 90 (.func f cs #[]) .nilFunc).run Tryz.prog w=.ok (.bool true) w:=by kernel_rfl
set_option maxRecDepth 100000
theorem k8 (h:w.cell? ⟨P,84,none⟩=some .nilFunc):Calls Tryz.prog 29 #[PT P] w fun e w'=>e=.returned (.bool false)∧w'=w:=by
 have hn:=GW w
 go_enter Tryz.func29,Tryz.ntmps29
 go_wp2
 go_ret
 exact⟨rfl,rfl⟩
theorem gI {f:Fn} {cs:Array Value} (h:w.cell? ⟨P,84,none⟩=some (.func f cs #[])):Calls Tryz.prog 29 #[PT P] w fun e w'=>e=.returned (.bool true)∧w'=w:=by
 have hn:=Ke w f cs
 go_enter Tryz.func29,Tryz.ntmps29
 go_wp2
 go_ret
 exact⟨rfl,rfl⟩
set_option maxRecDepth 512
theorem Ei (s:Bk.Bn) (C:Nat):∃ f cs,b8 s C=.func f cs #[]:=by
 unfold b8
 split
 ·exact⟨_,_,rfl⟩
 ·split
  ·exact⟨_,_,rfl⟩
  ·exact⟨_,_,rfl⟩
theorem oQ.busy {FT KB:Nat→Prop} {T:Nat} (h:oQ w P mk s C T FT KB rt bv S) (h8:8≤s.n):s.L≠[]:=fun e=>by
 have:=h.len
 rw[e] at this
 simp at this
 omega
theorem jI (h:BL w F P d ek mk s):Calls Tryz.prog 29 #[PT P] w fun e w'=>e=.returned (.bool (decide (s.L≠[])))∧Below w.heap.size w w':=by
 obtain ⟨ks,T,FT,nx,S,V,hH,hP,hT,hl,hb⟩:=h
 obtain ⟨c0,c49,c50,c83,c84⟩:=hH.at_.cells
 rcases hb with ⟨hb,rfl⟩ | ⟨C,T2,FT2,KB,rt,bv,S2,hC,rfl,_⟩
 ·refine(k8 c84).mono ?_
  rintro e w' ⟨rfl,rfl⟩
  exact⟨by rw[decide_eq_false (fun h=>h hb)],Below.refl _ _⟩
 ·obtain ⟨f,cs,e⟩:=Ei s C
  rw[e] at c84
  refine(gI c84).mono ?_
  rintro e w' ⟨rfl,rfl⟩
  exact⟨by rw[decide_eq_true (hC.busy hH.n8)],Below.refl _ _⟩
end
theorem oT (w:World):(zeroValue 41).run Tryz.prog w=.ok (.agg (dL 0 0 (List.replicate 32 0)).toArray) w:=by kernel_rfl
set_option maxRecDepth 100000
theorem FP {w:World} {P d ep af T:Nat} {ks:List Value} {root:List UInt8} {nx:Value} (h:fN w P d ks ep af root T nx) (hr:root.length=32) (rs:List Value) (hrs:Hid (rs=dL ep af root)) :
  Calls Tryz.prog 24 #[PT P] w fun e w'=>e=.returned (.agg rs.toArray)∧Below w.heap.size w w':=by
 have hz:=oT w
 have hzl:(dL 0 0 (List.replicate 32 0)).length=34:=rfl
 generalize dL 0 0 (List.replicate 32 0)=Z at hz hzl
 have HZl:Hid (Z.toArray.size=34):=hzl
 clear hzl
 have Hsz:Hid (rs.toArray.size=34):=by show _=_;rw[List.size_toArray,hrs.out,aW hr]
 obtain ⟨w0,hw0⟩:∃ w0,w0=w.alloc (.cells Z.toArray 41):=⟨_,rfl⟩
 have HBL:Hid (Below w.heap.size w w0):=by rw[hw0];exact(Below.refl _ _).alloc (Nat.le_refl _) _
 have HZ:Hid (Row w0 w.heap.size 41 Z):=by rw[hw0];exact Row.new w 41 _
 have HG:Hid (w0.rangeAt P 49 rs):=by
  have:=(h.chg (Chg.below HBL.out fun _ _=>False) fun _ x=>x).reg.1
  rw[← hrs.out] at this
  exact this
 have aN:Hid (rs.toArray.all (·.oneCell')=true):=by
  show _=_
  rw[hrs.out,dL]
  simp
  exact⟨rfl,rfl,fun _ _=>rfl⟩
 clear h hrs hr
 go_enter Tryz.func24,Tryz.ntmps24
 go_wp2_with (first
  | (rw[← hw0];clear hw0;refine wpList_load_mid rfl 41 (.tmp 8) rfl P 49 rfl rs _ HG.out Tryz.underlying41 rfl (by rw[← List.size_toArray,Hsz.out];kernel_rfl) ?_)
  | (refine wpList_store_row rfl 41 (.tmp 2) (.tmp 9) rfl w.heap.size rs.toArray rfl rfl 41 _ HZ.out (by rw[Hsz.out];kernel_rfl) (by rw[Hsz.out,HZl.out]) aN.out ?_))
 have bj:=HZ.out.whole rs
 have hinfo:(Tryz.prog.info? 41).map (·.size)=some rs.toArray.size:=by rw[Hsz.out];kernel_rfl
 go_wp2
 refine bodyPost_ret (v:=.agg rs.toArray) (results_cell_row rfl _ _ w.heap.size 41 rs.toArray (0,0) _ rfl bj Tryz.underlying41 rfl hinfo) rfl ?_
 exact⟨rfl,ag HBL.out (Nat.le_refl _) _⟩
theorem qI {w:World} {P d T:Nat} {ek mk:List UInt8} {s:Bk.Bn} {ks:List Value} {FT G:Nat→Prop} {nx:Value} {S:List Bool} {V:Nat} {D:List Blk} (h:cQ w P d ek mk s ks T FT nx S V) (hD:aG w G d D) (i:Nat) (hi:i<s.n) (hl:D.length=2*s.n) :
  Calls Tryz.prog 37 #[PT P,IV i] w fun e w'=>∃ g,e=.returned (.slice (some ⟨g,0,none⟩) 72 72)∧w.heap.size≤g∧Hid (aj w' g 0 ((Bk.aq D (s.af*s.n+i)).map V8))∧Below w.heap.size w w':=by
 have eU:=h.n100
 have hb1:=h.b1
 obtain ⟨af,EW⟩:∃ b,b=s.af:=⟨_,rfl⟩
 obtain ⟨n,hn⟩:∃ b,b=s.n:=⟨_,rfl⟩
 have hSz:∀ W,Below w.heap.size w W→Calls Tryz.prog 47 #[PT P] W fun e w'=>e=.returned (IV s.n)∧Below W.heap.size W w':=fun W hW=>gj (h.below hW)
 have hcl:∀ W,Below w.heap.size w W→W.cell? ⟨P,0,none⟩=some (PT d)∧W.cell? ⟨P,50,none⟩=some (IV s.af):=fun W hW=>⟨(h.below hW).at_.cells.1,(h.below hW).at_.cells.2.2.1⟩
 rw[← hn] at hi hl eU hSz
 rw[← EW] at hb1 hcl
 rw[← hn,← EW]
 obtain ⟨k,hk⟩:∃ k,k=af*n+i:=⟨_,rfl⟩
 have hkl:k<D.length:=by
  rw[hk,hl]
  rcases(show af=0∨af=1 by omega) with e | e <;> rw[e] <;> simp <;> omega
 have hbn:af*n≤100:=Nat.le_trans (Nat.mul_le_mul_right _ hb1) (by omega)
 obtain ⟨raw,ik⟩:∃ r,r=Bk.aq D k:=⟨_,rfl⟩
 have HRd:Hid (∀ W,Below w.heap.size w W→Calls Tryz.prog 27 #[PT d,IV k] W fun e w'=>e=.returned (.tuple #[.slice (some ⟨W.heap.size,0,none⟩) 72 72,.int .i64 0])∧aj w' W.heap.size 0 (raw.map V8)∧Below W.heap.size W w'):=fun W hW=>by
  have hg:eQ D (k:Int)=some (D.getD k Blk.zero):=by rw[jS,List.getD_eq_getElem?_getD,List.getElem?_eq_getElem hkl];rfl
  have:=xq (hD.below hW) (k:Int) _ hg
  rw[ik]
  exact this
 have HSz:=ae hSz
 have ai:=ae hcl
 have Hm1:Hid (IntKind.i64.wrap ((af:Int)*(n:Int))=((af*n:Nat):Int)):=by
  show _=_
  rw[show (af:Int)*(n:Int)=((af*n:Nat):Int) by simp,IntWalk.i64_in _ (by omega)]
 have Hm2:Hid (IntKind.i64.wrap (((af*n:Nat):Int)+(i:Int))=(k:Int)):=by show _=_;rw[IntWalk.i64_in _ (by omega),hk];simp
 rw[← hk,← ik]
 generalize af*n=bn at *
 clear hk hSz hcl h hD hn EW hi hl eU hb1 hkl hbn ik
 go_enter Tryz.func37,Tryz.ntmps37
 go_wp2_with fail
 have hC:Below w.heap.size w w.drew:=below_drewN (Below.refl _ _) 1
 refine wp_region_held_drew (S:=(fun W=>W.cell? ⟨P,0,none⟩=some (PT d)∧W.cell? ⟨P,50,none⟩=some (IV af))) (by kernel_rfl) (ai.out _ hC) (fun aa=>?_)
 generalize w.drew=wd at *
 refine tkq 0 8 aa ?_
 try go_frame
 refine tkq 1 9 aa ?_
 try go_frame
 refine tkq 2 10 aa ?_
 try go_frame
 refine tkh 3 11 rfl aa ?_ (Or.inl ⟨by rfl,by intro w hSw;have hc:=hSw.1;go_simp;with_reducible rfl⟩)
 try go_frame
 refine tkq 4 12 aa ?_
 try go_frame
 refine tkq 5 13 aa ?_
 try go_frame
 refine tkq 6 14 aa ?_
 try go_frame
 refine tkq 7 15 aa ?_
 try go_frame
 refine tkh 8 16 rfl aa ?_ (Or.inl ⟨by rfl,by intro w hSw;have hc:=hSw.2;go_simp;with_reducible rfl⟩)
 try go_frame
 refine tkq 9 17 aa ?_
 try go_frame
 refine tkq 12 20 aa ?_
 try go_frame
 refine rdq 10 18 fun K hK=>?_
 go_simp
 go_at_call 47
 refine(HSz.out wd hC).mono ?_
 rintro e I7 ⟨rfl,hb⟩
 replace hC:=hC.trans (hb.mono hC.size)
 refine hK.out _ _ (ai.out _ hC) (fun aa=>?_)
 clear hK K hb 
 try go_frame
 refine tkh 11 19 rfl aa ?_ (Or.inl ⟨by rfl,by intro w hSw;have hm:=Hm1.out;go_simp;with_reducible rfl⟩)
 try go_frame
 refine tkh 13 21 rfl aa ?_ (Or.inl ⟨by rfl,by intro w hSw;have hm:=Hm2.out;go_simp;with_reducible rfl⟩)
 try go_frame
 refine rdq 14 22 fun K hK=>?_
 go_simp
 go_at_call 27
 obtain ⟨oO,AP⟩:∃ g,Hid (g=I7.heap.size):=⟨_,rfl⟩
 have NN:w.heap.size≤oO:=by rw[AP.out];exact hC.size
 refine(HRd.out I7 hC).mono ?_
 rintro e CZ ⟨rfl,Jx,hb⟩
 have QL:Hid (aj CZ oO 0 (raw.map V8)):=AP.out ▸ Jx
 replace hC:=hC.trans (hb.mono hC.size)
 refine hK.out _ _ (ai.out _ hC) (fun aa=>?_)
 clear hK K hb 
 rw[← AP.out]
 clear AP Jx
 try go_frame
 refine tkq 15 7 aa ?_
 try go_frame
 refine tkq 16 23 aa ?_
 try go_frame
 refine tkq 17 24 aa ?_
 try go_frame
 refine tkq 18 5 aa ?_
 try go_frame
 refine tkq 19 6 aa ?_
 try go_frame
 refine wpAnyH_done (by kernel_rfl) ?_ _
 clear ai aa
 have HC:=ae hC
 clear hC
 go_wp2
 go_ret
 exact⟨oO,rfl,NN,QL,HC.out⟩
theorem jH {w:World} {G:Nat→Prop} {d:Nat} {D:List Blk} (hD:aG w G d D) (n:Int) (h1:-9223372036854775808≤n) (h2:n≤9223372036854775807) :
  Calls Tryz.prog 32 #[PT d,.int .i64 n] w fun e w'=>e=.returned (.bool (decide (8≤n∧n≤128∧(D.length:Int)=2*n)))∧Below w.heap.size w w':=by
 obtain ⟨g,ps,hW⟩:=hD
 have HB:=ae (fA hW)
 obtain ⟨l,hl⟩:∃ l,l=D.length:=⟨_,rfl⟩
 rw[← hl] at HB ⊢
 clear hW hl
 have hc:(8≤n∧n≤128∧(l:Int)=2*n∧decide (8≤n∧n≤128∧(l:Int)=2*n)=true)∨(8≤n∧n≤128∧((l:Int) == 2*n)=false∧decide (8≤n∧n≤128∧(l:Int)=2*n)=false)∨(8≤n∧¬ n≤128∧decide (8≤n∧n≤128∧(l:Int)=2*n)=false)∨(¬ 8≤n∧decide (8≤n∧n≤128∧(l:Int)=2*n)=false):=by
  by_cases h8:8≤n
  ·by_cases h128:n≤128
   ·by_cases e:(l:Int)=2*n
    ·exact .inl ⟨h8,h128,e,decide_eq_true ⟨h8,h128,e⟩⟩
    ·exact .inr (.inl ⟨h8,h128,beq_false_of_ne e,decide_eq_false fun h=>e h.2.2⟩)
   ·exact .inr (.inr (.inl ⟨h8,h128,decide_eq_false fun h=>h128 h.2.1⟩))
  ·exact .inr (.inr (.inr ⟨h8,decide_eq_false fun h=>h8 h.1⟩))
 generalize decide (8≤n∧n≤128∧(l:Int)=2*n)=r at hc ⊢
 rcases hc with ⟨h8,h128,e,rfl⟩ | ⟨h8,h128,e,rfl⟩ | ⟨h8,h128,rfl⟩ | ⟨h8,rfl⟩
 ·have hw:IntKind.i64.wrap (2*n)=2*n:=IntWalk.i64_in _ (by omega)
  have he:((l:Int) == 2*n)=true:=by rw[e];exact beq_self_eq_true _
  clear e h1 h2
  go_enter Tryz.func32,Tryz.ntmps32
  go_wp2_with fail
  refine HB.out.mono ?_
  rintro e w' ⟨rfl,rfl⟩
  go_wp2
  go_ret
  exact⟨rfl,Below.refl _ _⟩
 ·have hw:IntKind.i64.wrap (2*n)=2*n:=IntWalk.i64_in _ (by omega)
  clear h1 h2
  go_enter Tryz.func32,Tryz.ntmps32
  go_wp2_with fail
  refine HB.out.mono ?_
  rintro e w' ⟨rfl,rfl⟩
  go_wp2
  go_ret
  exact⟨rfl,Below.refl _ _⟩
 ·clear HB
  go_enter Tryz.func32,Tryz.ntmps32
  go_wp2
  go_ret
  exact⟨rfl,Below.refl _ _⟩
 ·clear HB
  go_enter Tryz.func32,Tryz.ntmps32
  go_wp2
  go_ret
  exact⟨rfl,Below.refl _ _⟩
theorem oy (ek mk:List UInt8) (ks:List Value) (hk:cz ek mk ks) (n:Nat) (h1:1≤n) (h2:n≤100) (w:World) (hT:Hm.Tab w) :
  Calls Tryz.prog 50 #[.agg ks.toArray,IV n] w fun e w'=>∃ T F,e=.returned (PT T)∧Mr.T9 w' F T mk (List.replicate n Mr.Mk.zero) (List.replicate n false) 0∧(∀ k,F k→w.heap.size≤k)∧Below w.heap.size w w':=by
 have Hzk:Hid (ks.toArray.size=48):=hk.size
 obtain ⟨w0,hw0⟩:∃ w0,w0=w.alloc (.cells ks.toArray 29):=⟨_,rfl⟩
 have HBL:Hid (Below w.heap.size w w0):=by rw[hw0];exact(Below.refl _ _).alloc (Nat.le_refl _) _
 have HX:Hid (Row w0 w.heap.size 29 ks):=by rw[hw0];exact Row.new w 29 ks
 have HN:Hid (Calls Tryz.prog 89 #[.slice (some ⟨w.heap.size,16,none⟩) 32 32,IV n] w0 fun e w'=>∃ T F,e=.returned (.tuple #[PT T,.int .i64 0])∧Mr.T9 w' F T mk (List.replicate n Mr.Mk.zero) (List.replicate n false) 0∧(∀ k,F k→w0.heap.size≤k)∧Below w0.heap.size w0 w') :=
  Mr.aL.Jg mk _ n w0 (by rw[hk.2.2];omega) h1 h2 (hT.below HBL.out) (hk.mac HX.out)
 clear hk hT h1 h2
 go_enter Tryz.func50,Tryz.ntmps50
 go_wp2_with fail
 rw[← hw0]
 clear hw0
 refine HN.out.mono ?_
 rintro e w1 ⟨T,F,rfl,hT,hF,hb⟩
 have HT:=ae hT
 have HF:=ae hF
 have HB:=ae hb
 clear hT hF hb HN
 go_wp2
 go_ret
 exact⟨T,F,rfl,HT.out,fun k hk=>Nat.le_trans HBL.out.size (HF.out k hk),HBL.out.trans (HB.out.mono HBL.out.size)⟩
set_option maxRecDepth 512
theorem gq {place:Nat→Option (Nat × Nat)} (a b c l:List Value) {i:Nat} {v:Value} {r:List (Nat × Value)} (hp:place i=some (a.length,l.length)) (hv:v.cells=l.toArray) (hb:b.length=l.length) :
  Instr.fill place (a++(b++c)).toArray ((i,v)::r)=Instr.fill place (a++(l++c)).toArray r:=by
 have f:=nB l a.length 0 (a++(b++c)).toArray (by rw[List.size_toArray,List.length_append,List.length_append];omega)
 rw[Instr.fill,hp]
 dsimp only
 rw[hv]
 refine Eq.trans (if_neg (by simp;omega)) ?_
 have g:l.toArray.zipIdx.foldl (fun (cs:Array Value) (p:Value × Nat)=>cs.setIfInBounds (a.length+p.2) p.1) (a++(b++c)).toArray=(a++(l++c)).toArray:=by
  rw[← Array.foldl_toList,show l.toArray.zipIdx.toList=l.zipIdx by simp,f]
  congr 1
  rw[Nat.add_zero,show (a++(b++c)).toArray.toList=a++(b++c) from rfl,List.take_left,List.append_assoc]
  congr 2
  rw[← hb,← List.append_assoc,List.drop_left' (by rw[List.length_append])]
 rw[g]
theorem gL {P:Program} {ops:Array Oper} {S:World→Prop} {op:Oper} {a:Act} (hw:Region.wanted op (yielded ops a.tmps)=true) (t:TypeId) (xs:List (Nat × Operand)) (ho:op.op=.build t xs.toArray) (vs:List (Nat × Value)) (hm:xs.map (fun p=>(p.1,a.eval p.2))=vs) (cells:Array Value)
  (hb:P.built t vs=some cells):YieldsIf P ops S op (.agg cells) a :=
 .inl ⟨hw,fun w _=>by
  have hp:(xs.toArray.map fun (i,x)=>(i,a.eval x))=vs.toArray:=by rw[← hm,List.map_toArray]
  unfold execOp
  simp only [ho,Sem.run_bind,Sem.run_pure,Result.andThen_ok,hp,run_build w t vs.toArray cells hb]⟩
abbrev nP:Value:=.pointer none
abbrev nF:Value:=.nilFunc
abbrev nS:Value:=.slice none 0 0
abbrev zU:Value:=.int .u64 0
abbrev zI:Value:=.int .i64 0
def Fq:List Value:=List.replicate 32 (.int .u8 0)
def Cs:List Value:=zU::zI::Fq
theorem yH (parts:List (Nat × Value)):Tryz.prog.built 92 parts=Instr.fill (fun i=>(#[(0,1),(1,48),(49,34),(83,1),(84,1)]:Array (Nat × Nat))[i]?) ([]++([nP]++(Z48++(Cs++([nP]++[nF]))))).toArray parts:=by kernel_rfl
theorem uB (parts:List (Nat × Value)):Tryz.prog.built 117 parts=Instr.fill (fun i=>(#[(0,1),(1,34),(35,1),(36,1),(37,1)]:Array (Nat × Nat))[i]?) ([]++([nP]++(Cs++([nS]++([zI]++([nP]++[])))))).toArray parts:=by kernel_rfl
theorem Cj (parts:List (Nat × Value)):Tryz.prog.built 41 parts=Instr.fill (fun i=>(#[(0,1),(1,1),(2,32)]:Array (Nat × Nat))[i]?) ([]++([zU]++([zI]++Fq))).toArray parts:=by kernel_rfl
theorem Lp (d:Nat) (ks rs:List Value) (T:Nat) (hk:ks.length=48) (hr:rs.length=34):Tryz.prog.built 92 [(0,PT d),(1,.agg ks.toArray),(2,.agg rs.toArray),(3,PT T)]=some (PT d::(ks++(rs++[PT T,nF]))).toArray:=by
 rw[yH,gq [] [nP] _ [PT d] rfl rfl rfl]
 refine Eq.trans (gq ([]++[PT d]) Z48 _ ks (by rw[hk];rfl) rfl (by rw[hk];rfl)) ?_
 have e1:([]++[PT d])++(ks++(Cs++([nP]++[nF])))=([PT d]++ks)++(Cs++([nP]++[nF])):=by simp
 rw[e1]
 refine Eq.trans (gq ([PT d]++ks) Cs _ rs (by rw[hr,List.length_append,hk];rfl) rfl (by rw[hr];rfl)) ?_
 have e2:([PT d]++ks)++(rs++([nP]++[nF]))=([PT d]++ks++rs)++([nP]++[nF]):=by simp
 rw[e2]
 refine Eq.trans (gq ([PT d]++ks++rs) [nP] _ [PT T] (by rw[List.length_append,List.length_append,hk,hr];rfl) rfl rfl) ?_
 rw[Instr.fill]
 simp
theorem Mv (ep af:Int):Tryz.prog.built 41 [(0,.int .u64 ep),(1,.int .i64 af)]=some (.int .u64 ep::.int .i64 af::Fq).toArray:=by
 rw[Cj,gq [] [zU] _ [.int .u64 ep] rfl rfl rfl]
 refine Eq.trans (gq [.int .u64 ep] [zI] Fq [.int .i64 af] rfl rfl rfl) ?_
 rw[Instr.fill]
 simp
theorem Fg (P T:Nat) (rs:List Value) (bv:Value) (hb:bv.cells=#[bv]) (hr:rs.length=34):Tryz.prog.built 117 [(0,PT P),(1,.agg rs.toArray),(2,bv),(4,PT T)]=some (PT P::(rs++[bv,zI,PT T])).toArray:=by
 rw[uB,gq [] [nP] _ [PT P] rfl rfl rfl]
 refine Eq.trans (gq ([]++[PT P]) Cs _ rs (by rw[hr];rfl) rfl (by rw[hr];rfl)) ?_
 have e1:([]++[PT P])++(rs++([nS]++([zI]++([nP]++[]))))=([PT P]++rs)++([nS]++([zI]++([nP]++[]))):=by simp
 rw[e1]
 refine Eq.trans (gq ([PT P]++rs) [nS] _ [bv] (by rw[List.length_append,hr];rfl) hb rfl) ?_
 have e2:([PT P]++rs)++([bv]++([zI]++([nP]++[])))=([PT P]++rs++[bv,zI])++([nP]++[]):=by simp
 rw[e2]
 refine Eq.trans (gq ([PT P]++rs++[bv,zI]) [nP] _ [PT T] (by rw[List.length_append,List.length_append,hr];rfl) rfl rfl) ?_
 rw[Instr.fill]
 simp
set_option maxRecDepth 100000
theorem mN (d:Nat) (ek mk:List UInt8) (ks:List Value) (hk:cz ek mk ks) (n:Nat) (h8:8≤n) (mI:n≤100) (ep af:Nat) (hb1:af≤1) (root:List UInt8) (hroot:root.length=32) (rs:List Value) (hrs:Hid (rs=dL ep af root)) (w:World) (hT:Hm.Tab w) :
  Calls Tryz.prog 33 #[PT d,.agg ks.toArray,IV n,.agg rs.toArray] w fun e w'=>∃ P T FT,e=.returned (PT P)∧cQ w' P d ek mk ⟨n,ep,af,root,List.replicate n Mr.Mk.zero,[],0,[]⟩ ks T FT .nilFunc (List.replicate n false) 0∧(∀ k,FT k→w.heap.size≤k)∧w.heap.size≤P∧P<w'.heap.size∧Below w.heap.size w w':=by
 have HKl:Hid (ks.length=48):=hk.vec.len
 have HRl:Hid (rs.length=34):=by show _=_;rw[hrs.out,aW hroot]
 obtain ⟨w0,hw0⟩:∃ w0,w0=(w.alloc (.cells ks.toArray 29)).alloc (.cells rs.toArray 41):=⟨_,rfl⟩
 have HBL:Hid (Below w.heap.size w w0):=by rw[hw0];exact((Below.refl _ _).alloc (Nat.le_refl _) _).alloc (by simp) _
 have HX:Hid (Row w0 w.heap.size 29 ks):=by rw[hw0];exact(Row.new w 29 ks).alloc _
 have HY:Hid (Row w0 (w.heap.size+1) 41 rs):=by rw[hw0];exact Row.newAt 41 rs (by simp)
 have ai:Hid (∀ W,Below w0.heap.size w0 W→W.rangeAt w.heap.size 0 ks∧W.rangeAt (w.heap.size+1) 0 rs):=fun W hW=>⟨dn (HX.out.below hW HX.out.lt),dn (HY.out.below hW HY.out.lt)⟩
 have HNt:Hid (∀ W,Below w0.heap.size w0 W→Calls Tryz.prog 50 #[.agg ks.toArray,IV n] W fun e w'=>∃ T F,e=.returned (PT T)∧Mr.T9 w' F T mk (List.replicate n Mr.Mk.zero) (List.replicate n false) 0∧(∀ k,F k→W.heap.size≤k)∧Below W.heap.size W w') :=
  fun W hW=>oy ek mk ks hk n (by omega) mI W ((hT.below HBL.out).below hW)
 have eT:Hid (∀ (W:World) (P T:Nat) (FT:Nat→Prop),Row W P 92 (PT d::(ks++(rs++[PT T,nF])))→Mr.T9 W FT T mk (List.replicate n Mr.Mk.zero) (List.replicate n false) 0→(∀ k,FT k→w0.heap.size≤k)→(∀ k,FT k→k<P)→w.heap.size≤P→Below w.heap.size w W →
   ∃ P' T' FT',Ending.returned (PT P)=.returned (PT P')∧cQ W P' d ek mk ⟨n,ep,af,root,List.replicate n Mr.Mk.zero,[],0,[]⟩ ks T' FT' .nilFunc (List.replicate n false) 0∧(∀ k,FT' k→w.heap.size≤k)∧w.heap.size≤P'∧P'<W.heap.size∧Below w.heap.size w W):=fun W P T FT hR hTr hF hFP hP hB =>
  ⟨P,T,FT,rfl,⟨EP (by rw[hrs.out] at hR;exact hR.here) hk.vec.len hroot,hk,hTr,List.length_replicate,h8,hroot,hb1,fun h=>by have:=hFP P h;omega⟩,fun k hk=>Nat.le_trans HBL.out.size (hF k hk),hP,hR.lt,hB⟩
 have Hs1:Hid (ks.toArray.size=48):=hk.size
 have hi1:(Tryz.prog.info? 29).map (·.size)=some ks.length:=by rw[HKl.out];kernel_rfl
 have hi2:(Tryz.prog.info? 41).map (·.size)=some rs.length:=by rw[HRl.out];kernel_rfl
 clear hk h8 mI hb1 hroot hrs hT HX HY
 go_enter Tryz.func33,Tryz.ntmps33
 go_wp2_with fail
 rw[← hw0]
 clear hw0
 have hC:Below w0.heap.size w0 w0.drew:=below_drewN (Below.refl _ _) 1
 refine wp_region_held_drew (S:=(fun W=>W.rangeAt w.heap.size 0 ks∧W.rangeAt (w.heap.size+1) 0 rs)) (by kernel_rfl) (ai.out _ hC) (fun aa=>?_)
 generalize w0.drew=w0d at *
 refine tkq 0 9 aa ?_
 try go_frame
 refine tkh 1 10 (v:=.agg (ks).toArray) rfl aa ?_ (yieldsIf_load_mid (by rfl) 29 (.tmp 5) rfl (w.heap.size) 0 rfl (ks) _ (fun W h=>h.1) Tryz.underlying29 rfl hi1)
 try go_frame
 refine tkh 2 11 (v:=.agg (rs).toArray) rfl aa ?_ (yieldsIf_load_mid (by rfl) 41 (.tmp 7) rfl ((w.heap.size+1)) 0 rfl (rs) _ (fun W h=>h.2) Tryz.underlying41 rfl hi2)
 try go_frame
 refine tkh 3 12 (v:=.agg (ks).toArray) rfl aa ?_ (yieldsIf_load_mid (by rfl) 29 (.tmp 5) rfl (w.heap.size) 0 rfl (ks) _ (fun W h=>h.1) Tryz.underlying29 rfl hi1)
 try go_frame
 refine tkq 4 13 aa ?_
 try go_frame
 refine rdq 5 14 fun K hK=>?_
 go_simp
 go_at_call 50
 have hC0:=hC
 refine(HNt.out w0d hC).mono ?_
 rintro e ja ⟨T,FT,rfl,hT,hFT,hb⟩
 have F_T:Hid (Mr.T9 ja FT T mk (List.replicate n Mr.Mk.zero) (List.replicate n false) 0):=hT
 replace hC:=hC.trans (hb.mono hC.size)
 refine hK.out _ _ (ai.out _ hC) (fun aa=>?_)
 clear hK K hb 
 have KX:Hid (∀ k,FT k→w0.heap.size≤k):=fun k hk=>Nat.le_trans hC0.size (hFT k hk)
 clear hT hFT hC0
 try go_frame
 refine tkh 6 15 (v:=.agg (PT d::(ks++(rs++[PT T,nF]))).toArray) rfl aa ?_ (gL (by rfl) 92 [(0,.tmp 9),(1,.tmp 10),(2,.tmp 11),(3,.tmp 14)] rfl [(0,PT d),(1,.agg ks.toArray),(2,.agg rs.toArray),(3,PT T)] (by rfl) _ (Lp d ks rs T HKl.out HRl.out))
 try go_frame
 refine rdq 7 16 fun K hK=>?_
 go_simp
 have hb:Below ja.heap.size ja (ja.alloc (.cells (PT d::(ks++(rs++[PT T,nF]))).toArray 92)):=Joins.below_alloc1 _ _
 have Ah:=hC.size
 obtain ⟨K8,lC⟩:∃ g,Hid (g=ja.heap.size):=⟨_,rfl⟩
 have Fz:Hid (Row (ja.alloc (.cells (PT d::(ks++(rs++[PT T,nF]))).toArray 92)) ja.heap.size 92 (PT d::(ks++(rs++[PT T,nF])))):=Row.new ja 92 _
 have Gh:Hid (∀ k,FT k→k<ja.heap.size):=Mr.aL.lt F_T.out
 replace hC:=hC.trans (hb.mono hC.size)
 replace F_T:=ae (Mr.aL.stay F_T.out (Chg.below hb fun _ _=>False) fun _ _ _ x=>x)
 refine hK.out _ _ (ai.out _ hC) (fun aa=>?_)
 clear hK K hb
 generalize (ja.alloc (.cells (PT d::(ks++(rs++[PT T,nF]))).toArray 92))=L4 at *
 rw[← lC.out] at Ah ⊢
 rw[← lC.out] at Fz
 rw[← lC.out] at Gh
 clear lC
 try go_frame
 refine tkq 8 8 aa ?_
 try go_frame
 refine wpAnyH_done (by kernel_rfl) ?_ _
 clear ai aa
 have HC:=ae (HBL.out.trans (hC.mono HBL.out.size))
 have HCs:=ae hC.size
 clear hC
 go_wp2
 go_ret
 exact eT.out _ K8 T FT Fz.out F_T.out KX.out Gh.out (Nat.le_trans HBL.out.size Ah) HC.out
end Go.Proofs.YthbmknpbcgnabaaGreatDoor
