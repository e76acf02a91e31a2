/- Of the walk. -/
import Derived.Test.YthbmknpbcgnabaaGreatDoorB31
set_option maxHeartbeats 40000000
namespace Go.Proofs.YthbmknpbcgnabaaGreatDoor
open Go.RowKit Aes Ctr Sl Dsk
abbrev PT (p:Nat):Value:=.pointer (some ⟨p,0,none⟩)
abbrev IV (x:Nat):Value:=.int .i64 (x:Int)
abbrev wrV (C:Nat):Value:=.func (.func 51) #[PT C] #[]
abbrev flV (C:Nat):Value:=.func (.func 92) #[PT C] #[]
abbrev fiV (C:Nat):Value:=.func (.func 124) #[PT C] #[]
def NR (d:Nat) (ks:List Value) (ep af:Nat) (root:List UInt8) (T:Nat) (nx:Value):List Value:=PT d::(ks++(dL ep af root++[PT T,nx]))
def JC (P ep af:Nat) (root:List UInt8) (bv:Value) (wr T:Nat):List Value:=PT P::(dL ep af root++[bv,IV wr,PT T])
theorem aW {ep af:Nat} {root:List UInt8} (h:root.length=32):(dL ep af root).length=34:=by
 show (_::_::root.map V8).length=34
 rw[List.length_cons,List.length_cons,List.length_map,h]
theorem jw {w:World} {b o:Nat} {x:Value} {l:List Value} (h:aj w b o (x::l)):aj w b o [x]∧aj w b (o+1) l:=by
 have h':aj w b o ([x]++l):=h
 exact⟨h'.left,h'.right⟩
theorem bX {w:World} {b o:Nat} {x:Value} (h:aj w b o [x]):w.cell? ⟨b,o,none⟩=some x:=by have:=h.cell (j:=0) rfl;rwa [Nat.add_zero] at this
structure fN (w:World) (P d:Nat) (ks:List Value) (ep af:Nat) (root:List UInt8) (T:Nat) (nx:Value):Prop where
 c0:aj w P 0 [PT d]
 ks:aj w P 1 ks
 reg:aj w P 49 (dL ep af root)
 c83:aj w P 83 [PT T]
 c84:aj w P 84 [nx]
structure gJ (w:World) (C P ep af:Nat) (root:List UInt8) (bv:Value) (wr T:Nat):Prop where
 c0:aj w C 0 [PT P]
 reg:aj w C 1 (dL ep af root)
 c35:aj w C 35 [bv]
 c36:aj w C 36 [IV wr]
 c37:aj w C 37 [PT T]
section
variable {w w':World} {P d ep af T C wr:Nat} {ks:List Value} {root:List UInt8} {nx bv:Value} {X:Nat→Nat→Prop}
theorem EP (h:aj w P 0 (NR d ks ep af root T nx)) (hk:ks.length=48) (hr:root.length=32):fN w P d ks ep af root T nx:=by
 obtain ⟨h0,h1⟩:=jw h
 have h2:=h1.left
 have h3:=h1.right
 rw[hk] at h3
 have h4:=h3.left
 have h5:=h3.right
 rw[aW hr] at h5
 obtain ⟨h6,h7⟩:=jw h5
 exact⟨h0,h2,h4,h6,h7⟩
theorem Fh (h:aj w C 0 (JC P ep af root bv wr T)) (hr:root.length=32):gJ w C P ep af root bv wr T:=by
 obtain ⟨h0,h1⟩:=jw h
 have h4:=h1.left
 have h5:=h1.right
 rw[aW hr] at h5
 obtain ⟨h6,h7⟩:=jw h5
 obtain ⟨h8,h9⟩:=jw h7
 exact⟨h0,h4,h6,h8,h9⟩
theorem fN.chg (h:fN w P d ks ep af root T nx) (hc:Chg X w w') (hn:∀ o,¬ X P o):fN w' P d ks ep af root T nx :=
 ⟨h.c0.chg hc fun _ _=>hn _,h.ks.chg hc fun _ _=>hn _,h.reg.chg hc fun _ _=>hn _,h.c83.chg hc fun _ _=>hn _,h.c84.chg hc fun _ _=>hn _⟩
theorem gJ.chg (h:gJ w C P ep af root bv wr T) (hc:Chg X w w') (hn:∀ o,¬ X C o):gJ w' C P ep af root bv wr T :=
 ⟨h.c0.chg hc fun _ _=>hn _,h.reg.chg hc fun _ _=>hn _,h.c35.chg hc fun _ _=>hn _,h.c36.chg hc fun _ _=>hn _,h.c37.chg hc fun _ _=>hn _⟩
theorem fN.cells (h:fN w P d ks ep af root T nx):w.cell? ⟨P,0,none⟩=some (PT d)∧w.cell? ⟨P,49,none⟩=some (.int .u64 (ep:Int))∧w.cell? ⟨P,50,none⟩=some (IV af)∧w.cell? ⟨P,83,none⟩=some (PT T)∧w.cell? ⟨P,84,none⟩=some nx :=
 ⟨bX h.c0,h.reg.cell (j:=0) rfl,h.reg.cell (j:=1) rfl,bX h.c83,bX h.c84⟩
theorem gJ.cells (h:gJ w C P ep af root bv wr T):w.cell? ⟨C,0,none⟩=some (PT P)∧w.cell? ⟨C,1,none⟩=some (.int .u64 (ep:Int))∧w.cell? ⟨C,2,none⟩=some (IV af)∧w.cell? ⟨C,35,none⟩=some bv∧w.cell? ⟨C,36,none⟩=some (IV wr)∧w.cell? ⟨C,37,none⟩=some (PT T) :=
 ⟨bX h.c0,h.reg.cell (j:=0) rfl,h.reg.cell (j:=1) rfl,bX h.c35,bX h.c36,bX h.c37⟩
theorem fN.next (h:fN w P d ks ep af root T nx) (hk:ks.length=48) (hr:root.length=32) (v:Value):fN (w.setCell ⟨P,84,none⟩ v) P d ks ep af root T v:=by
 have off:∀ {o:Nat} {cs:List Value},aj w P o cs→o+cs.length≤84→aj (w.setCell ⟨P,84,none⟩ v) P o cs:=fun h hl=>h.ej [v] (.inr (.inl hl))
 exact⟨off h.c0 (by simp),off h.ks (by omega),off h.reg (by rw[aW hr];omega),off h.c83 (by simp),h.c84.set [v] rfl⟩
theorem gJ.wrote (h:gJ w C P ep af root bv wr T) (hr:root.length=32) (x:Nat):gJ (w.setCell ⟨C,36,none⟩ (IV x)) C P ep af root bv x T:=by
 have lo:∀ {o:Nat} {cs:List Value},aj w C o cs→o+cs.length≤36→aj (w.setCell ⟨C,36,none⟩ (IV x)) C o cs:=fun h hl=>h.ej [IV x] (.inr (.inl hl))
 exact⟨lo h.c0 (by simp),lo h.reg (by rw[aW hr];omega),lo h.c35 (by simp),h.c36.set [IV x] rfl,h.c37.ej [IV x] (.inr (.inr (by simp)))⟩
theorem gJ.JY (h:gJ w C P ep af root bv wr T) (hr:root.length=32) (rt:List UInt8) (ht:rt.length=32):gJ (w.setCells C 3 (rt.map V8)) C P ep af rt bv wr T:=by
 have hi:∀ {o:Nat} {cs:List Value},aj w C o cs→35≤o→aj (w.setCells C 3 (rt.map V8)) C o cs:=fun h hl=>h.ej (rt.map V8) (.inr (.inr (by rw[List.length_map,ht];omega)))
 have Ib:aj w C 1 ([Value.int .u64 (ep:Int),.int .i64 (af:Int)]++root.map V8):=h.reg
 have h1:=Ib.left.ej (b':=C) (o':=3) (rt.map V8) (.inr (.inl (by simp)))
 have h2:=(Ib.right).set (rt.map V8) (by rw[List.length_map,List.length_map,hr,ht])
 exact⟨h.c0.ej (rt.map V8) (.inr (.inl (by simp))),h1.append h2,hi h.c35 (by omega),hi h.c36 (by omega),hi h.c37 (by omega)⟩
theorem fN.regs (h:fN w P d ks ep af root T nx) (hk:ks.length=48) (hr:root.length=32) (ep' wF:Nat) (rt:List UInt8) (ht:rt.length=32):fN (w.setCells P 49 (dL ep' wF rt)) P d ks ep' wF rt T nx:=by
 have hl:=aW (ep:=ep') (af:=wF) ht
 have lo:∀ {o:Nat} {cs:List Value},aj w P o cs→o+cs.length≤49→aj (w.setCells P 49 (dL ep' wF rt)) P o cs:=fun h hl=>h.ej _ (.inr (.inl hl))
 have hi:∀ {o:Nat} {cs:List Value},aj w P o cs→83≤o→aj (w.setCells P 49 (dL ep' wF rt)) P o cs:=fun h hl'=>h.ej _ (.inr (.inr (by rw[hl];omega)))
 exact⟨lo h.c0 (by simp),lo h.ks (by omega),h.reg.set _ (by rw[hl,aW hr]),hi h.c83 (by omega),hi h.c84 (by omega)⟩
theorem fN.Mg (h:fN w P d ks ep af root T nx) (hk:ks.length=48) (hr:root.length=32) (T':Nat):fN (w.setCell ⟨P,83,none⟩ (PT T')) P d ks ep af root T' nx:=by
 have lo:∀ {o:Nat} {cs:List Value},aj w P o cs→o+cs.length≤83→aj (w.setCell ⟨P,83,none⟩ (PT T')) P o cs:=fun h hl=>h.ej [PT T'] (.inr (.inl hl))
 exact⟨lo h.c0 (by simp),lo h.ks (by omega),lo h.reg (by rw[aW hr];omega),h.c83.set [PT T'] rfl,h.c84.ej [PT T'] (.inr (.inr (by simp)))⟩
theorem iM (h:fN w P d ks ep af root T nx):(w.cell? ⟨P,83,none⟩).isSome=true∧(w.cell? ⟨P,84,none⟩).isSome=true∧w.frozen? ⟨P,83,none⟩=false∧w.frozen? ⟨P,84,none⟩=false :=
 ⟨by rw[bX h.c83];rfl,by rw[bX h.c84];rfl,by have:=h.c83.free (j:=0) (by simp);rwa [Nat.add_zero] at this,by have:=h.c84.free (j:=0) (by simp);rwa [Nat.add_zero] at this⟩
end
structure cQ (w:World) (P d:Nat) (ek mk:List UInt8) (s:Bk.Bn) (ks:List Value) (T:Nat) (FT:Nat→Prop) (nx:Value) (S:List Bool) (V:Nat):Prop where
 at_:fN w P d ks s.ep s.af s.root T nx
 keys:cz ek mk ks
 tree:Mr.T9 w FT T mk s.tags S V
 tl:s.tags.length=s.n
 n8:8≤s.n
 r32:s.root.length=32
 b1:s.af≤1
 PF:¬ FT P
structure oQ (w:World) (P:Nat) (mk:List UInt8) (s:Bk.Bn) (C T:Nat) (FT KB:Nat→Prop) (rt:List UInt8) (bv:Value) (S:List Bool):Prop where
 at_:gJ w C P (s.ep+1) (1 - s.af) rt bv (min s.at_ s.n) T
 r32:rt.length=32
 tree:Mr.T9 w FT T mk (s.next++List.replicate (s.n - s.next.length) Mr.Mk.zero) S 0
 parts:aI w KB bv s.L
 len:s.L.length=s.n
 l64:∀ x∈s.L,x.length=64
 atn:s.at_≤s.n+1
 ye:s.next.length=min s.at_ s.n
 CF:¬ FT C
 PF:¬ FT P
 KF:∀ k,KB k→¬ FT k
 KC:¬ KB C
 KP:¬ KB P
 CP:C≠P
def b8 (s:Bk.Bn) (C:Nat):Value:=if s.at_<s.n then wrV C else if s.at_=s.n then flV C else fiV C
section
variable {w w':World} {P d:Nat} {ek mk:List UInt8} {s:Bk.Bn} {ks:List Value} {T C:Nat} {FT KB:Nat→Prop} {nx:Value} {S:List Bool} {V:Nat} {rt:List UInt8} {bv:Value} {X:Nat→Nat→Prop}
theorem cQ.kl (h:cQ w P d ek mk s ks T FT nx S V):ks.length=48:=h.keys.vec.len
theorem cQ.n100 (h:cQ w P d ek mk s ks T FT nx S V):s.n≤100:=by rw[← h.tl];exact(Mr.aL.len h.tree).2.2.1
theorem cQ.chg (h:cQ w P d ek mk s ks T FT nx S V) (hc:Chg X w w') (hP:∀ o,¬ X P o) (hF:∀ k o,FT k→¬ X k o):cQ w' P d ek mk s ks T FT nx S V :=
 ⟨h.at_.chg hc hP,h.keys,Mr.aL.stay h.tree hc hF,h.tl,h.n8,h.r32,h.b1,h.PF⟩
theorem cQ.below (h:cQ w P d ek mk s ks T FT nx S V) (hb:Below w.heap.size w w'):cQ w' P d ek mk s ks T FT nx S V:=h.chg (Chg.below hb fun _ _=>False) (fun _ x=>x) fun _ _ _ x=>x
theorem oQ.chg (h:oQ w P mk s C T FT KB rt bv S) (hc:Chg X w w') (hC:∀ o,¬ X C o) (hF:∀ k o,FT k→¬ X k o) (hK:∀ k o,KB k→¬ X k o):oQ w' P mk s C T FT KB rt bv S :=
 ⟨h.at_.chg hc hC,h.r32,Mr.aL.stay h.tree hc hF,h.parts.chg hc hK,h.len,h.l64,h.atn,h.ye,h.CF,h.PF,h.KF,h.KC,h.KP,h.CP⟩
theorem oQ.below (h:oQ w P mk s C T FT KB rt bv S) (hb:Below w.heap.size w w'):oQ w' P mk s C T FT KB rt bv S:=h.chg (Chg.below hb fun _ _=>False) (fun _ x=>x) (fun _ _ _ x=>x) fun _ _ _ x=>x
end
def BL:L0:=fun w F P d ek mk s=>∃ ks T FT nx S V,cQ w P d ek mk s ks T FT nx S V∧F P∧(∀ k,FT k→F k)∧(∀ k,F k→k<w.heap.size) ∧
 ((s.L=[]∧nx=.nilFunc)∨∃ C T2 FT2 KB rt bv S2,oQ w P mk s C T2 FT2 KB rt bv S2∧nx=b8 s C∧¬ FT C∧(∀ k,FT2 k→¬ FT k)∧F C∧(∀ k,FT2 k→F k)∧∀ k,KB k→F k)
theorem BL.stay {w w':World} {F:Nat→Prop} {P d:Nat} {ek mk:List UInt8} {s:Bk.Bn} {X:Nat→Nat→Prop} (h:BL w F P d ek mk s) (hc:Chg X w w') (hn:∀ k o,F k→¬ X k o):BL w' F P d ek mk s:=by
 obtain ⟨ks,T,FT,nx,S,V,hH,hP,hT,hl,hb⟩:=h
 refine⟨ks,T,FT,nx,S,V,hH.chg hc (fun o=>hn P o hP) (fun k o hk=>hn k o (hT k hk)),hP,hT,fun k hk=>Nat.lt_of_lt_of_le (hl k hk) hc.size,?_⟩
 rcases hb with hb | ⟨C,T2,FT2,KB,rt,bv,S2,hC,hx,h1,h2,h3,h4,h5⟩
 ·exact .inl hb
 ·exact .inr ⟨C,T2,FT2,KB,rt,bv,S2,hC.chg hc (fun o=>hn C o h3) (fun k o hk=>hn k o (h4 k hk)) (fun k o hk=>hn k o (h5 k hk)),hx,h1,h2,h3,h4,h5⟩
def eo (w:World) (K:Nat→Prop) (v:Value) (l:List (List UInt8)):Prop :=
 (∃ A c,v=.slice A 0 c∧l=[])∨∃ b o cap,v=.slice (some ⟨b,o,none⟩) l.length cap∧(b<w.heap.size∧K b)∧ah w b o (l.map VS)
section
variable {w w':World} {K K':Nat→Prop} {S:Nat→Nat→Prop} {v:Value} {l:List (List UInt8)}
theorem eo.chg (h:eo w K v l) (hc:Chg S w w') (hn:∀ k o,K k→¬ S k o):eo w' K v l:=by
 rcases h with h | ⟨b,o,cap,e,hb,hs⟩
 ·exact .inl h
 ·exact .inr ⟨b,o,cap,e,⟨Nat.lt_of_lt_of_le hb.1 hc.size,hb.2⟩,dK hs hc hb.1 fun o'=>hn b o' hb.2⟩
theorem eo.below (h:eo w K v l) (hb:Below w.heap.size w w'):eo w' K v l:=h.chg (Chg.below hb fun _ _=>False) fun _ _ _ x=>x
theorem eo.imp (h:eo w K v l) (hk:∀ k,K k→k<w.heap.size→K' k):eo w K' v l:=by
 rcases h with h | ⟨b,o,cap,e,hb,hs⟩
 ·exact .inl h
 ·exact .inr ⟨b,o,cap,e,⟨hb.1,hk b hb.2 hb.1⟩,hs⟩
theorem eo.form (h:eo w K v l):∃ A cap,v=.slice A l.length cap:=by
 rcases h with ⟨A,c,e,rfl⟩ | ⟨b,o,cap,e,_⟩
 ·exact⟨A,c,e⟩
 ·exact⟨_,cap,e⟩
theorem eo.at_ (h:eo w K v l) {i:Nat} (hi:i<l.length):∃ b o cap,v=.slice (some ⟨b,o,none⟩) l.length cap∧b<w.heap.size∧K b∧w.cell? ⟨b,o+i,none⟩=some (VS (l.getD i [])):=by
 rcases h with ⟨A,c,e,rfl⟩ | ⟨b,o,cap,e,hb,hs⟩
 ·simp at hi
 ·refine⟨b,o,cap,e,hb.1,hb.2,hs i _ ?_⟩
  rw[List.getElem?_map,List.getElem?_eq_getElem hi,List.getD_eq_getElem?_getD,List.getElem?_eq_getElem hi]
  rfl
theorem Own.xK {B:Nat} (h:Own w B 9 v (l.map VS)) (hK:∀ k,v.ownBlock=some k→K k):eo w K v l:=by
 cases l with
 | nil =>
  rcases h.2 with ⟨rfl,_⟩ | ⟨g,cap,cur,rfl,_⟩
  ·exact .inl ⟨none,0,rfl,rfl⟩
  ·exact .inl ⟨_,cap,rfl,rfl⟩
 | cons p r =>
  obtain ⟨g,cap,e,_,hg,hs⟩:=h.form (by simp)
  rw[List.length_map] at e
  refine .inr ⟨g,0,cap,e,⟨hg,hK g ?_⟩,hs⟩
  rw[e];rfl
end
def cU (M kp n:Nat) (ep af:Nat) (root:List UInt8) (tv lv:Value) (a:Nat) (nv:Value) (wb wc:Nat) (al:Bool):List Value :=
 [PT M,PT kp,IV n,.int .u64 (ep:Int),IV af,VS root,tv,lv,IV a,nv,.slice (some ⟨wb,0,none⟩) (2*n) wc,.bool al]
structure RB (w:World) (F G K:Nat→Prop) (P M kp wb:Nat) (ek mk:List UInt8) (s:Bk.Bn) (D:List Blk) (ws:List (List UInt8)):Prop where
 dN:bL w G M D
 key:cD w K kp ek mk
 lg:ek.length=16
 inF:F P∧F wb∧P≠wb
 lt:(∀ k,F k→k<w.heap.size)∧∀ k,K k→k<w.heap.size
 apart:(∀ k,F k→¬ G k∧¬ K k)∧∀ k,K k→¬ G k
 wrote:aj w wb 0 (ws.map VS)∧ws.length=2*s.n
 nums:s.n≤100∧s.af≤1∧s.at_≤s.n+1
 head:∃ tv lv a nv wc al,aj w P 0 (cU M kp s.n s.ep s.af s.root tv lv a nv wb wc al)
  ∧ eo w (fun k=>F k∧k≠P∧k≠wb∧(s.L≠[]→nv.ownBlock≠some k)) tv s.tags∧eo w (fun k=>F k∧k≠P∧k≠wb∧(s.L≠[]→nv.ownBlock≠some k)) lv s.L
  ∧ (s.L≠[]→a=s.at_∧Own w 0 9 nv (s.next.map VS)∧∀ k,nv.ownBlock=some k→F k∧k≠P∧k≠wb)
theorem RB.stay {w w':World} {F G K:Nat→Prop} {P M kp wb:Nat} {ek mk:List UInt8} {s:Bk.Bn} {D:List Blk} {ws:List (List UInt8)} (h:RB w F G K P M kp wb ek mk s D ws) (hb:Below w.heap.size w w'):RB w' F G K P M kp wb ek mk s D ws:=by
 obtain ⟨tv,lv,a,nv,wc,al,hh,ht,hl,hn⟩:=h.head
 refine⟨h.dN.below hb,h.key.below hb,h.lg,h.inF,⟨fun k hk=>Nat.lt_of_lt_of_le (h.lt.1 k hk) hb.size,fun k hk=>Nat.lt_of_lt_of_le (h.lt.2 k hk) hb.size⟩,h.apart,⟨h.wrote.1.stay hb,h.wrote.2⟩,h.nums,tv,lv,a,nv,wc,al,hh.stay hb,ht.below hb,hl.below hb,fun hL=>⟨(hn hL).1,(hn hL).2.1.below hb (Nat.le_refl _),(hn hL).2.2⟩⟩
namespace Bk
structure Ok (n:Nat) (s:Bn) (D:List Blk):Prop where
 hn:s.n=n
 b1:s.af≤1
 dl:D.length=2*n
 ep1:1≤s.ep
 r32:s.root.length=32
 tl:s.tags.length=n
 t32:∀ t∈s.tags,t.length=32
 busy:s.L≠[]→s.L.length=n∧(∀ x∈s.L,x.length=64)∧s.at_≤n+1∧s.next.length=min s.at_ n∧∀ t∈s.next,t.length=32
def pot (s:Bn):Nat:=if s.L=[] then s.ep else s.ep+1
theorem D5 (s:Bn):s.ep≤pot s:=by unfold pot;split <;> omega
section
variable {ek mk:List UInt8} {n:Nat} {s:Bn} {D:List Blk}
theorem DL (mk:List UInt8) (l:List (List UInt8)) (h32:∀ t∈l,t.length=32) (h:l.length≤100):(b7 mk l).length=32:=by
 have hh:=sD l.length h
 have hf:(Mr.Mk.full l (hB l.length)).length=4 ^ hB l.length:=Mr.Mk.kD l _ (by
  have:=hh.2.1
  rw[← Mr.Mk.fc] at this
  omega)
 have h1:=Mr.Mk.iI mk _ _ hf (hB l.length) (Nat.le_refl _)
 rw[Nat.sub_self,Nat.pow_zero] at h1
 unfold b7 Mr.Mk.root
 rw[List.getD_eq_getElem?_getD,List.getElem?_eq_getElem (by omega)]
 exact Mr.Mk.Ev mk _ (Mr.Mk.Ap l _ h32) _ _ (List.getElem_mem _)
theorem mA {af ep:Nat} {f:Nat→List UInt8}:∀ i,∀ t∈(bw ek mk n af ep f i D).2,t.length=32
 | 0,t,ht=>by cases ht
 | i+1,t,ht=>by
  rw[bw] at ht
  rcases List.mem_append.1 ht with h | h
  ·exact mA i t h
  ·rw[List.mem_singleton.1 h];exact jk _ _ _
theorem Ok.format (h:n≤100) (hD:D.length=2*n):Ok n (Bk.format ek mk n D).1 (Bk.format ek mk n D).2:=by
 have hl:=(cC (ek:=ek) (mk:=mk) (n:=n) (af:=0) (ep:=1) (f:=fun _=>z64) (D:=D) n)
 exact⟨rfl,by show 0≤1;omega,by show (flush _).length=_;rw[fI,hl.1,hD],by show 1≤1;omega,DL mk _ (mA n) (by rw[hl.2];exact h),hl.2,mA n,fun e=>absurd rfl e⟩
theorem Ok.dN {D':List Blk} (h:Ok n s D) (hD:D'.length=D.length):Ok n s D':=⟨h.hn,h.b1,by rw[hD];exact h.dl,h.ep1,h.r32,h.tl,h.t32,h.busy⟩
theorem Ok.bA (h:Ok n s D) (l:List (List UInt8)):Ok n (Bk.bA s l).1 D∧pot (Bk.bA s l).1≤pot s+1:=by
 unfold Bk.bA
 split
 ·exact⟨h,Nat.le_add_right _ _⟩
 ·rename_i h1
  have h1':s.L=[]:=Classical.byContradiction h1
  split
  ·rename_i h2
   refine⟨⟨h.hn,h.b1,h.dl,h.ep1,h.r32,h.tl,h.t32,fun _=>⟨by show l.length=n;rw[h2.2];exact h.hn,h2.1,by show 0≤n+1;omega,(Nat.zero_min _).symm,fun t ht=>by cases ht⟩⟩,?_⟩
   unfold pot
   rw[if_pos h1']
   show (if l=[] then s.ep else s.ep+1)≤_
   split <;> omega
  ·exact⟨h,Nat.le_add_right _ _⟩
theorem Ok.step (h:Ok n s D) (mI:n≤100):Ok n (Bk.step ek mk s D).1.1 (Bk.step ek mk s D).1.2∧pot (Bk.step ek mk s D).1.1≤pot s:=by
 unfold Bk.step
 split
 ·exact⟨h,Nat.le_refl _⟩
 ·rename_i hL
  obtain ⟨b1,b2,b3,b4,b5⟩:=h.busy hL
  split
  ·rename_i ha
   rw[h.hn] at ha
   refine⟨⟨h.hn,h.b1,(pN (ek:=ek) (mk:=mk) (n:=s.n) (af:=1 - s.af) (i:=s.at_) (ep:=s.ep+1) (p:=s.L.getD s.at_ []) (D:=D)).trans h.dl,h.ep1,h.r32,h.tl,h.t32,fun _=>⟨b1,b2,by show s.at_+1≤_;omega,?_,fun t ht=>?_⟩⟩,Nat.le_refl _⟩
   ·show (s.next++[_]).length=min (s.at_+1) n
    rw[List.length_append,b4]
    show min s.at_ n+1=_
    omega
   ·rcases List.mem_append.1 ht with h' | h'
    ·exact b5 t h'
    ·rw[List.mem_singleton.1 h'];exact jk _ _ _
  ·rename_i ha
   rw[h.hn] at ha
   split
   ·rename_i ha2
    rw[h.hn] at ha2
    exact⟨⟨h.hn,h.b1,by show (flush D).length=_;rw[fI];exact h.dl,h.ep1,h.r32,h.tl,h.t32,fun _=>⟨b1,b2,by show s.at_+1≤_;omega,by show s.next.length=min (s.at_+1) n;rw[b4];omega,b5⟩⟩,Nat.le_refl _⟩
   ·rename_i ha2
    rw[h.hn] at ha2
    have hnl:s.next.length=n:=by rw[b4];omega
    refine⟨⟨h.hn,by show 1 - s.af≤1;omega,h.dl,by show 1≤s.ep+1;omega,DL mk _ b5 (by omega),hnl,b5,fun e=>absurd rfl e⟩,?_⟩
    unfold pot
    rw[if_neg hL,if_pos rfl]
    exact Nat.le_refl _
theorem xF {af:Nat}:(b9 mk n af D).length=n:=by unfold b9;simp
theorem pE {af:Nat}:∀ t∈b9 mk n af D,t.length=32:=fun t ht=>by
 unfold b9 at ht
 obtain ⟨i,_,rfl⟩:=List.mem_map.1 ht
 exact jk _ _ _
theorem Ok.cH {s':Bn} (h:Ok n s D) (hm:Bk.cH mk n s.ep s.af s.root D=some s'):Ok n s' D∧pot s'≤pot s:=by
 unfold Bk.cH at hm
 split at hm
 ·injection hm with hm
  subst hm
  refine⟨⟨rfl,h.b1,h.dl,h.ep1,h.r32,xF,pE,fun e=>absurd rfl e⟩,?_⟩
  have:=D5 s
  unfold pot at *
  rw[if_pos rfl]
  exact this
 ·cases hm
end
end Bk
section
variable {w w':World} {F G K:Nat→Prop} {P M kp wb:Nat} {ek mk:List UInt8} {s:Bk.Bn} {D D':List Blk} {ws:List (List UInt8)}
theorem ij {S:Nat→Nat→Prop} {B:Nat} {e:TypeId} {v:Value} {l:List Value} (h:Own w B e v l) (hc:Chg S w w') (hn:∀ k,v.ownBlock=some k→∀ o,¬ S k o):Own w' B e v l:=by
 cases hv:v.ownBlock with
 | none =>
  have hb:w.grownBy { w' with heap:=w.heap } none:=⟨hc.os,hc.tape,hc.output,Nat.le_refl _,fun _ _ _=>rfl⟩
  rcases h.2 with ⟨rfl,h0⟩ | ⟨g,cap,cur,rfl,_⟩
  ·exact⟨h.1,.inl ⟨rfl,h0⟩⟩
  ·cases hv
 | some k =>
  rcases h.2 with ⟨rfl,h0⟩ | ⟨g,cap,cur,rfl,h1,h2,h3⟩
  ·cases hv
  ·have hk:g=k:=by injection hv
   subst hk
   refine⟨h.1,.inr ⟨g,cap,cur,rfl,h1,?_,h3⟩⟩
   rw[hc.block g (Array.getElem?_eq_some_iff.1 h2).1 (hn g hv)]
   exact h2
theorem RB.chg {S:Nat→Nat→Prop} (h:RB w F G K P M kp wb ek mk s D ws) (hc:Chg S w w') (hF:∀ k o,F k→¬ S k o) (hG:∀ k o,G k→¬ S k o) (hK:∀ k o,K k→¬ S k o):RB w' F G K P M kp wb ek mk s D ws:=by
 obtain ⟨tv,lv,a,nv,wc,al,hh,ht,hl,hn⟩:=h.head
 exact⟨h.dN.stay hc fun k o hg=>hG k o hg,h.key.chg hc hK,h.lg,h.inF,⟨fun k hk=>Nat.lt_of_lt_of_le (h.lt.1 k hk) hc.size,fun k hk=>Nat.lt_of_lt_of_le (h.lt.2 k hk) hc.size⟩,h.apart,⟨h.wrote.1.chg hc fun _ _=>hF _ _ h.inF.2.1,h.wrote.2⟩,h.nums,
  tv,lv,a,nv,wc,al,hh.chg hc fun _ _=>hF _ _ h.inF.1,ht.chg hc fun k o hk=>hF k o hk.1,hl.chg hc fun k o hk=>hF k o hk.1,fun hL=>⟨(hn hL).1,ij (hn hL).2.1 hc fun k hk o=>hF k o ((hn hL).2.2 k hk).1,(hn hL).2.2⟩⟩
theorem RB.tO (h:RB w F G K P M kp wb ek mk s D ws) (hd:aO w G w' M D'):RB w' F G K P M kp wb ek mk s D' ws:=by
 obtain ⟨hR,hc⟩:=hd
 obtain ⟨tv,lv,a,nv,wc,al,hh,ht,hl,hn⟩:=h.head
 have hF:∀ k (_:Nat),F k→¬ G k:=fun k _ hk=>(h.apart.1 k hk).1
 exact⟨hR,h.key.chg hc fun k _ hk=>h.apart.2 k hk,h.lg,h.inF,⟨fun k hk=>Nat.lt_of_lt_of_le (h.lt.1 k hk) hc.size,fun k hk=>Nat.lt_of_lt_of_le (h.lt.2 k hk) hc.size⟩,h.apart,⟨h.wrote.1.chg hc fun j _=>hF _ j h.inF.2.1,h.wrote.2⟩,h.nums,
  tv,lv,a,nv,wc,al,hh.chg hc fun j _=>hF _ j h.inF.1,ht.chg hc fun k o hk=>hF k o hk.1,hl.chg hc fun k o hk=>hF k o hk.1,fun hL=>⟨(hn hL).1,ij (hn hL).2.1 hc fun k hk o=>hF k o ((hn hL).2.2 k hk).1,(hn hL).2.2⟩⟩
theorem RB.gone (h:RB w F G K P M kp wb ek mk s D ws):P<w.heap.size∧wb<w.heap.size:=⟨h.lt.1 P h.inF.1,h.lt.1 wb h.inF.2.1⟩
end
structure gH (w:World) (F G K:Nat→Prop) (P M kp wb:Nat) (ek mk:List UInt8) (n:Nat) (D:List Blk) (ws:List (List UInt8)):Prop where
 dN:bL w G M D
 key:cD w K kp ek mk
 lg:ek.length=16
 inF:F P∧F wb∧P≠wb
 lt:(∀ k,F k→k<w.heap.size)∧∀ k,K k→k<w.heap.size
 apart:(∀ k,F k→¬ G k∧¬ K k)∧∀ k,K k→¬ G k
 wrote:aj w wb 0 (ws.map VS)∧ws.length=2*n
section
variable {w w':World} {F G K:Nat→Prop} {P M kp wb n:Nat} {ek mk:List UInt8} {s:Bk.Bn} {D D':List Blk} {ws:List (List UInt8)}
theorem RB.base (h:RB w F G K P M kp wb ek mk s D ws):gH w F G K P M kp wb ek mk s.n D ws:=⟨h.dN,h.key,h.lg,h.inF,h.lt,h.apart,h.wrote⟩
theorem gH.stay (h:gH w F G K P M kp wb ek mk n D ws) (hb:Below w.heap.size w w'):gH w' F G K P M kp wb ek mk n D ws :=
 ⟨h.dN.below hb,h.key.below hb,h.lg,h.inF,⟨fun k hk=>Nat.lt_of_lt_of_le (h.lt.1 k hk) hb.size,fun k hk=>Nat.lt_of_lt_of_le (h.lt.2 k hk) hb.size⟩,h.apart,⟨h.wrote.1.stay hb,h.wrote.2⟩⟩
theorem gH.put (h:gH w F G K P M kp wb ek mk n D ws) {cs:List Value} (hh:aj w P 0 cs) (o:Nat) (ho:o<cs.length) (v:Value) :
  gH (w.setCell ⟨P,o,none⟩ v) F G K P M kp wb ek mk n D ws∧aj (w.setCell ⟨P,o,none⟩ v) P 0 (cs.set o v)∧Chg (fun k _=>k=P) w (w.setCell ⟨P,o,none⟩ v):=by
 have hc:Chg (fun k _=>k=P) w (w.setCell ⟨P,o,none⟩ v):=(Chg.refl _ w).setCell (p:=⟨P,o,none⟩) rfl (fun _=>rfl) (by show (w.cell? ⟨P,o,none⟩).isSome=true;rw[hh.head (List.getElem?_eq_getElem ho)];rfl) _
 have nG:¬ G P:=(h.apart.1 P h.inF.1).1
 have nK:¬ K P:=(h.apart.1 P h.inF.1).2
 refine⟨⟨h.dN.stay hc fun k _ hk e=>nG (e ▸ hk),h.key.chg hc fun k _ hk e=>nK (e ▸ hk),h.lg,h.inF,⟨fun k hk=>Nat.lt_of_lt_of_le (h.lt.1 k hk) hc.size,fun k hk=>Nat.lt_of_lt_of_le (h.lt.2 k hk) hc.size⟩,h.apart,⟨h.wrote.1.eC (fun e=>h.inF.2.2 e.symm) _,h.wrote.2⟩⟩,?_,hc⟩
 have:=hh.put o ho v
 rwa [Nat.zero_add] at this
theorem gH.more (h:gH w F G K P M kp wb ek mk n D ws) {F':Nat→Prop} (h1:∀ k,F k→F' k) (h2:∀ k,F' k→F k∨(k<w.heap.size∧¬ G k∧¬ K k)):gH w F' G K P M kp wb ek mk n D ws :=
 ⟨h.dN,h.key,h.lg,⟨h1 _ h.inF.1,h1 _ h.inF.2.1,h.inF.2.2⟩,⟨fun k hk=>(h2 k hk).elim (h.lt.1 k) (·.1),h.lt.2⟩,⟨fun k hk=>(h2 k hk).elim (h.apart.1 k) (·.2),h.apart.2⟩,h.wrote⟩
theorem gH.Re (h:gH w F G K P M kp wb ek mk n D ws):∀ k,G k→k<w.heap.size:=by
 obtain ⟨_,_,_,_,_,_,hX⟩:=h.dN
 exact hX.lt
theorem gH.fresh (h:gH w F G K P M kp wb ek mk n D ws) (hb:Below w.heap.size w w'):gH w' (fun k=>F k∨(w.heap.size≤k∧k<w'.heap.size)) G K P M kp wb ek mk n D ws :=
 (h.stay hb).more (fun _ hk=>.inl hk) fun k hk=>hk.imp id fun hk=>⟨hk.2,fun hg=>by have:=h.Re k hg;omega,fun hg=>by have:=h.lt.2 k hg;omega⟩
end
def gX (w:World) (F G K:Nat→Prop) (w':World) (P M kp wb:Nat) (ek mk:List UInt8) (s:Bk.Bn) (D:List Blk) (ws:List (List UInt8)):Prop :=
 ∃ F',RB w' F' G K P M kp wb ek mk s D ws∧(∀ k,F' k→F k∨w.heap.size≤k)∧Chg (fun k _=>F k∨G k) w w'
theorem yG {w:World} {g:Nat} {cur arr:Array Value} {e:TypeId} (hg:w.heap[g]? = some (.cells cur e (0,0))) (hs:arr.size=cur.size):Chg (fun k _=>k=g) w (w.setRow g arr):=by
 have h2:=setRow_heap w g cur arr e (0,0) hg
 refine⟨rfl,rfl,rfl,by simp,fun k _ hn=>setRow_other w g k _ (hn 0),fun k o _ hn=>World.cell?_of_block (setRow_other w g k _ hn),fun k o hsm=>?_,fun k o _=>?_⟩
 ·by_cases hk:k=g
  ·subst hk
   rw[cell_of_row _ k o _ _ _ h2]
   rw[cell_of_row _ k o _ _ _ hg] at hsm
   have:o<cur.size:=by
    by_cases h:o<cur.size
    ·exact h
    ·rw[Array.getElem?_eq_none (by omega)] at hsm;cases hsm
   rw[Array.getElem?_eq_getElem (by omega)];rfl
  ·rw[World.cell?_of_block (w:=w) (setRow_other w g k _ hk)];exact hsm
 ·by_cases hk:k=g
  ·subst hk
   unfold World.frozen?
   simp only [h2,hg]
  ·exact World.frozen?_of_block (setRow_other w g k _ hk)
theorem DD {P:Program} {w:World} (t ty:TypeId) (B:Nat) (e:TypeId) {z:Value} {bytes:Nat} (ht:P.underlying t=some (.slice e)) (hi:(P.info? e).map (fun i=>(i.zero,i.size,i.bytes))=some (some z,1,bytes)) (hz:z.cells.size=1) (hby:bytes≤100)
  (v:Value) (ys:List Value) (hown:Own w B e v ys) (b off c:Nat) (x:Value) (hx:w.cell? ⟨b,off,none⟩=some x) (h1:x.oneCell'=true) (hl:ys.length+1≤1000000) (hB:B≤w.heap.size) :
  ∃ v' w',(Builtin.append_ #[t,t] ty #[v,.slice (some ⟨b,off,none⟩) 1 c]).run P w=.ok v' w'∧Own w' B e v' (ys++[x])∧w.grownBy w' v.ownBlock∧(v'.ownBlock=v.ownBlock∨v'.ownBlock=some w.heap.size)∧Chg (fun k _=>v.ownBlock=some k) w w':=by
 obtain ⟨i,hi,hz0,hz1,hz2⟩:=info_parts hi
 have k9:(ys.length+1)*bytes≤140737488355328:=by
  have:(ys.length+1)*bytes≤1000000*100:=Nat.mul_le_mul hl hby
  omega
 have hnews:∀ j u,[x][j]? = some u→w.cell? ((⟨b,off,none⟩:Addr).add j)=some u:=fun j u hu=>by
  match j,hu with
  | 0,hu=>injection hu with hu;rw[bD,Nat.add_zero,← hu];exact hx
  | j+1,hu=>simp at hu
 have h1':∀ u∈[x],u.oneCell'=true:=fun u hu=>by rw[List.mem_singleton.1 hu];exact h1
 obtain ⟨v',w',hr,h2,h3,_,h5⟩:=run_append_own_at w B t ty e i z 1 bytes ht hi hz0 hz1 hz2 hz (by omega) v ys.length ys hown ⟨b,off,none⟩ 1 c [x] (by simp) hnews h1' (by simp only [maxLen];omega) k9 hB
 refine⟨v',w',hr,by rw[show (1:Nat)=[x].length from rfl,← List.length_append] at h2;exact h2,h3,h5,?_⟩
 have new:∀ {W:World} {o:Obj},w'=(w.drew).alloc o→Chg (fun k _=>v.ownBlock=some k) w w':=fun {W o} e=>by
  rw[e]
  exact(Chg.refl _ w).drew.alloc _
 rcases hown.2 with ⟨rfl,h0⟩ | ⟨g,cap,cur,rfl,hbg,hg,hnc,hcm,hcs,Ri⟩
 ·obtain rfl:=List.eq_nil_of_length_eq_zero h0
  have hr2:=run_append_nil (P:=P) w t ty e i z ht hi hz0 ⟨b,off,none⟩ 1 c [x] (by rw[hz1];rfl) hnews (by omega) (by omega) (by rw[hz2];omega)
  rw[hr] at hr2
  injection hr2 with _ hw
  exact new (W:=w) hw
 ·by_cases hroom:ys.length+1≤cap
  ·have hr2:=run_append_room (P:=P) w t ty e i ht hi g ys.length cap cur hg ⟨b,off,none⟩ 1 c [x] (by rw[hz1];rfl) hnews h1' hroom (by rw[hz1,hcs];simp;omega)
   rw[hr] at hr2
   injection hr2 with _ hw
   rw[hw]
   refine(yG hg ?_).mono fun k o _ hk=>by rw[hk];rfl
   simp [hz1]
   omega
  ·have hr2:=run_append_grow (P:=P) w t ty e i z ht hi hz0 ⟨g,0,none⟩ ys.length cap ys (by rw[hz1];omega) (fun j u hu=>World.ownsRow.cells hown (g:=g) rfl j u hu) ⟨b,off,none⟩ 1 c [x] (by rw[hz1];rfl) hnews (by omega) (by omega) (growslice_fits (by omega) (by rw[hz2];exact k9))
   rw[hr] at hr2
   injection hr2 with _ hw
   exact new (W:=w) hw
theorem dm {P:Program} {w:World} {ops:Array Oper} {o:Oper} {a:Act} {K:Act→World→Prop} {Q:Exit→Act→World→Prop} {E:Prop} (hgd:o.guard=none) (s x:Operand) (t:TypeId)
  (ho:o.op=.call { callee:=.builtin .append,args:=#[s,x],argTypes:=#[t,t] })
  (B:Nat) (e:TypeId) {z:Value} {bytes:Nat} (ht:P.underlying t=some (.slice e)) (hi:(P.info? e).map (fun i=>(i.zero,i.size,i.bytes))=some (some z,1,bytes)) (hz:z.cells.size=1) (hby:bytes≤100)
  (v:Value) (ys:List Value) (hs:a.eval s=v) (hown:Own w B e v ys) (b off c:Nat) (y:Value) (hx:a.eval x=.slice (some ⟨b,off,none⟩) 1 c) (hc:w.cell? ⟨b,off,none⟩=some y) (h1:y.oneCell'=true)
  (hl:ys.length+1≤1000000) (hB:B≤w.heap.size)
  (h:∀ v' w',Own w' B e v' (ys++[y])→w.grownBy w' v.ownBlock→(v'.ownBlock=v.ownBlock∨v'.ownBlock=some w.heap.size)→Chg (fun k _=>v.ownBlock=some k) w w'→K (a.put o.dst v') w') :
  if Region.wanted o (yielded ops a.tmps)=true then Oper.wp P o a w K Q else E:=by
 rw[if_pos (by simp [Region.wanted,hgd])]
 obtain ⟨v',w',hr,h2,h3,h4,h5⟩:=DD (P:=P) t o.type B e ht hi hz hby v ys hown b off c y hc h1 hl hB
 unfold Oper.wp execOp
 simp only [ho,resolve,invoke,builtin,Sem.run_bind,Sem.run_pure,Result.andThen_ok,List.map_toArray,List.map_cons,List.map_nil,hs,hx,hr]
 exact h v' w' h2 h3 h4 h5
structure Lay (w:World) (G K:Nat→Prop) (P M kp wb wc B n:Nat) (ep af:Nat) (root:List UInt8) (tv:Value) (tags:List (List UInt8)) (al:Bool) (ek mk:List UInt8) (D:List Blk) (ws:List (List UInt8)):Prop where
 ref:bL w G M D
 key:cD w K kp ek mk
 head:aj w P 0 (cU M kp n ep af root tv (.slice none 0 0) 0 (.slice none 0 0) wb wc al)
 tags:Own w B 9 tv (tags.map VS)
 wrote:aj w wb 0 (ws.map VS)
 lt:P<B∧wb<B∧B≤w.heap.size∧P≠wb
 hG:∀ k,G k→k<B∧k≠P∧k≠wb
 hK:∀ k,K k→k<B∧k≠P∧k≠wb∧¬ G k
section
variable {w w':World} {G K:Nat→Prop} {P M kp wb wc B n ep af:Nat} {root:List UInt8} {tv:Value} {tags:List (List UInt8)} {al:Bool} {ek mk:List UInt8} {D D':List Blk} {ws ws':List (List UInt8)}
theorem Lay.chg {S:Nat→Nat→Prop} (h:Lay w G K P M kp wb wc B n ep af root tv tags al ek mk D ws) (hc:Chg S w w') (hS:∀ k o,k<B→¬ S k o) (ht:Own w' B 9 tv (tags.map VS)):Lay w' G K P M kp wb wc B n ep af root tv tags al ek mk D ws :=
 ⟨h.ref.stay hc fun k o hk=>hS k o (h.hG k hk).1,h.key.chg hc fun k o hk=>hS k o (h.hK k hk).1,h.head.chg hc fun _ _=>hS _ _ h.lt.1,ht,h.wrote.chg hc fun _ _=>hS _ _ h.lt.2.1,⟨h.lt.1,h.lt.2.1,Nat.le_trans h.lt.2.2.1 hc.size,h.lt.2.2.2⟩,h.hG,h.hK⟩
theorem Lay.stay (h:Lay w G K P M kp wb wc B n ep af root tv tags al ek mk D ws) (hb:Below w.heap.size w w'):Lay w' G K P M kp wb wc B n ep af root tv tags al ek mk D ws :=
 h.chg (Chg.below hb fun _ _=>False) (fun _ _ _ x=>x) (h.tags.below hb (Nat.le_refl _))
theorem Lay.drew (h:Lay w G K P M kp wb wc B n ep af root tv tags al ek mk D ws):Lay w.drew G K P M kp wb wc B n ep af root tv tags al ek mk D ws:=h.stay (below_drewN (Below.refl _ _) 1)
theorem Lay.cell (h:Lay w G K P M kp wb wc B n ep af root tv tags al ek mk D ws) {o:Nat} {v:Value} (ho:(cU M kp n ep af root tv (.slice none 0 0) 0 (.slice none 0 0) wb wc al)[o]? = some v):w.cell? ⟨P,o,none⟩=some v:=h.head.head ho
theorem Lay.free (h:Lay w G K P M kp wb wc B n ep af root tv tags al ek mk D ws) (o:Nat) (ho:o<12):w.frozen? ⟨P,o,none⟩=false:=h.head.bJ (by exact ho)
theorem Lay.fJ (h:Lay w G K P M kp wb wc B n ep af root tv tags al ek mk D ws) (o:Nat) (ho:o<12) (v:Value):Chg (fun k _=>k=P) w (w.setCell ⟨P,o,none⟩ v) :=
 (Chg.refl _ w).setCell (p:=⟨P,o,none⟩) rfl (fun _=>rfl) (by
  obtain ⟨u,hu⟩:∃ u,(cU M kp n ep af root tv (.slice none 0 0) 0 (.slice none 0 0) wb wc al)[o]? = some u:=⟨_,List.getElem?_eq_getElem (by exact ho)⟩
  show (w.cell? ⟨P,o,none⟩).isSome=true
  rw[h.cell hu];rfl) _
theorem Lay.put {v:Value} {o:Nat} {ep':Nat} {root':List UInt8} {tv':Value} {al':Bool} {I9:List (List UInt8)} (h:Lay w G K P M kp wb wc B n ep af root tv tags al ek mk D ws) (ho:o<12)
  (e:(cU M kp n ep af root tv (.slice none 0 0) 0 (.slice none 0 0) wb wc al).set o v=cU M kp n ep' af root' tv' (.slice none 0 0) 0 (.slice none 0 0) wb wc al') (ht:Own w B 9 tv' (I9.map VS)) :
  Lay (w.setCell ⟨P,o,none⟩ v) G K P M kp wb wc B n ep' af root' tv' I9 al' ek mk D ws:=by
 have hc:=h.fJ o ho v
 refine⟨h.ref.stay hc fun k _ hk e=>(h.hG k hk).2.1 e,h.key.chg hc fun k _ hk e=>(h.hK k hk).2.1 e,?_,ij ht hc fun k hk _ e=>?_,h.wrote.eC (fun e=>h.lt.2.2.2 e.symm) _,⟨h.lt.1,h.lt.2.1,Nat.le_trans h.lt.2.2.1 hc.size,h.lt.2.2.2⟩,h.hG,h.hK⟩
 ·have:=h.head.put o (by exact ho) v
  rw[Nat.zero_add,e] at this
  exact this
 ·have:=(ht.lt hk).1;have:=h.lt.1;omega
theorem Lay.app {w1:World} {v':Value} {t:List UInt8} (h:Lay w G K P M kp wb wc B n ep af root tv tags al ek mk D ws) (ho:Own w1 B 9 v' (tags.map VS++[VS t])) (hc:Chg (fun k _=>tv.ownBlock=some k) w w1) :
  Lay (w1.setCell ⟨P,6,none⟩ v') G K P M kp wb wc B n ep af root v' (tags++[t]) al ek mk D ws∧w1.cell? ⟨P,6,none⟩=some tv∧w1.frozen? ⟨P,6,none⟩=false∧Chg (fun k _=>k=P∨B≤k) w (w1.setCell ⟨P,6,none⟩ v'):=by
 have hB:∀ k,tv.ownBlock=some k→B≤k:=fun k hk=>(h.tags.lt hk).1
 have hS:∀ k (_:Nat),k<B→¬ tv.ownBlock=some k:=fun k _ hk e=>by have:=hB k e;omega
 have hh:aj w1 P 0 (cU M kp n ep af root tv (.slice none 0 0) 0 (.slice none 0 0) wb wc al):=h.head.chg hc fun _ _=>hS _ 0 h.lt.1
 have hx:Chg (fun k _=>k=P) w1 (w1.setCell ⟨P,6,none⟩ v'):=(Chg.refl _ w1).setCell (p:=⟨P,6,none⟩) rfl (fun _=>rfl) (by show (w1.cell? ⟨P,6,none⟩).isSome=true;rw[hh.head (j:=6) rfl];rfl) _
 have hr1:=h.ref.stay hc fun k o hk=>hS k o (h.hG k hk).1
 have hk1:=h.key.chg hc fun k o hk=>hS k o (h.hK k hk).1
 have hw1:aj w1 wb 0 (ws.map VS):=h.wrote.chg hc fun _ _=>hS _ 0 h.lt.2.1
 refine⟨⟨hr1.stay hx fun k _ hk e=>(h.hG k hk).2.1 e,hk1.chg hx fun k _ hk e=>(h.hK k hk).2.1 e,?_,?_,hw1.eC (fun e=>h.lt.2.2.2 e.symm) _,⟨h.lt.1,h.lt.2.1,Nat.le_trans h.lt.2.2.1 (Nat.le_trans hc.size hx.size),h.lt.2.2.2⟩,h.hG,h.hK⟩,hh.head (j:=6) rfl,hh.bJ (j:=6) (by exact(by omega:6<12)),?_⟩
 ·have:=hh.put 6 (by exact(by omega:6<12)) v'
  rw[Nat.zero_add] at this
  exact this
 ·rw[List.map_append]
  exact ij ho hx fun k hk _ e=>by have:=(ho.lt hk).1;have:=h.lt.1;omega
 ·exact(hc.mono fun k _ _ hk=>Or.inr (hB k hk)).trans hx fun k _ _ hk=>Or.inl hk
theorem Lay.CV (h:Lay w G K P M kp wb wc B n ep af root tv tags al ek mk D ws) (hR:bL w' G M D') (hW:aj w' wb 0 (ws'.map VS)) (hc:Chg (fun k _=>G k∨k=wb) w w'):Lay w' G K P M kp wb wc B n ep af root tv tags al ek mk D' ws' :=
 ⟨hR,h.key.chg hc fun k _ hk e=>e.elim (h.hK k hk).2.2.2 (h.hK k hk).2.2.1,h.head.chg hc fun _ _ e=>e.elim (fun hg=>(h.hG _ hg).2.1 rfl) h.lt.2.2.2,ij h.tags hc fun k hk _ e=>by
  have:=(h.tags.lt hk).1
  rcases e with e | e
  ·have:=(h.hG k e).1;omega
  ·have:=h.lt.2.1;omega,hW,⟨h.lt.1,h.lt.2.1,Nat.le_trans h.lt.2.2.1 hc.size,h.lt.2.2.2⟩,h.hG,h.hK⟩
theorem Lay.rb (h:Lay w G K P M kp wb wc B n ep af root tv tags al ek mk D ws) (hek:ek.length=16) (hwl:ws.length=2*n) (hn:n≤100) (hb:af≤1) :
  RB w (fun k=>k=P∨k=wb∨(B≤k∧k<w.heap.size)) G K P M kp wb ek mk ⟨n,ep,af,root,tags,[],0,[]⟩ D ws:=by
 have hl:=h.lt
 refine⟨h.ref,h.key,hek,⟨.inl rfl,.inr (.inl rfl),hl.2.2.2⟩,⟨fun k hk=>?_,fun k hk=>by have:=(h.hK k hk).1;omega⟩,⟨fun k hk=>⟨fun hg=>?_,fun hkk=>?_⟩,fun k hk=>(h.hK k hk).2.2.2⟩,⟨h.wrote,hwl⟩,⟨hn,hb,Nat.zero_le _⟩,tv,.slice none 0 0,0,.slice none 0 0,wc,al,h.head,h.tags.xK fun k hk=>?_,.inl ⟨none,0,rfl,rfl⟩,fun e=>absurd rfl e⟩
 ·rcases hk with rfl | rfl | hk <;> omega
 ·have:=h.hG k hg;rcases hk with rfl | rfl | hk <;> omega
 ·have:=h.hK k hkk;rcases hk with rfl | rfl | hk <;> omega
 ·have:=h.tags.lt hk
  exact⟨.inr (.inr this),by omega,by omega,fun e=>absurd rfl e⟩
end
end Go.Proofs.YthbmknpbcgnabaaGreatDoor
