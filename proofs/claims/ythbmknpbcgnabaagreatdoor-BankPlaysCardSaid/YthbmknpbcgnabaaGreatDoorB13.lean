/- Of the walk. -/
import Derived.Deep.MidRow
import Derived.Deep.RegionHeld3
import Derived.Test.YthbmknpbcgnabaaGreatDoorB09
set_option maxHeartbeats 40000000
namespace Go.Proofs.YthbmknpbcgnabaaGreatDoor
open Go.RowKit
def aj (w:World) (b o:Nat) (cs:List Value):Prop:=w.rangeAt b o cs∧w.there b o cs.length
section
variable {w w':World} {b o:Nat} {cs:List Value}
theorem aj.cell (h:aj w b o cs) {j:Nat} {v:Value} (hj:cs[j]? = some v):w.cell? ⟨b,o+j,none⟩=some v:=h.1 j v hj
theorem aj.free (h:aj w b o cs) {j:Nat} (hj:j<cs.length):w.frozen? ⟨b,o+j,none⟩=false:=(h.2 j hj).2
theorem aj.head (h:aj w b 0 cs) {j:Nat} {v:Value} (hj:cs[j]? = some v):w.cell? ⟨b,j,none⟩=some v:=by have:=h.1 j v hj;rwa [Nat.zero_add] at this
theorem aj.bJ (h:aj w b 0 cs) {j:Nat} (hj:j<cs.length):w.frozen? ⟨b,j,none⟩=false:=by have:=(h.2 j hj).2;rwa [Nat.zero_add] at this
theorem aj.lt (h:aj w b o cs) (hp:0<cs.length):b<w.heap.size:=by
 have hc:=h.1 0 _ (List.getElem?_eq_getElem hp)
 exact World.block_lt_of_cell? w _ hc
theorem aj.part (h:aj w b o cs) (i n:Nat):aj w b (o+i) ((cs.drop i).take n):=by
 refine⟨fun j v hv=>?_,fun j hj=>?_⟩
 ·rw[Nat.add_assoc]
  refine h.1 _ v ?_
  rw[List.getElem?_take] at hv
  split at hv
  ·rwa [List.getElem?_drop] at hv
  ·cases hv
 ·rw[Nat.add_assoc]
  rw[List.length_take,List.length_drop] at hj
  exact h.2 _ (by omega)
theorem Row.here {g:Nat} {t:TypeId} (h:Row w g t cs):aj w g 0 cs :=
 ⟨fun j v hv=>by rw[Nat.zero_add,h.cell];exact hv,fun j hj=>by rw[Nat.zero_add,h.cell,List.getElem?_eq_getElem hj];exact⟨rfl,h.free j⟩⟩
theorem aj.append {ds:List Value} (h:aj w b o cs) (k:aj w b (o+cs.length) ds):aj w b o (cs++ds):=by
 refine⟨fun j v hv=>?_,fun j hj=>?_⟩
 ·rcases Nat.lt_or_ge j cs.length with hl | hl
  ·rw[List.getElem?_append_left hl] at hv;exact h.1 j v hv
  ·rw[List.getElem?_append_right hl] at hv
   have:=k.1 _ v hv
   rwa [show o+cs.length+(j - cs.length)=o+j by omega] at this
 ·rw[List.length_append] at hj
  rcases Nat.lt_or_ge j cs.length with hl | hl
  ·exact h.2 j hl
  ·have:=k.2 (j - cs.length) (by omega)
   rwa [show o+cs.length+(j - cs.length)=o+j by omega] at this
theorem aj.left {ds:List Value} (h:aj w b o (cs++ds)):aj w b o cs:=by
 have:=h.part 0 cs.length
 simpa using this
theorem aj.right {ds:List Value} (h:aj w b o (cs++ds)):aj w b (o+cs.length) ds:=by
 have:=h.part cs.length ds.length
 simpa using this
end
structure Chg (S:Nat→Nat→Prop) (w w':World):Prop where
 os:w'.os=w.os
 tape:w'.tape=w.tape
 output:w'.output=w.output
 size:w.heap.size≤w'.heap.size
 block:∀ k,k<w.heap.size→(∀ o,¬ S k o)→w'.heap[k]? = w.heap[k]?
 cell:∀ k o,k<w.heap.size→¬ S k o→w'.cell? ⟨k,o,none⟩=w.cell? ⟨k,o,none⟩
 some:∀ k o,(w.cell? ⟨k,o,none⟩).isSome=true→(w'.cell? ⟨k,o,none⟩).isSome=true
 free:∀ k o,k<w.heap.size→w'.frozen? ⟨k,o,none⟩=w.frozen? ⟨k,o,none⟩
section
variable {S T:Nat→Nat→Prop} {a w w':World}
theorem Chg.refl (S:Nat→Nat→Prop) (w:World):Chg S w w:=⟨rfl,rfl,rfl,Nat.le_refl _,fun _ _ _=>rfl,fun _ _ _ _=>rfl,fun _ _ h=>h,fun _ _ _=>rfl⟩
theorem Chg.trans (h:Chg S a w) (k:Chg T w w') (hT:∀ b o,b<a.heap.size→T b o→S b o):Chg S a w' where
 os:=k.os.trans h.os
 tape:=k.tape.trans h.tape
 output:=k.output.trans h.output
 size:=Nat.le_trans h.size k.size
 block:=fun b hb hn=>(k.block b (Nat.lt_of_lt_of_le hb h.size) (fun o ho=>hn o (hT b o hb ho))).trans (h.block b hb hn)
 cell:=fun b o hb hn=>(k.cell b o (Nat.lt_of_lt_of_le hb h.size) (fun ho=>hn (hT b o hb ho))).trans (h.cell b o hb hn)
 some:=fun b o hs=>k.some b o (h.some b o hs)
 free:=fun b o hb=>(k.free b o (Nat.lt_of_lt_of_le hb h.size)).trans (h.free b o hb)
theorem Chg.then (h:Chg S a w) (k:Chg S w w'):Chg S a w':=h.trans k fun _ _ _ x=>x
theorem Chg.mono (h:Chg S w w') (hT:∀ b o,b<w.heap.size→S b o→T b o):Chg T w w':=(Chg.refl T w).trans h hT
theorem Chg.below (h:Below w.heap.size w w') (S:Nat→Nat→Prop):Chg S w w' where
 os:=h.os
 tape:=h.tape
 output:=h.output
 size:=h.size
 block:=fun b hb _=>h.block b hb
 cell:=fun b o hb _=>World.cell?_of_block (w:=w) (h.block b hb)
 some:=fun b o hs=>by
  obtain ⟨u,hu⟩:=Option.isSome_iff_exists.1 hs
  rw[World.cell?_of_block (w:=w) (h.block b (World.block_lt_of_cell? w _ hu))];exact hs
 free:=fun b o hb=>by
  have:=h.block b hb
  simp only [World.frozen?,this]
theorem Chg.drewN (h:Chg S a w) (n:Nat):Chg S a (w.drewN n):=⟨h.os,h.tape,h.output,h.size,h.block,h.cell,h.some,h.free⟩
theorem Chg.drew (h:Chg S a w):Chg S a w.drew:=⟨h.os,h.tape,h.output,h.size,h.block,h.cell,h.some,h.free⟩
theorem Chg.alloc (h:Chg S a w) (ob:Obj):Chg S a (w.alloc ob):=h.then (Chg.below ((Below.refl _ _).alloc (Nat.le_refl _) _) S)
theorem Chg.setCell (h:Chg S a w) {p:Addr} (hp:p.spot=none) (hS:p.block<a.heap.size→S p.block p.off) (hc:(w.cell? p).isSome=true) (u:Value):Chg S a (w.setCell p u):=by
 obtain ⟨pb,po,ps⟩:=p
 obtain rfl:ps=none:=hp
 refine h.trans (T:=fun b o=>b=pb∧o=po) ⟨rfl,rfl,rfl,by simp [World.setCell],fun k hk hn=>?_,fun k o hk hn=>?_,fun k o hs=>?_,fun k o hk=>?_⟩ ?_
 ·exact heap_setCell_other w _ k u (fun e=>hn po ⟨e,rfl⟩)
 ·exact World.cell?_setCell_other _ _ _ _ (fun e=>hn (by injection e with e1 e2;exact⟨e1.symm,e2.symm⟩))
 ·obtain ⟨u0,hu0⟩:=Option.isSome_iff_exists.1 hc
  by_cases e:(⟨pb,po,none⟩:Addr)=⟨k,o,none⟩
  ·rw[← e,World.cell?_setCell_same _ _ _ hu0];rfl
  ·rw[World.cell?_setCell_other _ _ _ _ e];exact hs
 ·exact World.frozen?_setCell ..
 ·rintro b o hb ⟨rfl,rfl⟩;exact hS hb
theorem Chg.setCells (h:Chg S a w) {b o:Nat} {vs:List Value} (hS:∀ j,j<vs.length→b<a.heap.size→S b (o+j)) (ht:w.there b o vs.length):Chg S a (w.setCells b o vs):=by
 induction vs generalizing w o with
 | nil=>exact h
 | cons v r ih =>
  rw[World.setCells]
  refine ih (h.setCell rfl (fun hb=>by have:=hS 0 (by simp) hb;rwa [Nat.add_zero] at this) (by have:=(ht 0 (by simp)).1;rwa [Nat.add_zero] at this) v) (fun j hj hb=>?_) ?_
  ·have:=hS (j+1) (by simp;omega) hb
   rwa [show o+1+j=o+(j+1) by omega]
  ·intro j hj
   have h2:=World.there_setCells ht b o [v] (j+1) (by simp;omega)
   rw[show o+1+j=o+(j+1) by omega]
   exact h2
theorem aj.chg {b o:Nat} {cs:List Value} (h:aj w b o cs) (k:Chg S w w') (hn:∀ j,j<cs.length→¬ S b (o+j)):aj w' b o cs:=by
 refine⟨fun j v hv=>?_,fun j hj=>?_⟩
 ·have hj:=(List.getElem?_eq_some_iff.1 hv).1
  rw[k.cell b _ (h.lt (by omega)) (hn j hj)]
  exact h.1 j v hv
 ·exact⟨k.some b _ (h.2 j hj).1,by rw[k.free b _ (h.lt (by omega))];exact(h.2 j hj).2⟩
theorem aj.stay {b o:Nat} {cs:List Value} (h:aj w b o cs) (k:Below w.heap.size w w'):aj w' b o cs:=h.chg (Chg.below k fun _ _=>False) fun _ _ x=>x
theorem aj.alloc {b o:Nat} {cs:List Value} (h:aj w b o cs) (ob:Obj):aj (w.alloc ob) b o cs:=h.stay ((Below.refl _ _).alloc (Nat.le_refl _) _)
theorem aj.set {b o:Nat} {cs:List Value} (h:aj w b o cs) (vs:List Value) (hl:vs.length=cs.length):aj (w.setCells b o vs) b o vs :=
 ⟨World.rangeAt_setCells_same w b o vs (by rw[hl];exact h.2),by rw[hl];exact World.there_setCells h.2 b o vs⟩
theorem aj.ej {b o b' o':Nat} {cs:List Value} (h:aj w b o cs) (vs:List Value) (hap:b≠b'∨o+cs.length≤o'∨o'+vs.length≤o):aj (w.setCells b' o' vs) b o cs :=
 ⟨World.rangeAt_setCells_apart h.1 b' o' vs hap,World.there_setCells h.2 b' o' vs⟩
theorem aj.put {b o:Nat} {cs:List Value} (h:aj w b o cs) (j:Nat) (hj:j<cs.length) (v:Value):aj (w.setCell ⟨b,o+j,none⟩ v) b o (cs.set j v):=by
 refine⟨fun i u hu=>?_,fun i hi=>?_⟩
 ·have hi:i<cs.length:=by have:=(List.getElem?_eq_some_iff.1 hu).1;simpa using this
  by_cases e:i=j
  ·subst e
   rw[List.getElem?_set_self hj] at hu
   injection hu with hu
   subst hu
   exact World.cell?_setCell_same _ _ _ (h.1 i _ (List.getElem?_eq_getElem hj))
  ·rw[List.getElem?_set_ne (fun e'=>e e'.symm)] at hu
   rw[World.cell?_setCell_other _ _ _ _ (fun e'=>by injection e' with _ e2;omega)]
   exact h.1 i u hu
 ·rw[List.length_set] at hi
  have:=World.there_setCells h.2 b (o+j) [v] i hi
  exact this
theorem aj.eC {b o:Nat} {cs:List Value} (h:aj w b o cs) {p:Addr} (hp:b≠p.block) (v:Value):aj (w.setCell p v) b o cs:=by
 refine⟨fun i u hu=>?_,fun i hi=>?_⟩
 ·rw[World.cell?_setCell_other _ _ _ _ (fun e'=>hp (by rw[e'] ))]
  exact h.1 i u hu
 ·refine⟨?_,?_⟩
  ·rw[World.cell?_setCell_other _ _ _ _ (fun e'=>hp (by rw[e']))];exact(h.2 i hi).1
  ·rw[World.frozen?_setCell];exact(h.2 i hi).2
end
namespace Dsk
structure Blk where
 dur:List UInt8
 wr:Option (List UInt8)
 past:List UInt8
def z72:List UInt8:=List.replicate 72 0
def Blk.zero:Blk:=⟨z72,none,z72⟩
def Blk.aK (b:Blk):Bool:=b.wr.isSome
def Blk.cur (b:Blk):List UInt8:=b.wr.getD b.dur
def Blk.setCur (b:Blk) (c:List UInt8):Blk:=match b.wr with
 | some _=>⟨b.dur,some c,b.past⟩
 | none=>⟨c,none,b.past⟩
def Blk.write (b:Blk) (c:List UInt8):Blk:=⟨b.dur,some c,b.cur⟩
def Blk.settle (b:Blk) (k:Bool):Blk:=⟨if k then b.cur else b.dur,none,b.past⟩
def Blk.back (b:Blk):Blk:=match b.wr with
 | some _=>⟨b.dur,some b.past,b.cur⟩
 | none=>⟨b.past,none,b.cur⟩
structure Blk.ok (b:Blk):Prop where
 dur:b.dur.length=72
 past:b.past.length=72
 wr:∀ c,b.wr=some c→c.length=72
theorem Blk.ok.cur {b:Blk} (h:b.ok):b.cur.length=72:=by
 unfold Blk.cur
 cases hw:b.wr with
 | none=>exact h.dur
 | some c=>exact h.wr c hw
theorem lG:z72.length=72:=by simp [z72]
theorem Blk.zz:Blk.zero.ok:=⟨lG,lG,fun c hc=>by cases hc⟩
theorem Blk.uW {b:Blk} (h:b.ok) {c:List UInt8} (hc:c.length=72):(b.write c).ok:=⟨h.dur,h.cur,fun c' e=>by injection e with e;rw[← e];exact hc⟩
theorem Blk.rV {b:Blk} (h:b.ok) (k:Bool):(b.settle k).ok:=⟨by unfold Blk.settle;cases k <;> simp [h.dur,h.cur],h.past,fun c e=>by cases e⟩
theorem Blk.tC {b:Blk} (h:b.aK=false) (k:Bool):b.settle k=b:=by
 obtain ⟨d,w,p⟩:=b
 cases w with
 | some c=>cases h
 | none=>cases k <;> rfl
theorem Blk.uu (b:Blk) (k:Bool):(b.settle k).aK=false:=rfl
def cnt (L:List Blk):Nat:=L.countP Blk.aK
theorem jA {L:List Blk} {i:Nat} {b:Blk} (h:L[i]? = some b):cnt (L.take (i+1))=cnt (L.take i)+if b.aK then 1 else 0:=by
 obtain ⟨hi,e⟩:=List.getElem?_eq_some_iff.1 h
 rw[List.take_succ_eq_append_getElem hi,cnt,List.countP_append,e]
 simp [cnt,List.countP_cons]
theorem kF (L:List Blk) (i:Nat):cnt (L.take i)≤L.length:=by
 unfold cnt
 exact Nat.le_trans List.countP_le_length (by rw[List.length_take];omega)
def dE (keep:Nat→Bool) (L:List Blk) (i:Nat):List Blk:=L.mapIdx fun j b=>if j<i then b.settle (keep (cnt (L.take j))) else b
def cV (keep:Nat→Bool) (L:List Blk):List Blk:=dE keep L L.length
section
variable (keep:Nat→Bool) (L:List Blk)
theorem bN (i:Nat):(dE keep L i).length=L.length:=by simp [dE]
theorem fq (i j:Nat):(dE keep L i)[j]? = L[j]?.map fun b=>if j<i then b.settle (keep (cnt (L.take j))) else b:=by simp [dE]
theorem jT:dE keep L 0=L:=by
 apply List.ext_getElem?
 intro j
 rw[fq]
 cases L[j]? <;> simp
theorem gh (i:Nat):(dE keep L i)[i]? = L[i]?:=by
 rw[fq]
 cases L[i]? <;> simp
theorem iq {i:Nat} {b:Blk} (h:L[i]? = some b):dE keep L (i+1)=(dE keep L i).set i (b.settle (keep (cnt (L.take i)))):=by
 obtain ⟨hi,e⟩:=List.getElem?_eq_some_iff.1 h
 apply List.ext_getElem?
 intro j
 rw[fq,List.getElem?_set,bN]
 by_cases hj:i=j
 ·subst hj
  rw[if_pos rfl,if_pos hi,h]
  simp
 ·rw[if_neg hj,fq]
  cases L[j]? with
  | none=>rfl
  | some c =>
   simp only [Option.map_some]
   congr 1
   by_cases h1:j<i
   ·rw[if_pos (by omega),if_pos h1]
   ·rw[if_neg (by omega),if_neg h1]
theorem jU {i:Nat} {b:Blk} (h:L[i]? = some b) (hd:b.aK=false):dE keep L (i+1)=dE keep L i:=by
 rw[iq keep L h,Blk.tC hd]
 have:=gh keep L i
 rw[h] at this
 obtain ⟨hi,e⟩:=List.getElem?_eq_some_iff.1 this
 rw[← e,List.set_getElem_self]
theorem Cc:cnt (cV keep L)=0:=by
 unfold cnt
 rw[List.countP_eq_zero]
 intro b hb
 obtain ⟨j,hj,e⟩:=List.getElem_of_mem hb
 have h1:(cV keep L)[j]? = some b:=by rw[List.getElem?_eq_getElem hj,e]
 rw[cV,fq] at h1
 have hl:j<L.length:=by rw[cV,bN] at hj;exact hj
 rw[List.getElem?_eq_getElem hl,Option.map_some,if_pos hl] at h1
 injection h1 with h1
 rw[← h1,Blk.uu]
 simp
end
end Dsk
open Go.RowKit Dsk
theorem bQ (l:List UInt8) (n:Nat) (h:l.length=n):(l.map V8).length=n:=by rw[List.length_map,h]
def gW (b:Blk) (p:Nat):List Value:=b.dur.map V8++(.pointer (if b.aK then some ⟨p,0,none⟩ else none)::b.past.map V8)
theorem lB {b:Blk} (h:b.ok) (p:Nat):(gW b p).length=145:=by simp [gW,h.dur,h.past]
structure bM (w:World) (F:Nat→Prop) (D g:Nat) (ps:Nat→Nat) (L:List Blk):Prop where
 head:aj w D 0 [.slice (some ⟨g,0,none⟩) L.length L.length]
 row:∀ (i:Nat) (b:Blk),L[i]? = some b→aj w g (i*145) (gW b (ps i))
 wr:∀ (i:Nat) (b:Blk),L[i]? = some b→b.aK=true→aj w (ps i) 0 (b.cur.map V8)
 ok:∀ (i:Nat) (b:Blk),L[i]? = some b→b.ok
 inj:∀ (i j:Nat) (b c:Blk),L[i]? = some b→L[j]? = some c→b.aK=true→c.aK=true→ps i=ps j→i=j
 apart:∀ (i:Nat) (b:Blk),L[i]? = some b→b.aK=true→ps i≠D∧ps i≠g∧F (ps i)
 dg:D≠g
 fD:F D
 fg:F g
 lt:∀ k,F k→k<w.heap.size
 few:L.length≤512
section
variable {w w':World} {F:Nat→Prop} {D g:Nat} {ps:Nat→Nat} {L:List Blk}
theorem bM.dur (h:bM w F D g ps L) {i:Nat} {b:Blk} (hb:L[i]? = some b):aj w g (i*145) (b.dur.map V8):=(h.row i b hb).left
theorem bM.ptr (h:bM w F D g ps L) {i:Nat} {b:Blk} (hb:L[i]? = some b):aj w g (i*145+72) [.pointer (if b.aK then some ⟨ps i,0,none⟩ else none)]:=by
 have h1:=(h.row i b hb).right
 rw[bQ _ 72 (h.ok i b hb).dur] at h1
 exact aj.left (cs:=[_]) h1
theorem bM.past (h:bM w F D g ps L) {i:Nat} {b:Blk} (hb:L[i]? = some b):aj w g (i*145+73) (b.past.map V8):=by
 have h1:=(h.row i b hb).right
 rw[bQ _ 72 (h.ok i b hb).dur] at h1
 exact aj.right (cs:=[_]) h1
def aq (g:Nat) (ps:Nat→Nat) (i:Nat) (b:Blk):Addr:=if b.aK then ⟨ps i,0,none⟩ else ⟨g,i*145,none⟩
theorem bM.cur (h:bM w F D g ps L) {i:Nat} {b:Blk} (hb:L[i]? = some b):aj w (aq g ps i b).block (aq g ps i b).off (b.cur.map V8):=by
 unfold aq
 by_cases hd:b.aK=true
 ·rw[if_pos hd];exact h.wr i b hb hd
 ·rw[if_neg hd]
  have:b.cur=b.dur:=by
   unfold Blk.cur
   cases hw:b.wr with
   | none=>rfl
   | some c=>exact absurd (by unfold Blk.aK;rw[hw];rfl) hd
  rw[this]
  exact h.dur hb
end
set_option maxRecDepth 100000
theorem fA {w:World} {F:Nat→Prop} {D g:Nat} {ps:Nat→Nat} {L:List Blk} (h:bM w F D g ps L) :
  Calls Tryz.prog 70 #[.pointer (some ⟨D,0,none⟩)] w fun e w'=>e=.returned (.int .i64 L.length)∧w'=w:=by
 have hc:=h.head.head (j:=0) rfl
 generalize L.length=n at *
 clear h
 go_enter Tryz.func70,Tryz.ntmps70
 go_wp2
 go_ret
 exact⟨rfl,rfl⟩
theorem kQ {w:World} {F:Nat→Prop} {D g:Nat} {ps:Nat→Nat} {L:List Blk} (h:bM w F D g ps L) (i:Nat) (hi:i<L.length) :
  Calls Tryz.prog 63 #[.pointer (some ⟨D,0,none⟩),.int .i64 i] w fun e w'=>e=.returned (.pointer (some ⟨g,i*145,none⟩))∧w'=w:=by
 have hc:=h.head.head (j:=0) rfl
 have HB:=ae (fA h)
 have hf:=h.few
 generalize L.length=n at *
 clear h
 go_enter Tryz.func63,Tryz.ntmps63
 go_wp2_with fail
 refine HB.out.mono ?_
 rintro e w1 ⟨rfl,rfl⟩
 clear HB
 go_wp2
 go_ret
 exact⟨rfl,rfl⟩
theorem o7 {w:World} {F:Nat→Prop} {D g:Nat} {ps:Nat→Nat} {L:List Blk} (h:bM w F D g ps L) (i:Int) (hi:i<0∨(L.length:Int)≤i) :
  Calls Tryz.prog 63 #[.pointer (some ⟨D,0,none⟩),.int .i64 i] w fun e w'=>e=.returned (.pointer none)∧w'=w:=by
 have HB:=ae (fA h)
 have hf:=h.few
 generalize L.length=n at *
 clear h
 go_enter Tryz.func63,Tryz.ntmps63
 rcases Int.lt_or_le i 0 with h0 | h0
 ·go_wp2_with fail
  go_ret
  exact⟨rfl,rfl⟩
 ·have h1:(n:Int)≤i:=by omega
  clear hi
  go_wp2_with fail
  refine HB.out.mono ?_
  rintro e w1 ⟨rfl,rfl⟩
  clear HB
  go_wp2
  go_ret
  exact⟨rfl,rfl⟩
theorem mS (g o:Nat) (d:Bool) (p:Nat) (w:World) (hc:w.cell? ⟨g,o+72,none⟩=some (.pointer (if d then some ⟨p,0,none⟩ else none))) :
  Calls Tryz.prog 64 #[.pointer (some ⟨g,o,none⟩)] w fun e w'=>e=.returned (.pointer (some (if d then ⟨p,0,none⟩ else ⟨g,o,none⟩)))∧w'=w:=by
 go_enter Tryz.func64,Tryz.ntmps64
 cases d
 ·rw[if_neg (by simp)] at hc
  go_wp2
  go_ret
  exact⟨rfl,rfl⟩
 ·rw[if_pos rfl] at hc
  go_wp2
  go_ret
  exact⟨rfl,rfl⟩
theorem sQ (b1 o1 b2 o2:Nat) (es cs:List Value) (w:World) (h1:aj w b1 o1 es) (h2:aj w b2 o2 cs) (l1:es.length=72) (l2:cs.length=72) (c1:es.toArray.all (·.oneCell')=true) (c2:cs.toArray.all (·.oneCell')=true)
  (hap:b1≠b2∨o1+72≤o2∨o2+72≤o1) :
  Calls Tryz.prog 101 #[.pointer (some ⟨b1,o1,none⟩),.pointer (some ⟨b2,o2,none⟩)] w fun e w'=>e=.returned (.tuple #[]) ∧
   aj w' b1 o1 cs∧aj w' b2 o2 es∧Chg (fun b o=>(b=b1∧o1≤o∧o<o1+72)∨(b=b2∧o2≤o∧o<o2+72)) w w':=by
 have H1:=ae h1
 have H2:=ae h2
 have i1:Hid ((Tryz.prog.info? 131).map (·.size)=some es.length):=by show _=_;rw[l1];kernel_rfl
 have i2:Hid ((Tryz.prog.info? 131).map (·.size)=some cs.length):=by show _=_;rw[l2];kernel_rfl
 have j1:Hid ((Tryz.prog.info? 131).map (·.size)=some es.toArray.size):=by show _=_;rw[List.size_toArray];exact i1.out
 have j2:Hid ((Tryz.prog.info? 131).map (·.size)=some cs.toArray.size):=by show _=_;rw[List.size_toArray];exact i2.out
 have T1:Hid (w.drew.there b1 o1 cs.toArray.size):=by show World.there _ _ _ _;rw[List.size_toArray,l2,← l1];exact h1.2
 have T2:Hid ((w.drew.setCells b1 o1 cs).there b2 o2 es.toArray.size):=by show World.there _ _ _ _;rw[List.size_toArray,l1,← l2];exact World.there_setCells (w:=w.drew) h2.2 _ _ _
 have R1:Hid (w.drew.rangeAt b1 o1 es):=h1.1
 have R2:Hid (w.drew.rangeAt b2 o2 cs):=h2.1
 have C1:=ae c1
 have C2:=ae c2
 have hF:Hid (aj ((w.drew.setCells b1 o1 cs).setCells b2 o2 es) b1 o1 cs∧aj ((w.drew.setCells b1 o1 cs).setCells b2 o2 es) b2 o2 es∧Chg (fun b o=>(b=b1∧o1≤o∧o<o1+72)∨(b=b2∧o2≤o∧o<o2+72)) w ((w.drew.setCells b1 o1 cs).setCells b2 o2 es)):=by
  have h1':aj w.drew b1 o1 es:=h1
  have h2':aj w.drew b2 o2 cs:=h2
  have g1:=h1'.set cs (by omega)
  have g2:=h2'.ej (b':=b1) (o':=o1) cs (by rcases hap with h | h | h;exact .inl (fun e=>h e.symm);exact .inr (.inr (by omega));exact .inr (.inl (by omega)))
  refine⟨g1.ej es (by rcases hap with h | h | h;exact .inl h;exact .inr (.inl (by omega));exact .inr (.inr (by omega))),g2.set es (by omega),?_⟩
  exact((Chg.refl _ w).drew.setCells (fun j hj _=>.inl ⟨rfl,by omega,by omega⟩) (by rw[l2,← l1];exact h1.2)).setCells (fun j hj _=>.inr ⟨rfl,by omega,by omega⟩) (by rw[l1,← l2];exact g2.2)
 have HF:=hF
 clear h1 h2 l1 l2 c1 c2 hF
 go_enter Tryz.func101,Tryz.ntmps101
 go_wp2
 refine wp_region_held_drew (S:=fun _=>True) (by kernel_rfl) trivial (fun aa=>?_)
 refine tkq 0 4 aa ?_
 try go_frame
 refine tkq 1 5 aa ?_
 try go_frame
 refine tkq 2 6 aa ?_
 try go_frame
 refine tkq 3 7 aa ?_
 try go_frame
 refine tkq 5 9 aa ?_
 try go_frame
 refine tkq 6 10 aa ?_
 try go_frame
 refine wpAnyH_ready (rs:=[4,7]) (by kernel_rfl) (by simp) ?_
 refine AllReadyH.cons (o:=⟨some 8,_,_,_,_,_⟩) rfl (fun K hK=>?_) ?_
 ·skip
  rw[if_pos (by rfl)]
  refine wp_load_mid 131 (.tmp 7) rfl b2 o2 rfl cs _ R2.out Tryz.underlying131 rfl i2.out ?_
  refine hK.out _ _ trivial (fun aa=>?_)
  clear hK K
  try go_frame
  refine rdq 7 11 fun K hK=>?_
  rw[if_pos (by rfl)]
  refine wp_load_mid 131 (.tmp 10) rfl b1 o1 rfl es _ R1.out Tryz.underlying131 rfl i1.out ?_
  refine hK.out _ _ trivial (fun aa=>?_)
  clear hK K
  try go_frame
  refine tkq 8 12 aa ?_
  try go_frame
  refine rdn 9 fun K hK=>?_
  rw[if_pos (by rfl)]
  refine wp_store_mid 131 (.tmp 12) (.tmp 8) rfl b1 o1 cs.toArray rfl rfl T1.out j2.out C2.out ?_
  refine hK.out _ _ trivial (fun aa=>?_)
  clear hK K
  try go_frame
  refine tkq 10 13 aa ?_
  try go_frame
  refine rdn 11 fun K hK=>?_
  rw[if_pos (by rfl)]
  refine wp_store_mid 131 (.tmp 13) (.tmp 11) rfl b2 o2 es.toArray rfl rfl T2.out j1.out C1.out ?_
  refine hK.out _ _ trivial (fun aa=>?_)
  clear hK K
  try go_frame
  refine wpAnyH_done (by kernel_rfl) ?_ _
  (go_wp2;go_end0;exact⟨rfl,HF.out⟩)
 refine AllReadyH.cons (o:=⟨some 11,_,_,_,_,_⟩) rfl (fun K hK=>?_) ?_
 ·skip
  rw[if_pos (by rfl)]
  refine wp_load_mid 131 (.tmp 10) rfl b1 o1 rfl es _ R1.out Tryz.underlying131 rfl i1.out ?_
  refine hK.out _ _ trivial (fun aa=>?_)
  clear hK K
  try go_frame
  refine rdq 4 8 fun K hK=>?_
  rw[if_pos (by rfl)]
  refine wp_load_mid 131 (.tmp 7) rfl b2 o2 rfl cs _ R2.out Tryz.underlying131 rfl i2.out ?_
  refine hK.out _ _ trivial (fun aa=>?_)
  clear hK K
  try go_frame
  refine tkq 8 12 aa ?_
  try go_frame
  refine rdn 9 fun K hK=>?_
  rw[if_pos (by rfl)]
  refine wp_store_mid 131 (.tmp 12) (.tmp 8) rfl b1 o1 cs.toArray rfl rfl T1.out j2.out C2.out ?_
  refine hK.out _ _ trivial (fun aa=>?_)
  clear hK K
  try go_frame
  refine tkq 10 13 aa ?_
  try go_frame
  refine rdn 11 fun K hK=>?_
  rw[if_pos (by rfl)]
  refine wp_store_mid 131 (.tmp 13) (.tmp 11) rfl b2 o2 es.toArray rfl rfl T2.out j1.out C1.out ?_
  refine hK.out _ _ trivial (fun aa=>?_)
  clear hK K
  try go_frame
  refine wpAnyH_done (by kernel_rfl) ?_ _
  (go_wp2;go_end0;exact⟨rfl,HF.out⟩)
 exact AllReadyH.nil
set_option maxRecDepth 512
theorem tZ {cs:List Value} (h:cs.length=72):(Tryz.prog.info? 131).map (·.size)=some cs.length:=by rw[h];kernel_rfl
theorem tY {cs:List Value} (h:cs.length=72):(Tryz.prog.info? 131).map (·.size)=some cs.toArray.size:=by rw[List.size_toArray,h];kernel_rfl
set_option maxRecDepth 100000
theorem xm (g o:Nat) (d:Bool) (p:Nat) (cb co:Nat) (mH:(if d then (⟨p,0,none⟩:Addr) else ⟨g,o,none⟩)=⟨cb,co,none⟩) (cs rs ps:List Value) (w:World)
  (hp:aj w g (o+72) [.pointer (if d then some ⟨p,0,none⟩ else none)]) (hc:aj w cb co cs) (hq:aj w g (o+73) ps)
  (l1:cs.length=72) (l3:ps.length=72) (c1:cs.toArray.all (·.oneCell')=true) :
  Calls Tryz.prog 122 #[.pointer (some ⟨g,o,none⟩),.agg rs.toArray] w fun e w'=>e=.returned (.tuple #[]) ∧
   aj w' w.heap.size 0 rs∧aj w' g (o+72) [.pointer (some ⟨w.heap.size,0,none⟩)]∧aj w' g (o+73) cs∧Chg (fun b j=>b=g∧o+72≤j∧j<o+145) w w':=by
 have hg:g<w.heap.size:=hp.lt (by simp)
 obtain ⟨w1,hw1⟩:∃ w1,w1=w.alloc (.cells rs.toArray 131):=⟨_,rfl⟩
 have Hsz:Hid (w1.heap.size=w.heap.size+1):=by rw[hw1];show _=_;simp
 have OI:Hid (aj w1 w.heap.size 0 rs):=by rw[hw1];exact(Row.new w 131 rs).here
 have Hp:Hid (aj w1 g (o+72) [.pointer (if d then some ⟨p,0,none⟩ else none)]):=by rw[hw1];exact hp.alloc _
 have Hc:Hid (aj w1 cb co cs):=by rw[hw1];exact hc.alloc _
 have Hq:Hid (aj w1 g (o+73) ps):=by rw[hw1];exact hq.alloc _
 have HX:Hid (Chg (fun b j=>b=g∧o+72≤j∧j<o+145) w w1):=by rw[hw1];exact(Chg.refl _ w).alloc _
 have HW:=ae hw1
 have i1:=ae (tZ l1)
 have j1:=ae (tY l1)
 have C1:=ae c1
 have T1:Hid (w1.there g (o+73) cs.toArray.size):=by show World.there _ _ _ _;rw[List.size_toArray,l1,← l3];exact Hq.out.2
 have hpc:=Hp.out.cell (j:=0) rfl
 rw[Nat.add_zero] at hpc
 have qL:=ae (mS g o d p w1 hpc)
 have HF:Hid (aj (w1.setCells g (o+73) cs) g (o+72) [.pointer (if d then some ⟨p,0,none⟩ else none)]∧aj (w1.setCells g (o+73) cs) g (o+73) cs∧aj (w1.setCells g (o+73) cs) w.heap.size 0 rs∧Chg (fun b j=>b=g∧o+72≤j∧j<o+145) w (w1.setCells g (o+73) cs)) :=
  ⟨Hp.out.ej cs (.inr (.inl (by simp))),Hq.out.set cs (by omega),OI.out.ej cs (.inl (by omega)),
   HX.out.setCells (fun j hj _=>⟨rfl,by omega,by omega⟩) (by rw[l1,← l3];exact Hq.out.2)⟩
 rw[mH] at qL
 clear hp hc hq l1 l3 c1 hw1 hpc Hp Hq HX OI
 go_enter Tryz.func122,Tryz.ntmps122
 go_wp2_with fail
 rw[← HW.out]
 refine qL.out.mono ?_
 rintro e w2 ⟨rfl,rfl⟩
 obtain ⟨w3,hw3⟩:∃ w3,w3=w2.setCells g (o+73) cs:=⟨_,rfl⟩
 rw[← hw3] at HF
 have HW3:=ae hw3
 have hcell:w3.cell? ⟨g,o+72,none⟩=some (.pointer (if d then some ⟨p,0,none⟩ else none)):=by have:=HF.out.1.cell (j:=0) rfl;rwa [Nat.add_zero] at this
 have hfree:w3.frozen? ⟨g,o+72,none⟩=false:=by have:=HF.out.1.free (j:=0) (by simp);rwa [Nat.add_zero] at this
 clear hw3 qL mH HW
 go_wp2_with (first
  | (refine wpList_load_mid rfl 131 (.tmp 7) rfl cb co rfl cs _ Hc.out.1 Tryz.underlying131 rfl i1.out ?_)
  | (refine wpList_store_mid rfl 131 (.tmp 10) (.tmp 8) rfl g (o+73) cs.toArray rfl rfl T1.out j1.out C1.out ?_;rw[List.toList_toArray,← HW3.out];clear T1 HW3 Hc))
 go_end0
 refine⟨rfl,HF.out.2.2.1.eC (by simp;omega) _,?_,?_,HF.out.2.2.2.setCell rfl (fun _=>⟨rfl,by simp,by simp⟩) (by rw[hcell];rfl) _⟩
 ·exact HF.out.1.put 0 (by simp) _
 ·have:=HF.out.2.1.ej (b':=g) (o':=o+72) [.pointer (some ⟨w.heap.size,0,none⟩)] (.inr (.inr (by simp)))
  exact this
theorem oC (g o p:Nat) (k:Bool) (cs ds:List Value) (w:World)
  (hp:aj w g (o+72) [.pointer (some ⟨p,0,none⟩)]) (hc:aj w p 0 cs) (hd:aj w g o ds)
  (l1:cs.length=72) (l2:ds.length=72) (c1:cs.toArray.all (·.oneCell')=true) :
  Calls Tryz.prog 67 #[.pointer (some ⟨g,o,none⟩),.bool k] w fun e w'=>e=.returned (.tuple #[]) ∧
   aj w' g (o+72) [.pointer none]∧aj w' g o (if k then cs else ds)∧Chg (fun b j=>b=g∧o≤j∧j<o+73) w w':=by
 have HP:=ae hp
 have i1:=ae (tZ l1)
 have j1:=ae (tY l1)
 have C1:=ae c1
 have HC:=ae hc.1
 have T1:Hid (w.there g o cs.toArray.size):=by show World.there _ _ _ _;rw[List.size_toArray,l1,← l2];exact hd.2
 have HF:Hid (aj (w.setCells g o cs) g (o+72) [.pointer (some ⟨p,0,none⟩)]∧aj (w.setCells g o cs) g o cs∧Chg (fun b j=>b=g∧o≤j∧j<o+73) w (w.setCells g o cs)) :=
  ⟨hp.ej cs (.inr (.inr (by omega))),hd.set cs (by omega),(Chg.refl _ w).setCells (fun j hj _=>⟨rfl,by omega,by omega⟩) (by rw[l1,← l2];exact hd.2)⟩
 have HD:=ae hd
 have L2:=ae l2
 have L1:=ae l1
 have hcell:w.cell? ⟨g,o+72,none⟩=some (.pointer (some ⟨p,0,none⟩)):=by have:=hp.cell (j:=0) rfl;rwa [Nat.add_zero] at this
 have hfree:w.frozen? ⟨g,o+72,none⟩=false:=by have:=hp.free (j:=0) (by simp);rwa [Nat.add_zero] at this
 clear hp hc hd l1 l2 c1
 go_enter Tryz.func67,Tryz.ntmps67
 cases k
 ·go_wp2
  go_end0
  refine⟨rfl,HP.out.put 0 (by simp) _,HD.out.ej (b':=g) (o':=o+72) [.pointer none] (.inr (.inl (by rw[L2.out];exact Nat.le_refl _))),(Chg.refl _ w).setCell rfl (fun _=>⟨rfl,by simp,by simp⟩) (by rw[hcell];rfl) _⟩
 ·obtain ⟨w3,hw3⟩:∃ w3,w3=w.setCells g o cs:=⟨_,rfl⟩
  rw[← hw3] at HF
  have HW3:=ae hw3
  have KN:w3.cell? ⟨g,o+72,none⟩=some (.pointer (some ⟨p,0,none⟩)):=by have:=HF.out.1.cell (j:=0) rfl;rwa [Nat.add_zero] at this
  have Qn:w3.frozen? ⟨g,o+72,none⟩=false:=by have:=HF.out.1.free (j:=0) (by simp);rwa [Nat.add_zero] at this
  clear hw3
  go_wp2_with (first
   | (refine wpList_load_mid rfl 131 (.tmp 10) rfl p 0 rfl cs _ HC.out Tryz.underlying131 rfl i1.out ?_)
   | (refine wpList_store_mid rfl 131 (.tmp 13) (.tmp 11) rfl g o cs.toArray rfl rfl T1.out j1.out C1.out ?_;rw[List.toList_toArray,← HW3.out];clear T1 HW3 HC))
  go_end0
  refine⟨rfl,HF.out.1.put 0 (by simp) _,HF.out.2.1.ej (b':=g) (o':=o+72) [.pointer none] (.inr (.inl (by rw[L1.out];exact Nat.le_refl _))),HF.out.2.2.setCell rfl (fun _=>⟨rfl,by simp,by simp⟩) (by rw[KN];rfl) _⟩
section
variable {w w':World} {F F':Nat→Prop} {D g:Nat} {ps ps':Nat→Nat} {L L':List Blk} {S:Nat→Nat→Prop}
set_option maxRecDepth 512
theorem bM.update (h:bM w F D g ps L) (hc:Chg S w w') (T:Nat→Prop)
  (hS:∀ k o,S k o→(k=g∧∃ i,T i∧i*145≤o∧o<i*145+145)∨∃ (i:Nat) (b:Blk),T i∧L[i]? = some b∧b.aK=true∧k=ps i)
  (hlen:L'.length=L.length) (hsame:∀ i,¬ T i→L'[i]? = L[i]?∧ps' i=ps i)
  (hT:∀ (i:Nat) (b':Blk),T i→L'[i]? = some b'→b'.ok∧aj w' g (i*145) (gW b' (ps' i)) ∧
   (b'.aK=true→aj w' (ps' i) 0 (b'.cur.map V8)∧((ps' i=ps i∧∃ b:Blk,L[i]? = some b∧b.aK=true)∨(w.heap.size≤ps' i∧F' (ps' i)))))
  (Qi:∀ (i j:Nat) (b c:Blk),T i→T j→L'[i]? = some b→L'[j]? = some c→b.aK=true→c.aK=true→w.heap.size≤ps' i→ps' i=ps' j→i=j)
  (hF:∀ k,F k→F' k) (hF':∀ k,F' k→k<w'.heap.size):bM w' F' D g ps' L':=by
 have hD:=h.lt D h.fD
 have hG:=h.lt g h.fg
 have hold:∀ (i:Nat) (b':Blk),L'[i]? = some b'→b'.aK=true→(ps' i=ps i∧∃ b:Blk,L[i]? = some b∧b.aK=true)∨(T i∧w.heap.size≤ps' i∧F' (ps' i)):=fun i b' hb hd=>by
  by_cases hi:T i
  ·rcases((hT i b' hi hb).2.2 hd).2 with h1 | h1
   ·exact .inl h1
   ·exact .inr ⟨hi,h1⟩
  ·exact .inl ⟨(hsame i hi).2,b',by rw[← (hsame i hi).1];exact hb,hd⟩
 have Nx:∀ (i:Nat) (b:Blk),L[i]? = some b→b.aK=true→ps i<w.heap.size:=fun i b hb hd=>h.lt _ (h.apart i b hb hd).2.2
 refine⟨?_,fun i b hb=>?_,fun i b hb hd=>?_,fun i b hb=>?_,fun i j b c hb hc' hd hd' e=>?_,fun i b hb hd=>?_,h.dg,hF _ h.fD,hF _ h.fg,hF',by rw[hlen];exact h.few⟩
 ·rw[hlen]
  refine h.head.chg hc fun j hj hs=>?_
  rcases hS _ _ hs with ⟨e,_⟩ | ⟨i,b,_,hb,hd,e⟩
  ·exact h.dg e
  ·exact(h.apart i b hb hd).1 e.symm
 ·by_cases hi:T i
  ·exact(hT i b hi hb).2.1
  ·have h1:=hsame i hi
   rw[h1.1] at hb
   rw[h1.2]
   refine(h.row i b hb).chg hc fun j hj hs=>?_
   rw[lB (h.ok i b hb)] at hj
   rcases hS _ _ hs with ⟨_,i',hi',h2,h3⟩ | ⟨i',b',_,hb',hd,e⟩
   ·have:i=i':=by omega
    exact hi (this ▸ hi')
   ·exact(h.apart i' b' hb' hd).2.1 e.symm
 ·by_cases hi:T i
  ·exact((hT i b hi hb).2.2 hd).1
  ·have h1:=hsame i hi
   rw[h1.1] at hb
   rw[h1.2]
   refine(h.wr i b hb hd).chg hc fun j hj hs=>?_
   rcases hS _ _ hs with ⟨e,_⟩ | ⟨i',b',hi',hb',hd',e⟩
   ·exact(h.apart i b hb hd).2.1 e
   ·exact hi (h.inj i i' b b' hb hb' hd hd' e ▸ hi')
 ·by_cases hi:T i
  ·exact(hT i b hi hb).1
  ·rw[(hsame i hi).1] at hb;exact h.ok i b hb
 ·rcases hold i b hb hd with ⟨e1,b1,hb1,hd1⟩ | ⟨t1,n1,_⟩ <;> rcases hold j c hc' hd' with ⟨e2,b2,hb2,hd2⟩ | ⟨t2,n2,_⟩
  ·exact h.inj i j b1 b2 hb1 hb2 hd1 hd2 (by rw[← e1,← e2,e])
  ·have:=Nx i b1 hb1 hd1;omega
  ·have:=Nx j b2 hb2 hd2;omega
  ·exact Qi i j b c t1 t2 hb hc' hd hd' n1 e
 ·rcases hold i b hb hd with ⟨e1,b1,hb1,hd1⟩ | ⟨t1,n1,f1⟩
  ·rw[e1]
   have:=h.apart i b1 hb1 hd1
   exact⟨this.1,this.2.1,hF _ this.2.2⟩
  ·exact⟨by omega,by omega,f1⟩
theorem bM.one (h:bM w F D g ps L) (hc:Chg S w w') (i:Nat) {b b':Blk} (hb:L[i]? = some b) (q:Nat)
  (hS:∀ k o,S k o→(k=g∧i*145≤o∧o<i*145+145)∨(b.aK=true∧k=ps i))
  (hok:b'.ok) (hrow:aj w' g (i*145) (gW b' q))
  (hwr:b'.aK=true→aj w' q 0 (b'.cur.map V8)∧((q=ps i∧b.aK=true)∨(w.heap.size≤q∧F' q)))
  (hF:∀ k,F k→F' k) (hF':∀ k,F' k→k<w'.heap.size):bM w' F' D g (fun j=>if j=i then q else ps j) (L.set i b'):=by
 have hi:=(List.getElem?_eq_some_iff.1 hb).1
 refine h.update hc (fun j=>j=i) (fun k o hs=>?_) (by simp) (fun j hj=>?_) (fun j c hj hc'=>?_) (fun j k _ _ hj hk _ _ _ _ _ _=>by rw[hj,hk]) hF hF'
 ·rcases hS k o hs with ⟨e,h1⟩ | ⟨hd,e⟩
  ·exact .inl ⟨e,i,rfl,h1⟩
  ·exact .inr ⟨i,b,rfl,hb,hd,e⟩
 ·exact⟨by rw[List.getElem?_set_ne (fun e=>hj e.symm)],if_neg hj⟩
 ·subst hj
  rw[List.getElem?_set_self hi] at hc'
  injection hc' with hc'
  subst hc'
  simp only [if_true]
  refine⟨hok,hrow,fun hd=>?_⟩
  obtain ⟨h1,h2⟩:=hwr hd
  refine⟨h1,?_⟩
  rcases h2 with ⟨e,h2⟩ | h2
  ·exact .inl ⟨e,b,hb,h2⟩
  ·exact .inr h2
theorem bM.stay (h:bM w F D g ps L) (hc:Chg S w w') (hS:∀ k o,F k→¬ S k o):bM w' F D g ps L:=by
 refine⟨h.head.chg hc fun j _=>hS _ _ h.fD,fun i b hb=>(h.row i b hb).chg hc fun j _=>hS _ _ h.fg,fun i b hb hd=>(h.wr i b hb hd).chg hc fun j _=>hS _ _ (h.apart i b hb hd).2.2,h.ok,h.inj,h.apart,h.dg,h.fD,h.fg,fun k hk=>Nat.lt_of_lt_of_le (h.lt k hk) hc.size,h.few⟩
end
set_option maxRecDepth 512
def aG (w:World) (F:Nat→Prop) (D:Nat) (L:List Blk):Prop:=∃ g ps,bM w F D g ps L
def After (w:World) (F:Nat→Prop) (w':World) (D:Nat) (L:List Blk):Prop:=∃ F',aG w' F' D L∧(∀ k,F' k→F k∨w.heap.size≤k)∧Chg (fun k _=>F k) w w'
theorem aG.stay {w w':World} {F:Nat→Prop} {D:Nat} {L:List Blk} {S:Nat→Nat→Prop} (h:aG w F D L) (hc:Chg S w w') (hS:∀ k o,F k→¬ S k o):aG w' F D L:=by
 obtain ⟨g,ps,h⟩:=h
 exact⟨g,ps,h.stay hc hS⟩
theorem aG.below {w w':World} {F:Nat→Prop} {D:Nat} {L:List Blk} (h:aG w F D L) (hc:Below w.heap.size w w'):aG w' F D L:=h.stay (Chg.below hc fun _ _=>False) fun _ _ _ x=>x
theorem aG.after {w:World} {F:Nat→Prop} {D:Nat} {L:List Blk} (h:aG w F D L):After w F w D L:=⟨F,h,fun _ hk=>.inl hk,Chg.refl _ _⟩
namespace Dsk
def eQ (L:List Blk) (i:Int):Option Blk:=if 0≤i then L[i.toNat]? else none
def s7 (L:List Blk) (i:Int) (f:Blk→Blk):List Blk:=match eQ L i with
 | some b=>L.set i.toNat (f b)
 | none=>L
theorem dM {L:List Blk} {i:Int} {b:Blk} (h:eQ L i=some b):∃ n:Nat,i=n∧L[n]? = some b:=by
 unfold eQ at h
 split at h
 ·exact⟨i.toNat,by omega,h⟩
 ·cases h
theorem jy {L:List Blk} {i:Int} (h:eQ L i=none):i<0∨(L.length:Int)≤i:=by
 unfold eQ at h
 split at h
 ·rw[List.getElem?_eq_none_iff] at h;omega
 ·omega
theorem jS (L:List Blk) (n:Nat):eQ L (n:Int)=L[n]?:=by unfold eQ;rw[if_pos (by omega)];rfl
theorem fP {L:List Blk} {i:Nat} {b:Blk} (h:L[i]? = some b) (f:Blk→Blk):s7 L i f=L.set i (f b):=by
 unfold s7
 rw[jS,h];rfl
theorem rJ {L:List Blk} {i:Int} (h:eQ L i=none) (f:Blk→Blk):s7 L i f=L:=by unfold s7;rw[h]
theorem gv (L:List Blk) (i:Int) (f:Blk→Blk):(s7 L i f).length=L.length:=by
 unfold s7
 split <;> simp
def okW (L:List Blk) (i:Int) (bs:List UInt8):Bool:=(eQ L i).isSome && decide (bs.length=72)
def bU (L:List Blk) (i:Int) (bs:List UInt8):List Blk:=if okW L i bs then s7 L i (·.write bs) else L
end Dsk
end Go.Proofs.YthbmknpbcgnabaaGreatDoor
