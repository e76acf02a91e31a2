/- Of the walk. -/
import Derived.Test.YthbmknpbcgnabaaGreatDoorB12
import Derived.Test.YthbmknpbcgnabaaGreatDoorB13
set_option maxHeartbeats 40000000
namespace Go.Proofs.YthbmknpbcgnabaaGreatDoor
open Go.RowKit Aes Ctr Sl
theorem Row.own {w:World} {g B n:Nat} {cs:List Value} (h:Row w g 5 cs) (hB:B≤g) (hn:cs.length=n) (hm:n≤1000000):Own w B 5 (.slice (some ⟨g,0,none⟩) n n) cs:=by
 subst hn
 refine⟨by simp,.inr ⟨g,cs.length,cs.toArray,rfl,hB,h,Nat.le_refl _,by simp only [maxLen];omega,by simp,by simp⟩⟩
theorem run_mark (g n c:Nat) (bs:List UInt8) (W:World) (h:Row W g 5 (bs.map V8)):(convert 22 22 (.slice (some ⟨g,0,none⟩) n c)).run Tryz.prog W=.ok (.slice (some ⟨g,0,none⟩) n c) (W.freeze ⟨g,bs.length,none⟩ 1):=by
 have hsh:W.shape? g=some (5,bs.length):=by
  have h':W.heap[g]? = some (.cells (bs.map V8).toArray 5 (0,0)):=h
  unfold World.shape?
  rw[h']
  simp
 simp [convert,run_underlying Tryz.underlying22,run_underlying Tryz.underlying5,markStringish,hsh]
theorem fW (W:World) (g k j:Nat) (hj:j≠g):(W.freeze ⟨g,k,none⟩ 1).heap[j]? = W.heap[j]?:=by
 unfold World.freeze
 rw[if_neg (by decide)]
 show (W.heap.modify g _)[j]? = _
 rw[Array.getElem?_modify,if_neg (fun e=>hj e.symm)]
theorem js (W:World) (g k:Nat):(W.freeze ⟨g,k,none⟩ 1).heap.size=W.heap.size:=by
 unfold World.freeze
 rw[if_neg (by decide)]
 show (W.heap.modify g _).size=_
 simp
theorem dW (W:World) (B g k:Nat) (hB:B≤g):Below B W (W.freeze ⟨g,k,none⟩ 1):=by
 refine⟨?_,?_,?_,by rw[js];exact Nat.le_refl _,fun j hj=>fW W g k j (by omega)⟩ <;> (unfold World.freeze;rw[if_neg (by decide)])
theorem ng (W:World) (g k:Nat) (p:Addr):(W.freeze ⟨g,k,none⟩ 1).cell? p=W.cell? p:=by
 rcases Nat.lt_trichotomy p.block g with h | h | h
 ·exact World.cell?_of_block (fW W g k p.block (by omega))
 ·unfold World.freeze
  rw[if_neg (by decide)]
  unfold World.cell?
  show (match (W.heap.modify g _)[p.block]? with | some (.cells c _ _)=>if p.spot.isSome then none else c[p.off]? | _=>none)=_
  rw[Array.getElem?_modify,if_pos h.symm]
  cases hq:W.heap[p.block]? with
  | none=>rfl
  | some o=>cases o <;> rfl
 ·exact World.cell?_of_block (fW W g k p.block (by omega))
theorem Arg.mark {W:World} {v:Value} {bs:List UInt8} (h:Arg W v bs) (g k:Nat):Arg (W.freeze ⟨g,k,none⟩ 1) v bs:=by
 rcases h with h | ⟨b,o,c,e,hb,hc,hs⟩
 ·exact .inl h
 ·exact .inr ⟨b,o,c,e,by rw[js];exact hb,hc,fun j u hu=>(ng W g k _).trans (hs j u hu)⟩
theorem fG (W:World) (g k:Nat) {t:TypeId} {bs:List UInt8} (h:Row W g t (bs.map V8)) (n:Nat) (hn:bs.length=n):Arg (W.freeze ⟨g,k,none⟩ 1) (.slice (some ⟨g,0,none⟩) n n) bs:=(h.arg n hn).mark g k
theorem Mf {w:World} {v1 v2 v3:Value} {p1 p2 p3:List UInt8} (h1:Arg w v1 p1) (h2:Arg w v2 p2) (h3:Arg w v3 p3):Hm.iQ w [v1,v2,v3] [p1,p2,p3]:=by
 refine⟨rfl,fun j v p hv hp=>?_⟩
 match j with
 | 0=>simp only [List.getElem?_cons_zero,Option.some.injEq] at hv hp;subst hv hp;exact h1
 | 1=>simp only [List.getElem?_cons_succ,List.getElem?_cons_zero,Option.some.injEq] at hv hp;subst hv hp;exact h2
 | 2=>simp only [List.getElem?_cons_succ,List.getElem?_cons_zero,Option.some.injEq] at hv hp;subst hv hp;exact h3
 | j+3=>simp at hv
theorem mZ {w:World} {v1 v2 v3:Value} {p1 p2 p3:List UInt8} (h1:Arg w v1 p1) (h2:Arg w v2 p2) (h3:Arg w v3 p3) :
  Hm.dz (w.alloc (.cells #[v1,v2,v3] 22)) (.slice (some ⟨w.heap.size,0,none⟩) 3 3) [p1,p2,p3] :=
 ⟨_,3,[v1,v2,v3],rfl,Hm.iQ.below (Mf h1 h2 h3) ((Below.refl _ _).alloc (Nat.le_refl _) _),fun _=>⟨w.heap.size,0,rfl,by simp,(Row.new w 22 [v1,v2,v3]).sees⟩⟩
theorem xW {w:World} {v1:Value} {p1:List UInt8} (h1:Arg w v1 p1) :
  Hm.dz (w.alloc (.cells #[v1] 22)) (.slice (some ⟨w.heap.size,0,none⟩) 1 1) [p1]:=by
 refine⟨_,1,[v1],rfl,Hm.iQ.below (w:=w) ⟨rfl,fun j v p hv hp=>?_⟩ ((Below.refl _ _).alloc (Nat.le_refl _) _),fun _=>⟨w.heap.size,0,rfl,by simp,(Row.new w 22 [v1]).sees⟩⟩
 match j with
 | 0=>simp only [List.getElem?_cons_zero,Option.some.injEq] at hv hp;subst hv hp;exact h1
 | j+1=>simp at hv
def cz (ek mk:List UInt8) (ks:List Value):Prop:=ks=(ek++mk).map V8∧ek.length=16∧mk.length=32
section
variable {ek mk:List UInt8} {ks:List Value}
theorem cz.vec (h:cz ek mk ks):Vec 48 (ek++mk) ks:=⟨h.1,by rw[List.length_append,h.2.1,h.2.2]⟩
theorem cz.size (h:cz ek mk ks):ks.toArray.size=48:=h.vec.size
theorem cz.enc {w:World} {g:Nat} {t:TypeId} (h:cz ek mk ks) (hr:Row w g t ks):Arg w (.slice (some ⟨g,0,none⟩) 16 16) ek:=by
 refine .inr ⟨g,0,16,by rw[h.2.1],hr.lt,by rw[h.2.1];omega,?_⟩
 have:=(h.1 ▸ hr:Row w g t ((ek++mk).map V8)).sees.piece 0 16
 rwa [Nat.zero_add,List.drop_zero,← List.map_take,List.take_append_of_le_length (by rw[h.2.1];omega),List.take_of_length_le (by rw[h.2.1];omega)] at this
theorem cz.mac {w:World} {g:Nat} {t:TypeId} (h:cz ek mk ks) (hr:Row w g t ks):Arg w (.slice (some ⟨g,16,none⟩) 32 32) mk:=by
 refine .inr ⟨g,16,32,by rw[h.2.2],hr.lt,by rw[h.2.2];omega,?_⟩
 have:=(h.1 ▸ hr:Row w g t ((ek++mk).map V8)).sees.tail 16
 rwa [Nat.zero_add,← List.map_drop,List.drop_append_of_le_length (by rw[h.2.1];omega),List.drop_of_length_le (by rw[h.2.1];omega),List.nil_append] at this
end
set_option maxRecDepth 100000
theorem Cv (n x:Nat) (hx:x<2 ^ 64) (hn:n≤8) (w:World) :
  Calls Tryz.prog 73 #[.int .u64 x,.int .i64 n] w fun e w'=>e=.returned (.slice (some ⟨w.heap.size,0,none⟩) n n)∧Hid (Row w' w.heap.size 5 ((big n x).map V8))∧Below w.heap.size w w':=by
 obtain ⟨zs,hzs⟩:∃ zs,zs=(List.replicate n (0:UInt8)).map V8:=⟨_,rfl⟩
 have hmk:∀ W,(Instr.makeSlice 22 (.int .i64 (n:Int)) (.int .i64 (n:Int))).run Tryz.prog W=.ok (.slice (some ⟨W.heap.size,0,none⟩) n n) (W.alloc (.cells zs.toArray 5)):=fun W=>by rw[hzs];exact Er n (by omega) W
 have HR:Hid (Row (w.alloc (.cells zs.toArray 5)) w.heap.size 5 ((List.replicate n (0:UInt8)).map V8)):=by
  show Row _ _ _ _
  rw[← hzs];exact Row.new w _ zs
 have HB0:Hid (Below w.heap.size w (w.alloc (.cells zs.toArray 5))):=(Below.refl _ _).alloc (Nat.le_refl _) _
 have CM:Hid (rf (List.replicate n 0) 0 n x=big n x):=by
  show _=_
  have:=zQ n [] (List.replicate n 0) [] x (by simp)
  simpa [rf] using this
 clear hzs
 go_enter Tryz.func73,Tryz.ntmps73
 go_wp2
 go_loopw [0,6] (fun y i wr=>∃ (k z:Nat) (m:List UInt8),k≤n∧i=.int .i64 ((k:Int) - 1)∧y=.int .u64 z∧z<2 ^ 64∧Hid (m.length=n)∧Hid (rf m 0 k z=rf (List.replicate n 0) 0 n x)∧Hid (Row wr w.heap.size 5 (m.map V8))∧Below w.heap.size w wr) (fun _ i _=>(intOf i+1).toNat)
 case atStart=>exact⟨n,x,List.replicate n 0,Nat.le_refl _,rfl,rfl,hx,List.length_replicate,rfl,HR,HB0.out⟩
 case round =>
  obtain ⟨k,z,m,hk,rfl,rfl,hz,Hml,uN,dR,hgr⟩:=hrel
  clear HR HB0 hmk
  rcases Nat.eq_zero_or_pos k with rfl | hpos
  ·go_wp2
   rw[r6] at uN
   have e:=uN.out.trans CM.out
   go_ret
   exact⟨rfl,by rw[← e];exact dR,hgr⟩
  ·obtain ⟨j,rfl⟩:∃ j,k=j+1:=⟨k - 1,by omega⟩
   have e1:((j+1:Nat):Int) - 1=(j:Int):=by omega
   rw[e1]
   have c0:wr.cell? ⟨w.heap.size,j,none⟩=some (.int .u8 (m.getD j 0).toNat):=by
    have:=mz dR.out j (by rw[Hml.out];omega)
    exact this
   have f0:=dR.out.free j
   rw[r7,Nat.zero_add] at uN
   generalize (m.getD j 0).toNat=y at *
   clear e1
   go_wp2
   go_roundw
   case rel =>
    refine⟨j,z / 256,m.set j (UInt8.ofNat z),by omega,rfl,by rw[Int.natCast_ediv];rfl,by omega,?_,uN,?_,hgr.setCell (Nat.le_refl _) _⟩
    ·show _=_
     rw[List.length_set];exact Hml.out
    ·show Row _ _ _ _
     rw[List.map_set,iu z]
     exact dR.out.set j _
   case measure=>simp only [intOf];omega
set_option maxRecDepth 512
theorem wK (n x:Nat) (z:Int) (hz:z=((x:Nat):Int)) (hx:x<2 ^ 64) (hn:n≤8) (w:World) :
  Calls Tryz.prog 73 #[.int .u64 z,.int .i64 n] w fun e w'=>e=.returned (.slice (some ⟨w.heap.size,0,none⟩) n n)∧Hid (Row w' w.heap.size 5 ((big n x).map V8))∧Below w.heap.size w w':=by
 subst hz
 exact Cv n x hx hn w
theorem uE (x:Nat) (z:Int) (hz:z=((x:Nat):Int)) (hx:x<2 ^ 64) (w:World) :
  Calls Tryz.prog 73 #[.int .u64 z,.int .i64 4] w fun e w'=>e=.returned (.slice (some ⟨w.heap.size,0,none⟩) 4 4)∧Hid (Row w' w.heap.size 5 ((big 4 x).map V8))∧Below w.heap.size w w':=wK 4 x z hz hx (by omega) w
theorem II (x:Nat) (hx:x<2 ^ 64) (w:World) :
  Calls Tryz.prog 73 #[.int .u64 (x:Int),.int .i64 8] w fun e w'=>e=.returned (.slice (some ⟨w.heap.size,0,none⟩) 8 8)∧Hid (Row w' w.heap.size 5 ((big 8 x).map V8))∧Below w.heap.size w w':=wK 8 x _ rfl hx (by omega) w
theorem kU (d:Int):IntKind.u64.wrap d=((nm d:Nat):Int):=by rw[IntKind.wrap_u64,tR]
theorem zW (a x:Nat) (ha:a<2 ^ 56) (hx:x<256):bits .or .u64 ((a:Int)*256) (x:Int)=((a*256+x:Nat):Int):=by
 have e:(a:Int)*256=((a*256:Nat):Int):=by omega
 rw[e,u64_or_nat _ _ (by omega) (by omega)]
 congr 1
 have:=Nat.shiftLeft_add_eq_or_of_lt (i:=8) (by omega:x<2 ^ 8) a
 rw[Nat.shiftLeft_eq] at this
 exact this.symm
set_option maxRecDepth 100000
theorem Cw (b:List UInt8) (hb8:b.length≤8) (v:Value) (w:World) (h:Arg w v b) :
  Calls Tryz.prog 93 #[v] w fun e w'=>e=.returned (.int .u64 ((num b:Nat):Int))∧Below w.heap.size w w':=by
 obtain ⟨A,cap,rfl⟩:=h.form
 obtain ⟨n,hnl⟩:∃ n,n=b.length:=⟨_,rfl⟩
 have HS:Hid (∀ j,j<n→∃ bb o,A=some ⟨bb,o,none⟩∧w.cell? ⟨bb,o+j,none⟩=some (.int .u8 (b.getD j 0).toNat)):=fun j hj=>by
  rcases h with ⟨A',e,rfl⟩ | ⟨bb,o,c,e,hbb,_,hs⟩
  ·simp at hnl;omega
  ·injection e with e1 _ _
   exact⟨bb,o,e1,at8 hs j (by omega)⟩
 rw[← hnl] at hb8 ⊢
 have HNl:=ae hnl
 clear hnl h
 go_enter Tryz.func93,Tryz.ntmps93
 go_wp2
 go_loop [3,8] (fun s i=>∃ (k a:Nat),k≤n∧i=.int .i64 k∧s=.int .u64 a∧Hid (a=num (b.take k))) (fun _ i=>n - (intOf i).toNat)
 case atStart=>exact⟨0,0,by omega,rfl,rfl,by show _=_;simp [num]⟩
 case round =>
  obtain ⟨k,a,hk,rfl,rfl,Ha⟩:=hrel
  by_cases hlt:k<n
  ·obtain ⟨bb,o,rfl,hx⟩:=HS.out k hlt
   have Htk:=ae (pP b k (by rw[← HNl.out];exact hlt))
   have ha:a<2 ^ 56:=by
    rw[Ha.out]
    have h1:=tP (b.take k) 7 (by rw[List.length_take];omega)
    have:(256:Nat) ^ 7=2 ^ 56:=by decide
    omega
   clear HS
   generalize b.getD k 0=x at *
   have hx8:=lt8 x
   have Hor:=ae (zW a x.toNat ha hx8)
   go_wp2
   go_round
   case rel =>
    refine⟨k+1,a*256+x.toNat,by omega,by go_num,?_,?_⟩
    ·rw[Hor.out]
    ·show _=_
     rw[Htk.out,Ha.out]
   case measure=>simp [intOf];omega
  ·obtain rfl:k=n:=by omega
   go_wp2
   go_ret
   rw[Ha.out,HNl.out,List.take_length]
   exact⟨rfl,Below.refl _ _⟩
end Go.Proofs.YthbmknpbcgnabaaGreatDoor
namespace Go.Proofs.YthbmknpbcgnabaaGreatDoor
namespace Cdc
def big:Nat→Nat→List UInt8
 | 0,_=>[]
 | k+1,n=>big k (n / 256)++[UInt8.ofNat n]
theorem aU (k:Nat):∀ n,(big k n).length=k:=by
 induction k with
 | zero=>intro n;rfl
 | succ k ih=>intro n;simp [big,ih]
def num:Nat→List UInt8→Nat
 | acc,[]=>acc
 | acc,x::l=>num (acc*256+x.toNat) l
theorem x9 (l:List UInt8):∀ (acc:Nat) (x:UInt8),num acc (l++[x])=num acc l*256+x.toNat:=by
 induction l with
 | nil=>intro acc x;rfl
 | cons y l ih=>intro acc x;exact ih _ _
theorem tP (l:List UInt8):∀ acc c,acc<c→num acc l<c*256 ^ l.length:=by
 induction l with
 | nil=>intro acc c h;simpa [num] using h
 | cons x l ih =>
  intro acc c h
  have hx:=lt8 x
  have:=ih (acc*256+x.toNat) (c*256) (by omega)
  rw[num,List.length_cons,Nat.pow_succ,Nat.mul_comm (256 ^ l.length) 256,← Nat.mul_assoc]
  exact this
theorem zX (k:Nat):∀ n,n<256 ^ k→num 0 (big k n)=n:=by
 induction k with
 | zero=>intro n h;simp at h;simp [big,num,h]
 | succ k ih =>
  intro n h
  rw[Nat.pow_succ] at h
  rw[big,x9,ih (n / 256) (by omega),UInt8.toNat_ofNat']
  omega
def nums:List Int→List UInt8→List Nat
 | [],_=>[]
 | x::ws,b=>num 0 (b.take x.toNat)::nums ws (b.drop x.toNat)
theorem zW (a x:Nat) (ha:a<2 ^ 56) (hx:x<256):bits .or .u64 ((a:Int)*256) (x:Int)=((a*256+x:Nat):Int):=by
 have e:(a:Int)*256=((a*256:Nat):Int):=by omega
 rw[e,u64_or_nat _ _ (by omega) (by omega)]
 congr 1
 have:=Nat.shiftLeft_add_eq_or_of_lt (i:=8) (by omega:x<2 ^ 8) a
 rw[Nat.shiftLeft_eq] at this
 exact this.symm
end Cdc
def QD (ok:Bool):Int:=if ok then 0 else 1
theorem bq.parts {w:World} {v:Value} {ys:List Value} (h:bq w v ys):∃ A cap,v=.slice A ys.length cap∧(0<ys.length→∃ b o,A=some ⟨b,o,none⟩∧b<w.heap.size∧ah w b o ys):=by
 rcases h with ⟨A,e,rfl⟩ | ⟨b,o,c,e,hl,hs⟩
 ·exact⟨A,0,e,fun h=>by simp at h⟩
 ·exact⟨_,c,e,fun _=>⟨b,o,rfl,hl,hs⟩⟩
theorem rN {α:Type} (l:List α) (i:Nat) (hi:i<l.length) (d:α):l.take (i+1)=l.take i++[l.getD i d]:=by
 rw[List.take_succ_eq_append_getElem hi,List.getD_eq_getElem?_getD,List.getElem?_eq_getElem hi];rfl
end Go.Proofs.YthbmknpbcgnabaaGreatDoor
namespace Go.Proofs.YthbmknpbcgnabaaGreatDoor.Mr
theorem iK {w:World} {v:Value} {bs:List UInt8}:Hm.Arg w v bs ↔ Arg w v bs:=Iff.rfl
namespace Mk
abbrev Tg:=List UInt8
def gZ:Tg:=[110,111,100,101]
def zero:Tg:=List.replicate 32 0
def node (key:Tg) (four:List Tg):Tg:=Hm.mac key (Hm.joined (gZ::four))
theorem ky (key:Tg) (four:List Tg):(node key four).length=32:=Hm.eD _ _
def IsH (m:Int) (h:Nat):Prop:=1≤h∧m≤4 ^ h∧(h=1∨(4:Int) ^ (h - 1)<m)
theorem fc (h:Nat):((4 ^ h:Nat):Int)=(4:Int) ^ h:=by simp
theorem IsH.unique {m:Int} {h k:Nat} (a:IsH m h) (b:IsH m k):h=k:=by
 have mono:∀ {i j:Nat},i≤j→(4:Int) ^ i≤4 ^ j:=fun {i j} hij=>by
  rw[← fc,← fc]
  exact_mod_cast Nat.pow_le_pow_right (by omega) hij
 obtain ⟨a1,a2,a3⟩:=a
 obtain ⟨b1,b2,b3⟩:=b
 rcases Nat.lt_trichotomy h k with hlt | e | hlt
 ·rcases b3 with b3 | b3
  ·omega
  ·have:=mono (show h≤k - 1 by omega)
   omega
 ·exact e
 ·rcases a3 with a3 | a3
  ·omega
  ·have:=mono (show k≤h - 1 by omega)
   omega
def ups (key:Tg) (l:List Tg):List Tg:=(List.range (l.length / 4)).map fun i=>node key ((l.drop (4*i)).take 4)
theorem lK (key:Tg) (l:List Tg):(ups key l).length=l.length / 4:=by simp [ups]
def lev (key:Tg) (l:List Tg):Nat→List Tg
 | 0=>l
 | i+1=>ups key (lev key l i)
theorem iI (key:Tg) (l:List Tg) (h:Nat) (hl:l.length=4 ^ h):∀ i,i≤h→(lev key l i).length=4 ^ (h - i)
 | 0,_=>hl
 | i+1,hi=>by
  rw[lev,lK,iI key l h hl i (by omega),show h - i=(h - (i+1))+1 by omega,Nat.pow_succ,Nat.mul_div_cancel _ (by omega)]
theorem AY (key:Tg) (l:List Tg):∀ t∈ups key l,t.length=32:=fun t ht=>by
 obtain ⟨i,_,rfl⟩:=List.mem_map.1 ht
 exact ky _ _
def full (l:List Tg) (h:Nat):List Tg:=l++List.replicate (4 ^ h - l.length) zero
theorem kD (l:List Tg) (h:Nat) (hl:l.length≤4 ^ h):(full l h).length=4 ^ h:=by simp [full];omega
theorem Ap (l:List Tg) (h:Nat) (h32:∀ t∈l,t.length=32):∀ t∈full l h,t.length=32:=fun t ht=>by
 rcases List.mem_append.1 ht with h1 | h1
 ·exact h32 t h1
 ·rw[List.eq_of_mem_replicate h1];rfl
theorem Ev (key:Tg) (l:List Tg) (h32:∀ t∈l,t.length=32):∀ i,∀ t∈lev key l i,t.length=32
 | 0=>h32
 | _+1=>AY key _
def root (key:Tg) (l:List Tg) (h:Nat):Tg:=(lev key (full l h) h).getD 0 []
def K9 (l:List Tg) (p:Nat):List Tg:=(l.drop (p - p % 4)).take 4
def way (key:Tg) (l:List Tg) (h place:Nat):List (List Tg):=(List.range h).map fun i=>K9 (lev key (full l h) i) (place / 4 ^ i)
end Mk
end Go.Proofs.YthbmknpbcgnabaaGreatDoor.Mr
namespace Go.Proofs.YthbmknpbcgnabaaGreatDoor
open Dsk Sl
namespace Bk
structure Bn where
 n:Nat
 ep:Nat
 af:Nat
 root:List UInt8
 tags:List (List UInt8)
 L:List (List UInt8)
 at_:Nat
 next:List (List UInt8)
def hB (m:Nat):Nat:=if m≤4 then 1 else if m≤16 then 2 else if m≤64 then 3 else 4
theorem sD (m:Nat) (hm:m≤100):Mr.Mk.IsH m (hB m):=by
 unfold hB
 split
 ·exact⟨by omega,by show (m:Int)≤4;omega,.inl rfl⟩
 ·split
  ·exact⟨by omega,by show (m:Int)≤16;omega,.inr (by show (4:Int)<m;omega)⟩
  ·split
   ·exact⟨by omega,by show (m:Int)≤64;omega,.inr (by show (16:Int)<m;omega)⟩
   ·exact⟨by omega,by show (m:Int)≤256;omega,.inr (by show (64:Int)<m;omega)⟩
def b7 (mk:List UInt8) (l:List (List UInt8)):List UInt8:=Mr.Mk.root mk l (hB l.length)
def z64:List UInt8:=List.replicate 64 0
def put (ek mk:List UInt8) (n af i ep:Nat) (p:List UInt8) (D:List Blk):List Blk × List UInt8 :=
 (bU D ((af*n+i:Nat):Int) (rw_ ek i ep p),tg mk i (rw_ ek i ep p))
def bw (ek mk:List UInt8) (n af ep:Nat) (f:Nat→List UInt8):Nat→List Blk→List Blk × List (List UInt8)
 | 0,D=>(D,[])
 | i+1,D=>((put ek mk n af i ep (f i) (bw ek mk n af ep f i D).1).1,(bw ek mk n af ep f i D).2++[(put ek mk n af i ep (f i) (bw ek mk n af ep f i D).1).2])
def flush (D:List Blk):List Blk:=cV (fun _=>true) D
def format (ek mk:List UInt8) (n:Nat) (D:List Blk):Bn × List Blk :=
 (⟨n,1,0,b7 mk (bw ek mk n 0 1 (fun _=>z64) n D).2,(bw ek mk n 0 1 (fun _=>z64) n D).2,[],0,[]⟩,flush (bw ek mk n 0 1 (fun _=>z64) n D).1)
def aq (D:List Blk) (k:Nat):List UInt8:=(D.getD k Blk.zero).cur
def b9 (mk:List UInt8) (n af:Nat) (D:List Blk):List (List UInt8):=(List.range n).map fun i=>tg mk i (aq D (af*n+i))
def cH (mk:List UInt8) (n ep af:Nat) (root:List UInt8) (D:List Blk):Option Bn :=
 if b7 mk (b9 mk n af D)=root then some ⟨n,ep,af,root,b9 mk n af D,[],0,[]⟩ else none
def read (ek mk:List UInt8) (s:Bn) (D:List Blk) (i:Nat):Option (List UInt8) :=
 if tg mk i (aq D (s.af*s.n+i))=s.tags.getD i [] then some (pl ek i (aq D (s.af*s.n+i))) else none
def bA (s:Bn) (l:List (List UInt8)):Bn × Nat :=
 if s.L≠[] then (s,12) else if (∀ x∈l,x.length=64)∧l.length=s.n then ({ s with L:=l,at_:=0,next:=[] },0) else (s,1)
def step (ek mk:List UInt8) (s:Bn) (D:List Blk):(Bn × List Blk) × Bool × Nat :=
 if s.L=[] then ((s,D),false,2)
 else if s.at_<s.n then (({ s with at_:=s.at_+1,next:=s.next++[(put ek mk s.n (1 - s.af) s.at_ (s.ep+1) (s.L.getD s.at_ []) D).2] },(put ek mk s.n (1 - s.af) s.at_ (s.ep+1) (s.L.getD s.at_ []) D).1),false,0)
 else if s.at_=s.n then (({ s with at_:=s.at_+1 },flush D),false,0)
 else ((⟨s.n,s.ep+1,1 - s.af,b7 mk s.next,s.next,[],0,[]⟩,D),true,0)
section
variable {ek mk:List UInt8} {n af i ep k:Nat} {p:List UInt8} {D:List Blk} {f:Nat→List UInt8}
theorem DY (hk:af*n+i<D.length) (hp:p.length=64):(put ek mk n af i ep p D).1=D.set (af*n+i) ((D.getD (af*n+i) Blk.zero).write (rw_ ek i ep p)):=by
 have hg:D[af*n+i]? = some (D.getD (af*n+i) Blk.zero):=by rw[List.getD_eq_getElem?_getD,List.getElem?_eq_getElem hk];rfl
 show bU D ((af*n+i:Nat):Int) (rw_ ek i ep p)=_
 have hok:okW D ((af*n+i:Nat):Int) (rw_ ek i ep p)=true:=by
  unfold okW
  rw[jS,hg,kS,hp];rfl
 rw[bU,hok,if_pos rfl,fP hg]
theorem pN:(put ek mk n af i ep p D).1.length=D.length:=by
 show (bU D _ _).length=_
 unfold bU
 split
 ·exact gv _ _ _
 ·rfl
theorem cC:∀ i,(bw ek mk n af ep f i D).1.length=D.length∧(bw ek mk n af ep f i D).2.length=i
 | 0=>⟨rfl,rfl⟩
 | i+1=>by
  obtain ⟨a,b⟩:=cC i
  rw[bw]
  exact⟨(pN (ek:=ek) (mk:=mk) (n:=n) (af:=af) (i:=i) (ep:=ep) (p:=f i)).trans a,by rw[List.length_append,b];rfl⟩
theorem B9 {b:Blk} (hk:k<D.length) (j:Nat):aq (D.set k b) j=if j=k then b.cur else aq D j:=by
 unfold aq
 rw[List.getD_eq_getElem?_getD,List.getElem?_set,List.getD_eq_getElem?_getD]
 by_cases h:k=j
 ·rw[if_pos h,if_pos (by omega),if_pos h.symm];rfl
 ·rw[if_neg h,if_neg (fun e=>h e.symm)]
theorem BW {b:Blk} (hk:k<D.length) (j:Nat):(D.set k b).getD j Blk.zero=if j=k then b else D.getD j Blk.zero:=by
 rw[List.getD_eq_getElem?_getD,List.getElem?_set,List.getD_eq_getElem?_getD]
 by_cases h:k=j
 ·rw[if_pos h,if_pos (by omega),if_pos h.symm];rfl
 ·rw[if_neg h,if_neg (fun e=>h e.symm)]
theorem pO (hD:af*n+n≤D.length) (hf:∀ i,i<n→(f i).length=64):∀ i,i≤n →
  (∀ j,j<i→aq (bw ek mk n af ep f i D).1 (af*n+j)=rw_ ek j ep (f j)∧(bw ek mk n af ep f i D).2.getD j []=tg mk j (rw_ ek j ep (f j)))
  ∧ ∀ k,(k<af*n∨af*n+i≤k)→(bw ek mk n af ep f i D).1.getD k Blk.zero=D.getD k Blk.zero
 | 0,_=>⟨fun j h=>by omega,fun k _=>rfl⟩
 | i+1,hi=>by
  obtain ⟨a,b⟩:=pO hD hf i (by omega)
  obtain ⟨c,d⟩:=cC (ek:=ek) (mk:=mk) (n:=n) (af:=af) (ep:=ep) (f:=f) (D:=D) i
  have hk:af*n+i<(bw ek mk n af ep f i D).1.length:=by rw[c];omega
  rw[bw]
  dsimp only
  rw[DY hk (hf i (by omega))]
  refine⟨fun j hj=>?_,fun k hk2=>?_⟩
  ·rw[B9 hk]
   by_cases hji:j=i
   ·subst hji
    rw[if_pos rfl]
    refine⟨rfl,?_⟩
    rw[List.getD_eq_getElem?_getD,List.getElem?_append_right (by omega),d,Nat.sub_self];rfl
   ·rw[if_neg (by omega)]
    obtain ⟨e1,e2⟩:=a j (by omega)
    refine⟨e1,?_⟩
    rw[List.getD_eq_getElem?_getD,List.getElem?_append_left (by omega),← List.getD_eq_getElem?_getD];exact e2
  ·rw[BW hk,if_neg (by omega)]
   exact b k (by omega)
theorem qf (D:List Blk) (k:Nat) (hk:k<D.length):(flush D).getD k Blk.zero=(D.getD k Blk.zero).settle true:=by
 rw[flush,List.getD_eq_getElem?_getD,cV,fq,List.getElem?_eq_getElem hk,List.getD_eq_getElem?_getD,List.getElem?_eq_getElem hk]
 simp [hk]
theorem fI (D:List Blk):(flush D).length=D.length:=by unfold flush Dsk.cV;exact bN _ _ _
theorem uv (keep:Nat→Bool) (D:List Blk):(cV keep D).length=D.length:=bN _ _ _
end
structure oP (ek mk:List UInt8) (D:List Blk) (n af ep:Nat) (tags:List (List UInt8)) (want:Nat→List UInt8):Prop where
 clean:∀ i,i<n→(D.getD (af*n+i) Blk.zero).aK=false
 cur:∀ i,i<n→aq D (af*n+i)=rw_ ek i ep (want i)
 tag:∀ i,i<n→tags.getD i []=tg mk i (rw_ ek i ep (want i))
 GB:tags.length=n
section
variable {ek mk:List UInt8} {n af ep:Nat} {D D':List Blk} {tags:List (List UInt8)} {want:Nat→List UInt8}
theorem oP.GG (h:oP ek mk D n af ep tags want):b9 mk n af D=tags:=by
 apply List.ext_getElem?
 intro i
 unfold b9
 rw[List.getElem?_map]
 by_cases hi:i<n
 ·rw[List.getElem?_range hi,Option.map_some,h.cur i hi,← h.tag i hi,List.getD_eq_getElem?_getD,List.getElem?_eq_getElem (by rw[h.GB];exact hi)];rfl
 ·rw[List.getElem?_eq_none (by simp;omega),List.getElem?_eq_none (by rw[h.GB];omega)];rfl
theorem oP.cH (h:oP ek mk D n af ep tags want):Bk.cH mk n ep af (b7 mk tags) D=some ⟨n,ep,af,b7 mk tags,tags,[],0,[]⟩:=by
 unfold Bk.cH
 rw[h.GG,if_pos rfl]
theorem oP.read {s:Bn} (h:oP ek mk D n af ep tags want) (hn:s.n=n) (hb:s.af=af) (ht:s.tags=tags) (hep:ep<2 ^ 64) (i:Nat) (hi:i<n):Bk.read ek mk s D i=some (want i):=by
 unfold Bk.read
 rw[hn,hb,ht,h.cur i hi,h.tag i hi,if_pos rfl,Na _ _ _ hep]
theorem yx {f:Nat→List UInt8} (hD:af*n+n≤D.length) (hf:∀ i,i<n→(f i).length=64):oP ek mk (flush (bw ek mk n af ep f n D).1) n af ep (bw ek mk n af ep f n D).2 f:=by
 obtain ⟨a,_⟩:=pO (ek:=ek) (mk:=mk) (ep:=ep) hD hf n (Nat.le_refl _)
 obtain ⟨c,d⟩:=cC (ek:=ek) (mk:=mk) (n:=n) (af:=af) (ep:=ep) (f:=f) (D:=D) n
 refine⟨fun i hi=>by rw[qf _ _ (by rw[c];omega)];rfl,fun i hi=>?_,fun i hi=>(a i hi).2,d⟩
 unfold aq
 rw[qf _ _ (by rw[c];omega)]
 exact(a i hi).1
end
section
variable {ek mk:List UInt8} {s:Bn} {D:List Blk} {want r:Nat→List UInt8}
end
end Bk
end Go.Proofs.YthbmknpbcgnabaaGreatDoor
