/- Of the walk. -/
import Derived.Test.YthbmknpbcgnabaaGreatDoorB28
set_option maxHeartbeats 40000000
namespace Go.Proofs.YthbmknpbcgnabaaGreatDoor.Mr
namespace Mt
open Mk
def up (n:Nat):Nat→Nat
 | 0=>n
 | j+1=>(up n j+3) / 4
def tv (key:Tg) (l:List Tg):Nat→Nat→Tg
 | 0,i=>l.getD i zero
 | j+1,i=>node key [tv key l j (4*i),tv key l j (4*i+1),tv key l j (4*i+2),tv key l j (4*i+3)]
theorem zD (key:Tg) (l:List Tg) (h:∀ t∈l,t.length=32):∀ j i,(tv key l j i).length=32
 | 0,i=>by
  rw[tv,List.getD_eq_getElem?_getD]
  by_cases hi:i<l.length
  ·rw[List.getElem?_eq_getElem hi];exact h _ (List.getElem_mem hi)
  ·rw[List.getElem?_eq_none (by omega)];rfl
 | _+1,_=>ky _ _
theorem Au {α:Type} (d:α) (row:List α) (a:Nat) (h:a+4≤row.length):(row.drop a).take 4=[row.getD a d,row.getD (a+1) d,row.getD (a+2) d,row.getD (a+3) d]:=by
 apply List.ext_getElem?
 intro j
 have hlen:((row.drop a).take 4).length=4:=by simp;omega
 have e:∀ k,k<4→((row.drop a).take 4)[k]? = some (row.getD (a+k) d):=fun k hk=>by
  rw[List.getElem?_take,if_pos hk,List.getElem?_drop,List.getD_eq_getElem?_getD,List.getElem?_eq_getElem (show a+k<row.length by omega)];rfl
 match j with
 | 0=>exact e 0 (by omega)
 | 1=>exact e 1 (by omega)
 | 2=>exact e 2 (by omega)
 | 3=>exact e 3 (by omega)
 | j+4=>rw[List.getElem?_eq_none (by omega),List.getElem?_eq_none (by simp)]
theorem mf (key:Tg) (l:List Tg) (h:Nat) (hl:l.length≤4 ^ h):∀ j i,j≤h→i<4 ^ (h - j)→(lev key (full l h) j).getD i []=tv key l j i
 | 0,i,_,hi=>by
  rw[Nat.sub_zero] at hi
  rw[lev,tv,full,List.getD_eq_getElem?_getD,List.getD_eq_getElem?_getD]
  by_cases hl2:i<l.length
  ·rw[List.getElem?_append_left hl2,List.getElem?_eq_getElem hl2];rfl
  ·rw[List.getElem?_append_right (by omega),List.getElem?_replicate,if_pos (by omega),List.getElem?_eq_none (by omega)];rfl
 | j+1,i,hj,hi=>by
  have hp:4 ^ (h - j)=4*4 ^ (h - (j+1)):=by rw[show h - j=(h - (j+1))+1 by omega,Nat.pow_succ,Nat.mul_comm]
  have hrow:(lev key (full l h) j).length=4*4 ^ (h - (j+1)):=by rw[iI key _ h (kD l h hl) j (by omega),hp]
  have e:(ups key (lev key (full l h) j))[i]? = some (node key (((lev key (full l h) j).drop (4*i)).take 4)):=by
   rw[ups,List.getElem?_map,List.getElem?_range (by omega)];rfl
  rw[lev,List.getD_eq_getElem?_getD,e,Option.getD_some,Au [] _ _ (by omega),tv]
  rw[mf key l h hl j (4*i) (by omega) (by omega),mf key l h hl j (4*i+1) (by omega) (by omega),mf key l h hl j (4*i+2) (by omega) (by omega),mf key l h hl j (4*i+3) (by omega) (by omega)]
theorem oW (key:Tg) (l:List Tg) (h:Nat) (hh:IsH l.length h):root key l h=tv key l h 0:=by
 have hl:l.length≤4 ^ h:=by have:=hh.2.1;rw[← fc] at this;omega
 rw[root,mf key l h hl h 0 (Nat.le_refl _) (by rw[Nat.sub_self];exact Nat.one_pos)]
theorem py (key:Tg) (l:List Tg) (i:Nat) (t:Tg):∀ j k,k≠i / 4 ^ j→tv key (l.set i t) j k=tv key l j k
 | 0,k,hk=>by
  rw[Nat.pow_zero,Nat.div_one] at hk
  rw[tv,tv,List.getD_eq_getElem?_getD,List.getD_eq_getElem?_getD,List.getElem?_set_ne (fun e=>hk e.symm)]
 | j+1,k,hk=>by
  have hd:i / 4 ^ (j+1)=i / 4 ^ j / 4:=by rw[Nat.pow_succ,Nat.div_div_eq_div_mul]
  rw[hd] at hk
  rw[tv,tv,py key l i t j (4*k) (by omega),py key l i t j (4*k+1) (by omega),py key l i t j (4*k+2) (by omega),py key l i t j (4*k+3) (by omega)]
def sl (s:List Bool):Nat→List Bool
 | 0=>s
 | j+1=>upB (sl s j)
theorem rT (s:List Bool):∀ j,(sl s j).length=up s.length j
 | 0=>rfl
 | j+1=>by rw[sl,ez,rT s j,up]
theorem Jb (s:List Bool):∀ j,sl (upB s) j=sl s (j+1)
 | 0=>rfl
 | j+1=>by show upB (sl (upB s) j)=upB (sl s (j+1));rw[Jb s j]
theorem Dw (s:List Bool) (i:Nat) (hi:i<s.length):∀ j,sl (s.set i true) j=(sl s j).set (i / 4 ^ j) true∧i / 4 ^ j<(sl s j).length
 | 0=>by rw[Nat.pow_zero,Nat.div_one];exact⟨rfl,hi⟩
 | j+1=>by
  obtain ⟨h1,h2⟩:=Dw s i hi j
  have hd:i / 4 ^ (j+1)=i / 4 ^ j / 4:=by rw[Nat.pow_succ,Nat.div_div_eq_div_mul]
  rw[hd,sl,h1,Gy _ _ h2]
  exact⟨rfl,by rw[sl,ez];omega⟩
theorem Ml (n j k:Nat):(sl (List.replicate n false) j).getD k false=false:=by
 have e:sl (List.replicate n false) j=List.replicate (up n j) false:=by
  induction j with
  | zero=>rfl
  | succ j ih=>rw[sl,ih,JR,up]
 rw[e,List.getD_eq_getElem?_getD,List.getElem?_replicate];split <;> rfl
def isK (h:Nat) (s:List Bool) (p:Nat × Nat):Prop:=1≤p.1∧p.1≤h∧(sl s p.1).getD p.2 false=true
theorem Kl {h:Nat} {s:List Bool} {p:Nat × Nat} (hp:isK h s p):p.2<up s.length p.1:=by
 rw[← rT]
 rcases Nat.lt_or_ge p.2 (sl s p.1).length with h1 | h1
 ·exact h1
 ·have:=hp.2.2
  rw[List.getD_eq_getElem?_getD,List.getElem?_eq_none h1] at this
  cases this
theorem G8 {h:Nat} {s:List Bool} {i:Nat} (hi:i<s.length) (p:Nat × Nat):isK h (s.set i true) p ↔ isK h s p∨(1≤p.1∧p.1≤h∧p.2=i / 4 ^ p.1):=by
 obtain ⟨h1,h2⟩:=Dw s i hi p.1
 unfold isK
 rw[h1,jo _ _ _ h2,Bool.or_eq_true,decide_eq_true_eq]
 constructor
 ·rintro⟨a,b,c | c⟩
  ·exact .inr ⟨a,b,c⟩
  ·exact .inl ⟨a,b,c⟩
 ·rintro (⟨a,b,c⟩ | ⟨a,b,c⟩)
  ·exact⟨a,b,.inr c⟩
  ·exact⟨a,b,.inl c⟩
theorem ED (h n:Nat) (p:Nat × Nat):¬ isK h (List.replicate n false) p:=fun hp=>by have:=hp.2.2;rw[Ml] at this;cases this
def vq (s:List Bool):List Nat:=(List.range s.length).filter fun k=>s.getD k false
theorem rL (s:List Bool) (k:Nat):k∈vq s ↔ s.getD k false=true:=by
 rw[vq,List.mem_filter,List.mem_range]
 constructor
 ·exact fun h=>h.2
 ·intro h
  refine⟨?_,h⟩
  rcases Nat.lt_or_ge k s.length with h1 | h1
  ·exact h1
  ·rw[List.getD_eq_getElem?_getD,List.getElem?_eq_none h1] at h;cases h
theorem td (s:List Bool):(vq s).length=cnt s:=by
 have e:s=(List.range s.length).map fun k=>s.getD k false:=by
  apply List.ext_getElem (by simp)
  intro i h1 h2
  rw[List.getElem_map,List.getElem_range,List.getD_eq_getElem?_getD,List.getElem?_eq_getElem h1];rfl
 rw[vq,cnt,← List.countP_eq_length_filter,List.count]
 conv=>rhs;rw[e]
 rw[List.countP_map]
 congr 1
 funext k
 simp
def yL (s:List Bool):Nat→List (Nat × Nat)
 | 0=>[]
 | h+1=>yL s h++(vq (sl s (h+1))).map fun k=>(h+1,k)
theorem wH (s:List Bool) (h:Nat) (p:Nat × Nat):p∈yL s h ↔ isK h s p:=by
 induction h with
 | zero =>
  constructor
  ·intro hp;cases hp
  ·rintro⟨a,b,_⟩;omega
 | succ h ih =>
  rw[yL,List.mem_append,ih,List.mem_map]
  constructor
  ·rintro (⟨a,b,c⟩ | ⟨k,hk,rfl⟩)
   ·exact⟨a,by omega,c⟩
   ·exact⟨by show 1≤h+1;omega,Nat.le_refl _,(rL _ _).1 hk⟩
  ·rintro⟨a,b,c⟩
   by_cases e:p.1=h+1
   ·exact .inr ⟨p.2,(rL _ _).2 (by rw[← e];exact c),by rw[← e]⟩
   ·exact .inl ⟨a,by omega,c⟩
theorem qA (s:List Bool):∀ h,(yL s h).Nodup
 | 0=>List.nodup_nil
 | h+1=>by
  rw[yL,List.nodup_append]
  refine⟨qA s h,?_,?_⟩
  ·refine List.Pairwise.map _ (R:=(·≠·)) ?_ ((List.nodup_range).sublist List.filter_sublist)
   intro a b hab e
   injection e with _ e
   exact hab e
  ·rintro a ha b hb rfl
   have h1:=((wH s h a).1 ha).2.1
   obtain ⟨k,_,rfl⟩:=List.mem_map.1 hb
   exact absurd h1 (by show ¬ h+1≤h;omega)
theorem GH (s:List Bool):∀ h,st (h+1) s=st h s+cnt (sl s (h+1)):=by
 intro h
 induction h generalizing s with
 | zero=>simp [st,sl]
 | succ h ih =>
  rw[st,ih (upB s),st,Jb];omega
theorem ow (s:List Bool):∀ h,(yL s h).length=st h s
 | 0=>rfl
 | h+1=>by rw[yL,List.length_append,List.length_map,td,ow s h,GH]
theorem BQ {h:Nat} {s:List Bool} {ks:List (Nat × Nat)} (hn:ks.Nodup) (hm:∀ p,p∈ks ↔ isK h s p):ks.length=st h s:=by
 rw[← ow]
 exact((List.perm_ext_iff_of_nodup hn (qA s h)).2 fun p=>by rw[hm,wH]).length_eq
theorem s8 (n:Nat) (hn:1≤n):∀ j,1≤up n j
 | 0=>hn
 | j+1=>by have:=s8 n hn j;rw[up];omega
theorem I8 (n m:Nat):∀ j,n≤4 ^ (j+m)→up n j≤4 ^ m
 | 0,h=>by rwa [Nat.zero_add] at h
 | j+1,h=>by
  have:=I8 n (m+1) j (by rwa [show j+(m+1)=j+1+m by omega])
  rw[Nat.pow_succ] at this
  rw[up];omega
theorem JQ {n h:Nat} (hn:1≤n) (hh:IsH n h):up n h=1:=by
 have hl:n≤4 ^ h:=by have:=hh.2.1;rw[← fc] at this;omega
 have h1:=I8 n 0 h (by rwa [Nat.add_zero])
 have h2:=s8 n hn h
 rw[Nat.pow_zero] at h1;omega
theorem Dg (n j:Nat) (hn:n≤100):up n j≤100:=by
 induction j with
 | zero=>exact hn
 | succ j ih=>rw[up];omega
theorem vR {n h:Nat} (hn:n≤100) (hh:IsH n h):1≤h∧h≤4:=by
 refine⟨hh.1,?_⟩
 rcases hh.2.2 with e | e
 ·omega
 ·by_cases h5:h≤4
  ·exact h5
  ·have h6:(4:Nat) ^ 4≤4 ^ (h - 1):=Nat.pow_le_pow_right (by omega) (by omega)
   have e2:(((4 ^ (h - 1):Nat):Int))<n:=by rw[fc];exact e
   omega
end Mt
open Go.RowKit Mk Mt
abbrev Tree:=World→(Nat→Prop)→Nat→Tg→List Tg→List Bool→Nat→Prop
def qV (T:Tree) (w:World) (F:Nat→Prop) (w':World) (D:Nat) (key:Tg) (L:List Tg) (S:List Bool) (V:Nat):Prop :=
 ∃ F',T w' F' D key L S V∧(∀ k,F' k→F k∨w.heap.size≤k)∧Chg (fun k _=>F k) w w'
structure Ot (T:Tree):Prop where
 lt:∀ {w F D key L S V},T w F D key L S V→∀ k,F k→k<w.heap.size
 len:∀ {w F D key L S V},T w F D key L S V→S.length=L.length∧0<L.length∧L.length≤100∧(∀ t∈L,t.length=32)
 stay:∀ {w F D key L S V w' X},T w F D key L S V→Chg X w w'→(∀ k o,F k→¬ X k o)→T w' F D key L S V
 Kc:∀ (key:Tg) (v:Value) (n:Int) (w:World),key.length≤1000→(n<1∨512<n)→Hm.Tab w→Arg w v key→Calls Tryz.prog 89 #[v,.int .i64 n] w fun e w'=>e=.returned (.tuple #[.pointer none,.int .i64 1])∧Below w.heap.size w w'
 Jg:∀ (key:Tg) (v:Value) (n:Nat) (w:World),key.length≤1000→1≤n→n≤100→Hm.Tab w→Arg w v key→Calls Tryz.prog 89 #[v,.int .i64 n] w fun e w' =>
  ∃ D F,e=.returned (.tuple #[.pointer (some ⟨D,0,none⟩),.int .i64 0])∧T w' F D key (List.replicate n zero) (List.replicate n false) 0∧(∀ k,F k→w.heap.size≤k)∧Below w.heap.size w w'
 zL:∀ {w F D key L S V},T w F D key L S V→∀ (i:Nat) (t:Tg) (ts:List Value),i<L.length→Vec 32 t ts→Calls Tryz.prog 35 #[.pointer (some ⟨D,0,none⟩),.int .i64 i,.agg ts.toArray] w fun e w' =>
  e=.returned (.int .i64 0)∧qV T w F w' D key (L.set i t) (S.set i true) V
 JX:∀ {w F D key L S V},T w F D key L S V→∀ (d:Int) (t:Tg) (ts:List Value),(d<0∨(L.length:Int)≤d)→Vec 32 t ts→Calls Tryz.prog 35 #[.pointer (some ⟨D,0,none⟩),.int .i64 d,.agg ts.toArray] w fun e w' =>
  e=.returned (.int .i64 1)∧Below w.heap.size w w'
 E4:∀ {w F D key L S V},T w F D key L S V→∀ (i:Nat),i<L.length→Calls Tryz.prog 52 #[.pointer (some ⟨D,0,none⟩),.int .i64 i] w fun e w' =>
  (∃ ts:List Value,Hid (Vec 32 (L.getD i []) ts)∧e=.returned (.tuple #[.agg ts.toArray,.int .i64 0]))∧Below w.heap.size w w'
 K7:∀ {w F D key L S V},T w F D key L S V→∀ (d:Int),(d<0∨(L.length:Int)≤d)→Calls Tryz.prog 52 #[.pointer (some ⟨D,0,none⟩),.int .i64 d] w fun e w' =>
  e=.returned (.tuple #[.agg Hm.Z32.toArray,.int .i64 1])∧Below w.heap.size w w'
 places:∀ {w F D key L S V},T w F D key L S V→Calls Tryz.prog 74 #[.pointer (some ⟨D,0,none⟩)] w fun e w'=>e=.returned (.int .i64 (L.length:Int))∧Below w.heap.size w w'
 root:∀ {w F D key L S V},T w F D key L S V→Hm.Tab w→(∀ k,F k→k≠0)→V≤100000→∀ (h:Nat),IsH L.length h→Calls Tryz.prog 38 #[.pointer (some ⟨D,0,none⟩)] w fun e w' =>
  ∃ rs:List Value,(Hid (Vec 32 (root key L h) rs)∧e=.returned (.agg rs.toArray))∧qV T w F w' D key L (List.replicate L.length false) (V+st h S)
theorem kZ {w0 W W':World} {S:Nat→Nat→Prop} {n:Nat} (hb:Below n w0 W) (hn:n≤W.heap.size) (hc:Chg S W W') (hS:∀ k o,S k o→n≤k):Below n w0 W' :=
 hb.trans ⟨hc.os,hc.tape,hc.output,hc.size,fun k hk=>hc.block k (Nat.lt_of_lt_of_le hk hn) fun o ho=>by have:=hS k o ho;omega⟩
theorem Km (m:Nat) (hm:m≤100):∃ h,IsH m h:=by
 rcases Nat.lt_or_ge 4 m with h1 | h1
 ·rcases Nat.lt_or_ge 16 m with h2 | h2
  ·rcases Nat.lt_or_ge 64 m with h3 | h3
   ·exact⟨4,by omega,by show (m:Int)≤256;omega,.inr (by show (64:Int)<m;omega)⟩
   ·exact⟨3,by omega,by show (m:Int)≤64;omega,.inr (by show (16:Int)<m;omega)⟩
  ·exact⟨2,by omega,by show (m:Int)≤16;omega,.inr (by show (4:Int)<m;omega)⟩
 ·exact⟨1,by omega,by show (m:Int)≤4;omega,.inl rfl⟩
def wid (n h j:Nat):Nat:=if j<h then 4*up n (j+1) else 1
structure TA (w:World) (F:Nat→Prop) (D:Nat) (key:Tg) (L:List Tg) (S:List Bool) (V:Nat) (h:Nat) (kv:Value) (KB RB rc MB:Nat) (rb:Nat→Nat) (rw:Nat→List Tg) (ks:List Nd):Prop where
 hh:IsH L.length h
 hS:S.length=L.length
 pos:0<L.length
 few:L.length≤100
 h32:∀ t∈L,t.length=32
 hk:key.length≤1000
 tree:Row w D 145 [kv,I64 L.length,.slice (some ⟨RB,0,none⟩) (h+1) rc,.map (some MB),I64 V]
 ry:∀ w':World,w.heap.size≤w'.heap.size→w'.heap[KB]? = w.heap[KB]?→Arg w' kv key
 rows:∀ j,j≤h→w.cell? ⟨RB,j,none⟩=some (.slice (some ⟨rb j,0,none⟩) (wid L.length h j) (wid L.length h j))
 row:∀ j,j≤h→Row w (rb j) 27 (cells (rw j))
 len:∀ j,j≤h→(rw j).length=wid L.length h j
 r32:∀ j,j≤h→∀ t∈rw j,t.length=32
 val:∀ j i,j≤h→i<wid L.length h j→(j=0∨(j,i) ∉ ks)→(rw j).getD i []=tv key L j i
 map:bO w MB ks
 mem:∀ p,p∈ks ↔ isK h S p
 inj:∀ i j,i≤h→j≤h→rb i=rb j→i=j
 rD:∀ j,j≤h→rb j≠D
 rR:∀ j,j≤h→rb j≠RB
 rM:∀ j,j≤h→rb j≠MB
 rK:∀ j,j≤h→rb j≠KB
 DR:D≠RB
 DM:D≠MB
 DK:D≠KB
 MR:MB≠RB
 MK:MB≠KB
 FD:F D
 FR:F RB
 FM:F MB
 FK:F KB
 Fr:∀ j,j≤h→F (rb j)
 lt:∀ k,F k→k<w.heap.size
def T9:Tree:=fun w F D key L S V=>∃ h kv KB RB rc MB rb rw ks,TA w F D key L S V h kv KB RB rc MB rb rw ks
section
variable {w w':World} {F:Nat→Prop} {D:Nat} {key:Tg} {L:List Tg} {S:List Bool} {V h:Nat} {kv:Value} {KB RB rc MB:Nat} {rb:Nat→Nat} {rw:Nat→List Tg} {ks:List Nd}
theorem TA.same (a:TA w F D key L S V h kv KB RB rc MB rb rw ks) (hs:w.heap.size≤w'.heap.size) (hb:∀ k,F k→w'.heap[k]? = w.heap[k]?):TA w' F D key L S V h kv KB RB rc MB rb rw ks :=
 { a with
  tree:=a.tree.same (hb _ a.FD)
  ry:=fun w2 h2 hb2=>a.ry w2 (Nat.le_trans hs h2) (hb2.trans (hb _ a.FK))
  rows:=fun j hj=>(World.cell?_of_block (hb _ a.FR)).trans (a.rows j hj)
  row:=fun j hj=>(a.row j hj).same (hb _ (a.Fr j hj))
  map:=a.map.same (hb _ a.FM)
  lt:=fun k hk=>Nat.lt_of_lt_of_le (a.lt k hk) hs }
theorem TA.stay {X:Nat→Nat→Prop} (a:TA w F D key L S V h kv KB RB rc MB rb rw ks) (hc:Chg X w w') (hn:∀ k o,F k→¬ X k o):TA w' F D key L S V h kv KB RB rc MB rb rw ks :=
 a.same hc.size fun k hk=>hc.block k (a.lt k hk) fun o=>hn k o hk
theorem TA.below (a:TA w F D key L S V h kv KB RB rc MB rb rw ks) (hb:Below w.heap.size w w'):TA w' F D key L S V h kv KB RB rc MB rb rw ks:=a.same hb.size fun k hk=>hb.block k (a.lt k hk)
theorem TA.fits (a:TA w F D key L S V h kv KB RB rc MB rb rw ks):w.cell? ⟨D,0,none⟩=some kv∧w.cell? ⟨D,1,none⟩=some (I64 L.length)∧w.cell? ⟨D,2,none⟩=some (.slice (some ⟨RB,0,none⟩) (h+1) rc)∧w.cell? ⟨D,3,none⟩=some (.map (some MB))∧w.cell? ⟨D,4,none⟩=some (I64 V):=by
 have h1:=a.tree.cell
 exact⟨by rw[h1];rfl,by rw[h1];rfl,by rw[h1];rfl,by rw[h1];rfl,by rw[h1];rfl⟩
theorem TA.count (a:TA w F D key L S V h kv KB RB rc MB rb rw ks):ks.length=st h S:=BQ a.map.nodup a.mem
theorem TA.wide (a:TA w F D key L S V h kv KB RB rc MB rb rw ks):L.length≤wid L.length h 0∧1≤h∧h≤4:=by
 have h4:=vR a.few a.hh
 refine⟨?_,h4⟩
 rw[wid,if_pos (by omega),up,up];omega
theorem lQ (a:TA w F D key L S V h kv KB RB rc MB rb rw ks):Calls Tryz.prog 74 #[.pointer (some ⟨D,0,none⟩)] w fun e w'=>e=.returned (I64 L.length)∧w'=w:=by
 obtain ⟨_,c1,_,_,_⟩:=a.fits
 clear a
 go_enter Tryz.func74,Tryz.ntmps74
 go_wp2
 go_ret
 exact⟨rfl,rfl⟩
theorem oZ (a:TA w F D key L S V h kv KB RB rc MB rb rw ks) (d:Int):Calls Tryz.prog 72 #[.pointer (some ⟨D,0,none⟩),.int .i64 d] w fun e w'=>e=.returned (.bool (decide (0≤d∧d<(L.length:Int))))∧w'=w:=by
 have hp:=lQ a
 clear a
 have hc:(0≤d∧d<(L.length:Int)∧decide (0≤d∧d<(L.length:Int))=true)∨(0≤d∧¬ d<(L.length:Int)∧decide (0≤d∧d<(L.length:Int))=false)∨(¬ 0≤d∧decide (0≤d∧d<(L.length:Int))=false):=by
  by_cases h1:0≤d
  ·by_cases h2:d<(L.length:Int)
   ·exact .inl ⟨h1,h2,decide_eq_true ⟨h1,h2⟩⟩
   ·exact .inr (.inl ⟨h1,h2,decide_eq_false fun h=>h2 h.2⟩)
  ·exact .inr (.inr ⟨h1,decide_eq_false fun h=>h1 h.1⟩)
 generalize decide (0≤d∧d<(L.length:Int))=r at hc ⊢
 rcases hc with ⟨h1,h2,rfl⟩ | ⟨h1,h2,rfl⟩ | ⟨h1,rfl⟩
 all_goals
  go_enter Tryz.func72,Tryz.ntmps72
  go_wp2_with (go_at_call 74;refine hp.mono ?_;rintro e w' ⟨rfl,rfl⟩)
  go_ret
  first
  | exact⟨rfl,rfl⟩
  | exact⟨congrArg (fun b=>Ending.returned (.bool b)) (decide_eq_false (by omega)),rfl⟩
end
theorem _root_.Go.Proofs.YthbmknpbcgnabaaGreatDoor.Row.piece {w:World} {g:Nat} {t:TypeId} {cs:List Value} (h:Row w g t cs) (o:Nat) (ds:List Value) (hd:(cs.drop o).take ds.length=ds):w.rangeAt g o ds:=by
 intro j v hj
 rw[h.cell]
 have hjl:j<ds.length:=(List.getElem?_eq_some_iff.1 hj).1
 rw[← hd,List.getElem?_take,if_pos hjl,List.getElem?_drop] at hj
 exact hj
theorem _root_.Go.Proofs.YthbmknpbcgnabaaGreatDoor.Hm.Tab.stay {w w':World} {n:Nat} (h:Hm.Tab w) (hn:0<n) (hb:Below n w w'):Hm.Tab w':=by
 have hs:=hb.block _ hn
 have hlt:=h.1
 refine⟨?_,fun j u hu=>?_⟩
 ·rw[Array.getElem?_eq_getElem hlt] at hs
  exact(Array.getElem?_eq_some_iff.1 hs).1
 ·rw[← h.2 j u hu]
  exact World.cell?_of_block hs
theorem Ms {w:World} {g:Nat} {t:TypeId} {l:List Tg} (hR:Row w g t (cells l)) (h32:∀ t∈l,t.length=32) (i:Nat) (hi:i<l.length):w.rangeAt g (i*32) ((l.getD i []).map V8):=by
 have e:(l.drop i).take 1=[l.getD i []]:=by
  rw[List.drop_eq_getElem_cons hi,List.take_succ_cons,List.take_zero,List.getD_eq_getElem?_getD,List.getElem?_eq_getElem hi];rfl
 have e2:cells [l.getD i []]=(l.getD i []).map V8:=by simp [cells]
 have h:=ot l h32 i 1 (by omega)
 rw[e,e2,Nat.mul_comm] at h
 exact hR.piece (i*32) _ h
theorem jx {α:Type} {l:List α} {i:Nat} {d:α} (hi:i<l.length):l.getD i d∈l:=by
 rw[List.getD_eq_getElem?_getD,List.getElem?_eq_getElem hi];exact List.getElem_mem hi
section
variable {w w':World} {F:Nat→Prop} {D:Nat} {key:Tg} {L:List Tg} {S:List Bool} {V h:Nat} {kv:Value} {KB RB rc MB:Nat} {rb:Nat→Nat} {rw:Nat→List Tg} {ks:List Nd}
theorem TA.low (a:TA w F D key L S V h kv KB RB rc MB rb rw ks) (i:Nat) (hi:i<L.length):(rw 0).getD i []=L.getD i []∧i<(rw 0).length:=by
 have hw:=a.wide.1
 refine⟨?_,by rw[a.len 0 (Nat.zero_le _)];omega⟩
 rw[a.val 0 i (Nat.zero_le _) (by omega) (.inl rfl),tv,List.getD_eq_getElem?_getD,List.getD_eq_getElem?_getD,List.getElem?_eq_getElem hi];rfl
theorem Il (a:TA w F D key L S V h kv KB RB rc MB rb rw ks) (d:Int) (hd:d<0∨(L.length:Int)≤d):Calls Tryz.prog 52 #[.pointer (some ⟨D,0,none⟩),.int .i64 d] w fun e w' =>
  e=.returned (.tuple #[.agg Hm.Z32.toArray,.int .i64 1])∧Below w.heap.size w w':=by
 have hz:=Hm.eM
 have hh:=fun W (hb:Below w.heap.size w W)=>oZ (a.below hb) d
 rw[decide_eq_false (fun h=>by omega)] at hh
 have HH:=ae hh
 clear a hh
 go_enter Tryz.func52,Tryz.ntmps52
 go_wp2_with (first
  | (go_at_call 72;refine(HH.out _ ((Below.refl _ _).alloc (Nat.le_refl _) _)).mono ?_;rintro e w' ⟨rfl,rfl⟩)
  | (refine wpList_store_row rfl 27 _ _ rfl w.heap.size Hm.Z32.toArray rfl rfl 27 _ (Row.new w _ Hm.Z32) (by kernel_rfl) (by kernel_rfl) (by kernel_rfl) ?_))
 have hR:=(Row.new w 27 Hm.Z32).whole Hm.Z32
 obtain ⟨W3,hW3⟩:∃ W3,W3=(w.alloc (.cells Hm.Z32.toArray 27)).setRow w.heap.size Hm.Z32.toArray:=⟨_,rfl⟩
 have hB:Below w.heap.size w W3:=by rw[hW3];exact ag ((Below.refl _ _).alloc (Nat.le_refl _) _) (Nat.le_refl _) _
 rw[← hW3] at hR ⊢
 have hinfo:(Tryz.prog.info? 27).map (·.size)=some Hm.Z32.toArray.size:=by kernel_rfl
 refine bodyPost_ret (v:=.tuple #[.agg Hm.Z32.toArray,.int .i64 1]) (Hm.e9 (p:=4) (u:=5) rfl _ _ w.heap.size 27 Hm.Z32.toArray (0,0) _ rfl hR Tryz.underlying27 rfl hinfo) rfl ?_
 exact⟨rfl,hB⟩
theorem KZ (a:TA w F D key L S V h kv KB RB rc MB rb rw ks) (i:Nat) (hi:i<L.length):Calls Tryz.prog 52 #[.pointer (some ⟨D,0,none⟩),I64 i] w fun e w' =>
  (∃ ts:List Value,Hid (Vec 32 (L.getD i []) ts)∧e=.returned (.tuple #[.agg ts.toArray,.int .i64 0]))∧Below w.heap.size w w':=by
 have hz:=Hm.eM
 have hh:=fun W (hb:Below w.heap.size w W)=>oZ (a.below hb) (i:Int)
 rw[decide_eq_true (show 0≤(i:Int)∧(i:Int)<(L.length:Int) by omega)] at hh
 have HH:=ae hh
 obtain ⟨_,_,c2,_,_⟩:=a.fits
 have r0:=a.rows 0 (Nat.zero_le _)
 obtain ⟨l1,l2⟩:=a.low i hi
 have hw:=a.wide
 have hld:=Ms (a.row 0 (Nat.zero_le _)) (a.r32 0 (Nat.zero_le _)) i l2
 rw[l1] at hld
 have h32:=a.h32 _ (jx (d:=[]) hi)
 obtain ⟨rs,hrs⟩:∃ rs,rs=(L.getD i []).map V8:=⟨_,rfl⟩
 have hv:Vec 32 (L.getD i []) rs:=⟨hrs,h32⟩
 rw[← hrs] at hld
 have hlr:=a.lt _ (a.Fr 0 (Nat.zero_le _))
 have hlR:=a.lt _ a.FR
 have hlD:=a.lt _ a.FD
 obtain ⟨wd,hwd⟩:∃ wd,wd=wid L.length h 0:=⟨_,rfl⟩
 rw[← hwd] at r0 hw
 have hiw:(i:Int)<(wd:Int):=by omega
 have Hv:=ae hv
 have Hld:Hid (∀ W,Below w.heap.size w W→W.rangeAt (rb 0) (i*32) rs):=fun W hW j v hj=>(hW.cell (p:=⟨rb 0,i*32+j,none⟩) hlr).trans (hld j v hj)
 have dc:Hid (rs.length=32):=hv.len
 have Rv:=hv.size
 have hB0:Below w.heap.size w (w.alloc (.cells Hm.Z32.toArray 27)):=(Below.refl _ _).alloc (Nat.le_refl _) _
 replace c2:=(hB0.cell (p:=⟨D,2,none⟩) hlD).trans c2
 replace r0:=(hB0.cell (p:=⟨RB,0,none⟩) hlR).trans r0
 have Hr:Hid (∃ h2,h=h2):=⟨h,rfl⟩
 have HB0:=ae hB0
 clear a hh l1 l2 hld h32 hv hrs hwd hw hB0 hi
 obtain ⟨w0,hw0⟩:∃ w0,w0=w.alloc (.cells Hm.Z32.toArray 27):=⟨_,rfl⟩
 have hR0:Row w0 w.heap.size 27 Hm.Z32:=by rw[hw0];exact Row.new w _ Hm.Z32
 have HR0:=ae hR0
 rw[← hw0] at c2 r0 HB0
 clear hR0
 go_enter Tryz.func52,Tryz.ntmps52
 go_wp2_with (first
  | (go_at_call 72;rw[← hw0];refine(HH.out _ HB0.out).mono ?_;rintro e w' ⟨rfl,rfl⟩;clear hw0)
  | (refine wpList_load_mid rfl 27 (.tmp 18) rfl (rb 0) (i*32) rfl rs _ (Hld.out _ HB0.out) Tryz.underlying27 rfl (by rw[dc.out];kernel_rfl) ?_)
  | (refine wpList_store_row rfl 27 (.tmp 4) (.tmp 19) rfl w.heap.size rs.toArray rfl rfl 27 _ HR0.out (by rw[Hv.out.size];kernel_rfl) (by rw[Hv.out.size];rfl) Hv.out.one ?_))
 have hR:=HR0.out.whole rs
 obtain ⟨W3,hW3⟩:∃ W3,W3=w'.setRow w.heap.size rs.toArray:=⟨_,rfl⟩
 have hB:Below w.heap.size w W3:=by rw[hW3];exact ag HB0.out (Nat.le_refl _) _
 rw[← hW3] at hR ⊢
 have hinfo:(Tryz.prog.info? 27).map (·.size)=some rs.toArray.size:=by rw[Hv.out.size];kernel_rfl
 refine bodyPost_ret (v:=.tuple #[.agg rs.toArray,.int .i64 0]) (Hm.e9 (p:=4) (u:=5) rfl _ _ w.heap.size 27 rs.toArray (0,0) _ rfl hR Tryz.underlying27 rfl hinfo) rfl ?_
 exact⟨⟨rs,Hv,rfl⟩,hB⟩
end
section
variable {w w1 w':World} {F:Nat→Prop} {D:Nat} {key:Tg} {L:List Tg} {S:List Bool} {V h:Nat} {kv:Value} {KB RB rc MB:Nat} {rb:Nat→Nat} {rw:Nat→List Tg} {ks:List Nd}
theorem Cg (l:List Tg) (h32:∀ t∈l,t.length=32) (i:Nat) (hi:i<l.length) (t:Tg) :
  ∃ a b m,cells l=a++(m++b)∧cells (l.set i t)=a++(t.map V8++b)∧a.length=i*32∧m.length=32:=by
 refine⟨cells (l.take i),cells (l.drop (i+1)),(l.getD i []).map V8,?_,?_,?_,?_⟩
 ·have e:l=l.take i++([l.getD i []]++l.drop (i+1)):=by
   rw[List.getD_eq_getElem?_getD,List.getElem?_eq_getElem hi,Option.getD_some,List.singleton_append,← List.drop_eq_getElem_cons hi,List.take_append_drop]
  have e2:cells l=cells (l.take i)++(cells [l.getD i []]++cells (l.drop (i+1))):=by rw[← bG,← bG,← e]
  rw[e2];simp [cells]
 ·have e:l.set i t=l.take i++([t]++l.drop (i+1)):=by rw[List.set_eq_take_append_cons_drop,if_pos hi];rfl
  rw[e,bG,bG];simp [cells]
 ·rw[ir _ (fun t ht=>h32 t (List.mem_of_mem_take ht)),List.length_take];omega
 ·rw[List.length_map,h32 _ (jx hi)]
theorem oV {g:Nat} {ty:TypeId} {l:List Tg} (hR:Row w g ty (cells l)) (h32:∀ t∈l,t.length=32) (i:Nat) (hi:i<l.length) (t:Tg) (ht:t.length=32) :
  Row (w.setCells g (i*32) (t.map V8)) g ty (cells (l.set i t))∧w.there g (i*32) 32:=by
 obtain ⟨a,b,m,e1,e2,e3,e4⟩:=Cg l h32 i hi t
 rw[e1] at hR
 rw[e2]
 refine⟨mq _ _ _ _ _ _ e3 (by rw[e4,List.length_map,ht]) hR,hR.gw _ _ (by rw[List.length_append,List.length_append];omega)⟩
theorem xP {l:List Tg} (h32:∀ t∈l,t.length=32) (i:Nat) {t:Tg} (ht:t.length=32):∀ u∈l.set i t,u.length=32:=fun u hu=>by
 rcases List.mem_or_eq_of_mem_set hu with h | h
 ·exact h32 u h
 ·rw[h];exact ht
theorem qd {α:Type} (l:List α) (i k:Nat) (t d:α) (hi:i<l.length):(l.set i t).getD k d=if k=i then t else l.getD k d:=by
 rw[List.getD_eq_getElem?_getD,List.getD_eq_getElem?_getD,List.getElem?_set]
 by_cases e:i=k
 ·subst e;simp [hi]
 ·rw[if_neg e,if_neg (fun x=>e x.symm)]
def rwS (rw:Nat→List Tg) (i:Nat) (t:Tg) (j:Nat):List Tg:=if j=0 then (rw 0).set i t else rw j
theorem TA.setRow (a:TA w F D key L S V h kv KB RB rc MB rb rw ks) (i:Nat) (hi:i<L.length) (t:Tg) (ht:t.length=32) (hs:w.heap.size≤w'.heap.size) (hb:∀ k,F k→k≠rb 0→k≠MB→w'.heap[k]? = w.heap[k]?)
  (hR:Row w' (rb 0) 27 (cells ((rw 0).set i t))) (ks':List Nd) (hm:bO w' MB ks') (hk:∀ p,p∈ks' ↔ p∈ks∨(1≤p.1∧p.1≤h∧p.2=i / 4 ^ p.1)) :
  TA w' F D key (L.set i t) (S.set i true) V h kv KB RB rc MB rb (rwS rw i t) ks':=by
 have hz:=Nat.zero_le h
 have hl:=a.low i hi
 have hlen:(L.set i t).length=L.length:=List.length_set
 refine {
      hh:=by rw[hlen];exact a.hh,hS:=by rw[List.length_set,hlen];exact a.hS,pos:=by rw[hlen];exact a.pos,few:=by rw[hlen];exact a.few,h32:=xP a.h32 i ht,hk:=a.hk,tree:=?_,ry:=?_,rows:=?_,row:=?_,len:=?_,r32:=?_,val:=?_,map:=hm,mem:=?_,
      inj:=a.inj,rD:=a.rD,rR:=a.rR,rM:=a.rM,rK:=a.rK,DR:=a.DR,DM:=a.DM,DK:=a.DK,MR:=a.MR,MK:=a.MK,FD:=a.FD,FR:=a.FR,FM:=a.FM,FK:=a.FK,Fr:=a.Fr,lt:=fun k hk=>Nat.lt_of_lt_of_le (a.lt k hk) hs }
 ·rw[hlen]
  exact a.tree.same (hb D a.FD (fun e=>a.rD 0 hz e.symm) a.DM)
 ·exact fun w2 h2 hb2=>a.ry w2 (Nat.le_trans hs h2) (hb2.trans (hb KB a.FK (fun e=>a.rK 0 hz e.symm) (fun e=>a.MK e.symm)))
 ·intro j hj
  rw[hlen]
  exact(World.cell?_of_block (hb RB a.FR (fun e=>a.rR 0 hz e.symm) (fun e=>a.MR e.symm))).trans (a.rows j hj)
 ·intro j hj
  unfold rwS
  by_cases e:j=0
  ·subst e;rw[if_pos rfl];exact hR
  ·rw[if_neg e]
   exact(a.row j hj).same (hb (rb j) (a.Fr j hj) (fun e2=>e (a.inj j 0 hj hz e2)) (a.rM j hj))
 ·intro j hj
  rw[hlen]
  unfold rwS
  by_cases e:j=0
  ·subst e;rw[if_pos rfl,List.length_set];exact a.len 0 hj
  ·rw[if_neg e];exact a.len j hj
 ·intro j hj
  unfold rwS
  by_cases e:j=0
  ·subst e;rw[if_pos rfl];exact xP (a.r32 0 hj) i ht
  ·rw[if_neg e];exact a.r32 j hj
 ·intro j i0 hj hi0 hn
  rw[hlen] at hi0
  unfold rwS
  by_cases e:j=0
  ·subst e
   rw[if_pos rfl,qd _ _ _ _ _ hl.2,tv,qd _ _ _ _ _ hi]
   by_cases e2:i0=i
   ·rw[if_pos e2,if_pos e2]
   ·rw[if_neg e2,if_neg e2,a.val 0 i0 hj hi0 (.inl rfl),tv]
  ·rw[if_neg e]
   rcases hn with hn | hn
   ·exact absurd hn e
   have h1:(j,i0) ∉ ks:=fun h2=>hn ((hk _).2 (.inl h2))
   have h2:i0≠i / 4 ^ j:=fun h3=>hn ((hk _).2 (.inr ⟨Nat.pos_of_ne_zero e,hj,h3⟩))
   rw[a.val j i0 hj hi0 (.inr h1),py key L i t j i0 h2]
 ·intro p
  rw[hk,G8 (by rw[a.hS];exact hi),a.mem]
end
theorem ee {g g2 o2:Nat}:∀ {w:World} (vs:List Value) (o:Nat),g≠g2→(w.setCells g2 o vs).cell? ⟨g,o2,none⟩=w.cell? ⟨g,o2,none⟩
 | _,[],_,_=>rfl
 | w,v::r,o,h=>by
  rw[World.setCells,ee r (o+1) h]
  exact World.cell?_of_block (heap_setCell_other w ⟨g2,o,none⟩ g v h)
theorem pJ {g:Nat}:∀ {w:World} (vs:List Value) (o:Nat),(w.setCells g o vs).heap.size=w.heap.size
 | _,[],_=>rfl
 | w,v::r,o=>by
  rw[World.setCells,pJ r (o+1)]
  simp [World.setCell]
theorem kY {g g2:Nat}:∀ {w:World} (vs:List Value) (o:Nat),g≠g2→(w.setCells g2 o vs).heap[g]? = w.heap[g]?
 | _,[],_,_=>rfl
 | w,v::r,o,h=>by
  rw[World.setCells,kY r (o+1) h]
  exact heap_setCell_other w ⟨g2,o,none⟩ g v h
theorem qY {P:Program} {w w':World} {a:Act} {o:Oper} {t:TypeId} {m k x:Operand} {mv kv xv:Value} (ho:o.op=.mapUpdate t m k x) (hm:a.eval m=mv) (hk:a.eval k=kv) (hx:a.eval x=xv) (hr:(Instr.mapUpdate t mv kv xv).run P w=.ok () w') :
  (execOp a.eval o).run P w=.ok .skip w':=by
 simp [execOp,ho,hm,hk,hx,hr,Result.andThen]
theorem wpList_skip {P:Program} {ops:Array Oper} {Q:Exit→Act→World→Prop} {o:Oper} {rest:List Oper} {a:Act} {w w':World} (hg:o.guard=none)
  (hr:(execOp a.eval o).run P w=.ok .skip w') (h:wpList P ops Q rest (a.put o.dst undef) w'):wpList P ops Q (o::rest) a w :=
 wpList_plain hg fun K hK=>by unfold Oper.wp;rw[hr];exact hK _ _ h
theorem bO.add {w:World} {b:Nat} {ks:List Nd} (h:bO w b ks) (x:Nd) (h1:x.1≤1000000) (h2:x.2≤1000000) :
  ∃ w' ks',(Instr.mapUpdate 143 (.map (some b)) (.agg #[I64 x.1,I64 x.2]) (.agg #[])).run Tryz.prog w=.ok () w'∧Chg (fun q _=>q=b) w w'∧bO w' b ks'∧∀ p,p∈ks' ↔ p∈ks∨p=x:=by
 obtain ⟨l,hl⟩:=Eg (x.1:Int) (x.2:Int) (by omega) (by omega) (by omega) (by omega)
 obtain ⟨w',hr,hc,_,⟨_,h3⟩ | ⟨hin,h3⟩⟩:=iR.add ya h Tryz.underlying143 hl
 ·refine⟨w',ks++[x],hr,hc,?_,fun p=>by rw[List.mem_append,List.mem_singleton]⟩
  unfold bO
  rw[List.map_append]
  exact h3
 ·refine⟨w',ks,hr,hc,h3,fun p=>⟨.inl,?_⟩⟩
  rintro (hp | rfl)
  ·exact hp
  ·obtain ⟨y,hy,hye⟩:=List.mem_map.1 hin
   rwa [← ur hye]
structure AtS (w1 wr:World) (MB:Nat) (ks:List Nd) (i lv c:Nat) (ks':List Nd):Prop where
 map:bO wr MB ks'
 mem:∀ p,p∈ks' ↔ p∈ks∨(1≤p.1∧p.1<lv∧p.2=i / 4 ^ p.1)
 at_:c=i / 4 ^ (lv - 1)
 chg:Chg (fun q _=>q=MB) w1 wr
section
variable {w w':World} {F:Nat→Prop} {D:Nat} {key:Tg} {L:List Tg} {S:List Bool} {V h:Nat} {kv:Value} {KB RB rc MB:Nat} {rb:Nat→Nat} {rw:Nat→List Tg} {ks:List Nd}
theorem GL (a:TA w F D key L S V h kv KB RB rc MB rb rw ks) (d:Int) (hd:d<0∨(L.length:Int)≤d) (t:Tg) (ts:List Value) (hv:Vec 32 t ts):Calls Tryz.prog 35 #[.pointer (some ⟨D,0,none⟩),.int .i64 d,.agg ts.toArray] w fun e w' =>
  e=.returned (.int .i64 1)∧Below w.heap.size w w':=by
 have hh:=oZ (a.below ((Below.refl _ _).alloc (Nat.le_refl _) (.cells ts.toArray 27))) d
 rw[decide_eq_false (fun h=>by omega)] at hh
 have Nr:=hv.size
 have HB:Hid (Below w.heap.size w (w.alloc (.cells ts.toArray 27))):=(Below.refl _ _).alloc (Nat.le_refl _) _
 clear a hv
 go_enter Tryz.func35,Tryz.ntmps35
 go_wp2_with (go_at_call 72;refine hh.mono ?_;rintro e w' ⟨rfl,rfl⟩)
 go_ret
 exact⟨rfl,HB.out⟩
set_option maxRecDepth 100000
theorem JW (a:TA w F D key L S V h kv KB RB rc MB rb rw ks) (i:Nat) (hi:i<L.length) (t:Tg) (ts:List Value) (hv:Vec 32 t ts):Calls Tryz.prog 35 #[.pointer (some ⟨D,0,none⟩),I64 i,.agg ts.toArray] w fun e w' =>
  e=.returned (.int .i64 0)∧qV T9 w F w' D key (L.set i t) (S.set i true) V:=by
 have hz:=Nat.zero_le h
 have hwi:=a.wide
 have KG:=a.low i hi
 have HA:=ae a
 have Nr:=hv.size
 obtain ⟨bt,hbt⟩:∃ bt,bt=w.heap.size:=⟨_,rfl⟩
 obtain ⟨wb,hwb⟩:∃ wb,wb=w.alloc (.cells ts.toArray 27):=⟨_,rfl⟩
 have hB0:Below w.heap.size w wb:=by rw[hwb];exact(Below.refl _ _).alloc (Nat.le_refl _) _
 have hRt:Row wb bt 27 ts:=by rw[hwb,hbt];exact Row.new w 27 ts
 have a0:=a.below hB0
 have hh:=oZ a0 (i:Int)
 rw[decide_eq_true (show 0≤(i:Int)∧(i:Int)<(L.length:Int) by omega)] at hh
 obtain ⟨_,_,c2,c3,_⟩:=a0.fits
 obtain ⟨wd,hwd⟩:∃ wd,wd=wid L.length h 0:=⟨_,rfl⟩
 obtain ⟨r0,hr0⟩:∃ r0,r0=rb 0:=⟨_,rfl⟩
 have hrow:=a0.row 0 hz
 have r00:=a0.rows 0 hz
 have h32:=a.r32 0 hz
 rw[← hr0] at hrow r00
 rw[← hwd] at r00
 have Hv:=ae hv
 have Hbt:=ae hbt
 have hlr:r0<w.heap.size:=by rw[hr0];exact a.lt _ (a.Fr 0 hz)
 have HDr:Hid (D≠r0):=fun e=>a.rD 0 hz (by rw[← hr0,← e])
 have HRr:Hid (RB≠r0):=fun e=>a.rR 0 hz (by rw[← hr0,← e])
 have Hbr:Hid (bt≠r0):=by show _≠_;omega
 have Hr0:=ae hr0
 have Hiw:Hid (0≤(i:Int)∧(i:Int)<(wd:Int)):=by
  have P4:=hwi.1
  rw[← hwd] at P4
  show _∧_
  omega
 have ai:Hid (∀ W,Below wb.heap.size wb W→W.cell? ⟨D,2,none⟩=some (.slice (some ⟨RB,0,none⟩) (h+1) rc)∧W.cell? ⟨RB,0,none⟩=some (.slice (some ⟨r0,0,none⟩) wd wd)∧Row W bt 27 ts):=fun W hW =>
  ⟨(hW.cell (p:=⟨D,2,none⟩) (a0.lt _ a0.FD)).trans c2,(hW.cell (p:=⟨RB,0,none⟩) (a0.lt _ a0.FR)).trans r00,hRt.below hW hRt.lt⟩
 have j4:Hid (∀ W,Below wb.heap.size wb W→W.there r0 (i*32) ts.toArray.size):=fun W hW=>by
  rw[Nr];exact(oV (hrow.below hW hrow.lt) h32 i KG.2 t hv.2).2
 have HSt:Hid (∀ W,Below wb.heap.size wb W→Row (W.setCells r0 (i*32) ts) r0 27 (cells ((rw 0).set i t))∧bO (W.setCells r0 (i*32) ts) MB ks∧Chg (fun q _=>F q) w (W.setCells r0 (i*32) ts)∧(∀ q,F q→q≠r0→(W.setCells r0 (i*32) ts).heap[q]? = w.heap[q]?)):=fun W hW=>by
  have hr1:=oV (hrow.below hW hrow.lt) h32 i KG.2 t hv.2
  rw[← hv.1] at hr1
  have hBW:Below w.heap.size w W:=hB0.trans (hW.mono hB0.size)
  have hlen:ts.length=32:=hv.len
  have hb:∀ q,q<w.heap.size→q≠r0→(W.setCells r0 (i*32) ts).heap[q]? = w.heap[q]?:=fun q hq hn=>(kY ts (i*32) hn).trans (hBW.block q hq)
  exact⟨hr1.1,a.map.same (hb MB (a.lt _ a.FM) (fun e=>a.rM 0 hz (by rw[← hr0,e]))),(Chg.below hBW _).setCells (fun _ _ _=>by show F _;rw[hr0];exact a.Fr 0 hz) (by rw[hlen];exact hr1.2),fun q hq hn=>hb q (a.lt q hq) hn⟩
 have Gd:Hid (MB≠D∧MB≠RB∧D<w.heap.size∧F MB∧h≤4∧i≤100):=⟨fun e=>a.DM e.symm,a.MR,a.lt _ a.FD,a.FM,hwi.2.2,by have:=a.few;omega⟩
 have Hhi:=ae hi
 have Hwd:=ae hwd
 have Pd:Hid (w.cell? ⟨D,2,none⟩=some (.slice (some ⟨RB,0,none⟩) (h+1) rc)∧w.cell? ⟨D,3,none⟩=some (.map (some MB))):=⟨a.fits.2.2.1,a.fits.2.2.2.1⟩
 clear hv hbt hB0 hRt a0 hrow r00 h32 KG hwi hi a hr0 hwd hz c2 c3
 go_enter Tryz.func35,Tryz.ntmps35
 go_wp2_with (go_at_call 72;rw[← hwb];clear hwb;refine hh.mono ?_;rintro e wb ⟨rfl,rfl⟩;clear hh)
 rw[← Hbt.out]
 have hC:Below wb.heap.size wb wb.drew:=below_drewN (Below.refl _ _) 1
 refine wp_region_held_drew (S:=(fun W=>W.cell? ⟨D,2,none⟩=some (.slice (some ⟨RB,0,none⟩) (h+1) rc)∧W.cell? ⟨RB,0,none⟩=some (.slice (some ⟨r0,0,none⟩) wd wd)∧Row W bt 27 ts)) (by kernel_rfl) (ai.out _ hC) (fun aa=>?_)
 generalize wb.drew=wbd at *
 refine tkq 0 12 aa ?_
 try go_frame
 refine tkq 1 13 aa ?_
 try go_frame
 refine tkq 2 14 aa ?_
 try go_frame
 refine tkh 3 15 rfl aa ?_ (Or.inl ⟨by rfl,by intro w hSw;have s1:=hSw.1;go_simp;with_reducible rfl⟩)
 try go_frame
 refine tkq 4 16 aa ?_
 try go_frame
 refine tkh 5 17 rfl aa ?_ (Or.inl ⟨by rfl,by intro w hSw;have s2:=hSw.2.1;go_simp;with_reducible rfl⟩)
 try go_frame
 refine tkq 6 18 aa ?_
 try go_frame
 refine tkh 7 19 (v:=.agg (ts).toArray) rfl aa ?_ (yieldsIf_load_mid (by rfl) 27 (.tmp 5) rfl (bt) (0) rfl (ts) _ (fun W h=>h.2.2.sees) Tryz.underlying27 rfl (by rw[Hv.out.len];kernel_rfl))
 try go_frame
 refine tkh 8 20 rfl aa ?_ (Or.inl ⟨by rfl,by intro w hSw;have hiw:=Hiw.out;go_simp;with_reducible rfl⟩)
 try go_frame
 refine rdn 9 fun K hK=>?_
 rw[if_pos (by rfl)]
 refine Go.wp_store_mid 27 (.tmp 20) (.tmp 19) rfl (r0) (i*32) ts.toArray rfl rfl (j4.out _ hC) (by rw[Hv.out.size];kernel_rfl) Hv.out.one ?_
 rw[List.toList_toArray]
 have HAf:=ae (HSt.out _ hC)
 have hX:=ai.out _ hC
 refine hK.out _ _ ⟨(ee ts (i*32) HDr.out).trans hX.1,(ee ts (i*32) HRr.out).trans hX.2.1,rX hX.2.2 Hbr.out ts (i*32)⟩ (fun aa=>?_)
 clear hK K hX
 generalize (wbd.setCells r0 (i*32) ts)=w1 at *
 try go_frame
 refine wpAnyH_done (by kernel_rfl) ?_ _
 clear hC ai aa HSt j4
 go_wp2
 have HS0:Hid (AtS w1 w1 MB ks i 1 i ks):=⟨HAf.out.2.1,fun p=>⟨.inl,fun h=>h.elim id (fun x=>absurd x.2.1 (by omega))⟩,by simp,Chg.refl _ _⟩
 have HD1:Hid (D<w1.heap.size):=by show _<_;have h1:=Gd.out.2.2.1;have h2:=HAf.out.2.2.1.size;omega
 have HCw:Hid (w1.cell? ⟨D,2,none⟩=some (.slice (some ⟨RB,0,none⟩) (h+1) rc)∧w1.cell? ⟨D,3,none⟩=some (.map (some MB))):=by
  have hb:=HAf.out.2.2.2 D HA.out.FD HDr.out
  exact⟨(World.cell?_of_block hb).trans Pd.out.1,(World.cell?_of_block hb).trans Pd.out.2⟩
 have h1:1≤h:=HA.out.wide.2.1
 go_loopw [1,7] (fun p q wr=>∃ (lv c:Nat) (ks':List Nd),1≤lv∧lv≤h+1∧p=I64 c∧q=I64 lv∧c≤100∧Hid (AtS w1 wr MB ks i lv c ks')) (fun _ q _=>h+1 - (RowKit.intOf q).toNat)
 case atStart=>exact⟨1,i,ks,by omega,by omega,rfl,rfl,Gd.out.2.2.2.2.2,HS0⟩
 case round =>
  obtain ⟨lv,c,ks',hl1,hlh,rfl,rfl,NY,HR⟩:=hrel
  clear HS0
  have c2:wr.cell? ⟨D,2,none⟩=some (.slice (some ⟨RB,0,none⟩) (h+1) rc):=(HR.out.chg.cell D 2 HD1.out (fun e=>Gd.out.1 e.symm)).trans HCw.out.1
  have c3:wr.cell? ⟨D,3,none⟩=some (.map (some MB)):=(HR.out.chg.cell D 3 HD1.out (fun e=>Gd.out.1 e.symm)).trans HCw.out.2
  have h4:h≤4:=Gd.out.2.2.2.2.1
  by_cases hlt:lv<h+1
  ·obtain ⟨c',hc'⟩:∃ c',c'=c / 4:=⟨_,rfl⟩
   have hcq:(c:Int) / 4=(c':Int):=by omega
   obtain ⟨w3,ks3,hr,hch,hmap,ND⟩:=HR.out.map.add (lv,c') (by show lv≤_;omega) (by show c'≤_;omega)
   have HN:Hid (AtS w1 w3 MB ks i (lv+1) c' ks3):=by
    refine⟨hmap,fun p=>?_,?_,HR.out.chg.then hch⟩
    ·rw[ND,HR.out.mem]
     have e1:i / 4 ^ lv=c':=by
      rw[hc',HR.out.at_,Nat.div_div_eq_div_mul,← Nat.pow_succ,show (lv - 1).succ=lv by omega]
     constructor
     ·rintro ((x | ⟨x,y,z⟩) | rfl)
      ·exact .inl x
      ·exact .inr ⟨x,by omega,z⟩
      ·exact .inr ⟨hl1,Nat.lt_succ_self _,e1.symm⟩
     ·rintro (x | ⟨x,y,z⟩)
      ·exact .inl (.inl x)
      ·by_cases e:p.1=lv
       ·right
        exact Prod.ext e (by rw[z,e,e1])
       ·exact .inl (.inr ⟨x,by omega,z⟩)
    ·rw[hc',HR.out.at_,Nat.div_div_eq_div_mul,← Nat.pow_succ,show (lv - 1).succ=lv+1 - 1 by omega]
   have hc2:c'≤100:=by omega
   clear hc' hch hmap ND HR
   go_wp2_with (refine wpList_skip rfl (qY rfl rfl rfl rfl hr) ?_)
   go_roundw
   case rel=>exact⟨lv+1,c',ks3,by omega,by omega,rfl,by go_num,hc2,HN⟩
   case measure=>rw[show RowKit.intOf (.int .i64 ((lv:Int)+1))=(lv:Int)+1 from rfl,show RowKit.intOf (.int .i64 (lv:Int))=(lv:Int) from rfl];omega
  ·obtain rfl:lv=h+1:=by omega
   clear NY
   go_wp2
   refine bodyPost_ret (results_tmp rfl _ _ _) rfl ?_
   refine⟨rfl,F,⟨h,kv,KB,RB,rc,MB,rb,rwS rw i t,ks',?_⟩,fun k hk=>.inl hk,?_⟩
   ·have hx:=HAf.out
    refine HA.out.setRow i Hhi.out t Hv.out.2 (Nat.le_trans hx.2.2.1.size HR.out.chg.size) (fun k hk h0 hm=>?_) ?_ ks' HR.out.map (fun p=>?_)
    ·exact(HR.out.chg.block k (Nat.lt_of_lt_of_le (HA.out.lt k hk) hx.2.2.1.size) (fun _ e=>hm e)).trans (hx.2.2.2 k hk (by rw[Hr0.out];exact h0))
    ·rw[← Hr0.out]
     exact hx.1.same (HR.out.chg.block r0 hx.1.lt (fun _ e=>HA.out.rM 0 (Nat.zero_le _) (by rw[← Hr0.out,e])))
    ·rw[HR.out.mem]
     constructor
     ·rintro (x | ⟨x,y,z⟩)
      ·exact .inl x
      ·exact .inr ⟨x,by omega,z⟩
     ·rintro (x | ⟨x,y,z⟩)
      ·exact .inl x
      ·exact .inr ⟨x,by omega,z⟩
   ·exact HAf.out.2.2.1.trans HR.out.chg fun b _ _ e=>by rw[e];exact HA.out.FM
end
end Go.Proofs.YthbmknpbcgnabaaGreatDoor.Mr
