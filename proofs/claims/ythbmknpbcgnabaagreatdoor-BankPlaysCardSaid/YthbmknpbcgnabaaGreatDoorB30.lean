/- Of the walk. -/
import Derived.Test.YthbmknpbcgnabaaGreatDoorB29
set_option maxHeartbeats 40000000
namespace Go.Proofs.YthbmknpbcgnabaaGreatDoor.Mr
open Go.RowKit Mk Mt
structure AtR (w0 w:World) (F:Nat→Prop) (D:Nat) (key:Tg) (L:List Tg) (h:Nat) (kv:Value) (RB rc MB:Nat) (rb:Nat→Nat) (rw:Nat→List Tg) (V:Nat) (todo:List Nd):Prop where
 tree:Row w D 145 [kv,I64 L.length,.slice (some ⟨RB,0,none⟩) (h+1) rc,.map (some MB),I64 V]
 row:∀ j,j≤h→Row w (rb j) 27 (cells (rw j))
 len:∀ j,j≤h→(rw j).length=wid L.length h j
 r32:∀ j,j≤h→∀ t∈rw j,t.length=32
 val:∀ j i,j≤h→i<wid L.length h j→(j=0∨(j,i) ∉ todo)→(rw j).getD i []=tv key L j i
 same:∀ k,F k→k≠D→(∀ j,j≤h→k≠rb j)→w.heap[k]? = w0.heap[k]?
 chg:Chg (fun k _=>F k) w0 w
section
variable {w0 w w':World} {F:Nat→Prop} {D:Nat} {key:Tg} {L:List Tg} {S:List Bool} {V V0 h:Nat} {kv:Value} {KB RB rc MB:Nat} {rb:Nat→Nat} {rw rw0:Nat→List Tg} {ks todo:List Nd}
theorem AtR.below (a:TA w0 F D key L S V0 h kv KB RB rc MB rb rw0 ks) (r:AtR w0 w F D key L h kv RB rc MB rb rw V todo) (hb:Below w.heap.size w w'):AtR w0 w' F D key L h kv RB rc MB rb rw V todo where
 tree:=r.tree.below hb r.tree.lt
 row:=fun j hj=>(r.row j hj).below hb (r.row j hj).lt
 len:=r.len
 r32:=r.r32
 val:=r.val
 same:=fun k hk h1 h2=>(hb.block k (Nat.lt_of_lt_of_le (a.lt k hk) r.chg.size)).trans (r.same k hk h1 h2)
 chg:=r.chg.then (Chg.below hb _)
theorem AtR.begin (a:TA w F D key L S V h kv KB RB rc MB rb rw ks):AtR w w F D key L h kv RB rc MB rb rw V ks :=
 ⟨a.tree,a.row,a.len,a.r32,a.val,fun _ _ _ _=>rfl,Chg.refl _ _⟩
theorem AtR.more {todo':List Nd} (r:AtR w0 w F D key L h kv RB rc MB rb rw V todo) (ht:∀ p,p∈todo→p∈todo'):AtR w0 w F D key L h kv RB rc MB rb rw V todo' :=
 { r with val:=fun j i hj hi hn=>r.val j i hj hi (hn.imp id fun h1 h2=>h1 (ht _ h2)) }
theorem AtR.ry (a:TA w0 F D key L S V0 h kv KB RB rc MB rb rw0 ks) (r:AtR w0 w F D key L h kv RB rc MB rb rw V todo):Arg w kv key :=
 a.ry w r.chg.size (r.same KB a.FK (fun e=>a.DK e.symm) (fun j hj e=>a.rK j hj e.symm))
theorem AtR.slot (a:TA w0 F D key L S V0 h kv KB RB rc MB rb rw0 ks) (r:AtR w0 w F D key L h kv RB rc MB rb rw V todo) (j:Nat) (hj:j≤h):w.cell? ⟨RB,j,none⟩=some (.slice (some ⟨rb j,0,none⟩) (wid L.length h j) (wid L.length h j)) :=
 (World.cell?_of_block (r.same RB a.FR (fun e=>a.DR e.symm) (fun j hj e=>a.rR j hj e.symm))).trans (a.rows j hj)
theorem AtR.fits (r:AtR w0 w F D key L h kv RB rc MB rb rw V todo):w.cell? ⟨D,0,none⟩=some kv∧w.cell? ⟨D,2,none⟩=some (.slice (some ⟨RB,0,none⟩) (h+1) rc)∧w.cell? ⟨D,3,none⟩=some (.map (some MB))∧w.cell? ⟨D,4,none⟩=some (I64 V):=by
 have h1:=r.tree.cell
 exact⟨by rw[h1];rfl,by rw[h1];rfl,by rw[h1];rfl,by rw[h1];rfl⟩
theorem AtR.map (a:TA w0 F D key L S V0 h kv KB RB rc MB rb rw0 ks) (r:AtR w0 w F D key L h kv RB rc MB rb rw V todo):bO w MB ks :=
 a.map.same (r.same MB a.FM (fun e=>a.DM e.symm) (fun j hj e=>a.rM j hj e.symm))
def four (key:Tg) (L:List Tg) (j i:Nat):List Tg:=[tv key L j (4*i),tv key L j (4*i+1),tv key L j (4*i+2),tv key L j (4*i+3)]
theorem AtR.kids (a:TA w0 F D key L S V0 h kv KB RB rc MB rb rw0 ks) (r:AtR w0 w F D key L h kv RB rc MB rb rw V todo) (jm i:Nat) (hx:(jm+1,i)∈ks) (hlo:∀ p∈todo,jm+1≤p.1) :
  jm+1≤h∧i<wid L.length h (jm+1)∧4*i+4≤wid L.length h jm∧w.rangeAt (rb jm) (4*i*32) (cells (four key L jm i))∧(∀ t∈four key L jm i,t.length=32):=by
 have hk:=(a.mem _).1 hx
 have hlt:=Kl hk
 have hjh:jm+1≤h:=hk.2.1
 rw[a.hS] at hlt
 have hw:wid L.length h jm=4*up L.length (jm+1):=by rw[wid,if_pos (by omega)]
 have hi4:4*i+4≤wid L.length h jm:=by rw[hw];simp only at hlt;omega
 have hi1:i<wid L.length h (jm+1):=by
  rw[wid]
  split
  ·have:=s8 L.length a.pos (jm+2)
   rw[show jm+1+1=jm+2 by omega]
   have e:up L.length (jm+2)=(up L.length (jm+1)+3) / 4:=rfl
   simp only at hlt
   omega
  ·have e:jm+1=h:=by omega
   have:=JQ a.pos a.hh
   rw[← e] at this
   simp only at hlt
   omega
 have hjm:jm≤h:=by omega
 have hv:∀ c,c<4→(rw jm).getD (4*i+c) []=tv key L jm (4*i+c):=fun c hc=>r.val jm _ hjm (by omega) (.inr fun hin=>by have:=hlo _ hin;simp only at this;omega)
 have e4:=Au ([]:Tg) (rw jm) (4*i) (by rw[r.len jm hjm];exact hi4)
 have h0:=hv 0 (by omega)
 rw[Nat.add_zero] at h0
 rw[h0,hv 1 (by omega),hv 2 (by omega),hv 3 (by omega)] at e4
 have hp:=ot (rw jm) (r.r32 jm hjm) (4*i) 4 (by rw[r.len jm hjm];exact hi4)
 rw[e4,Nat.mul_comm 32 (4*i)] at hp
 refine⟨hjh,hi1,hi4,(r.row jm hjm).piece (4*i*32) _ hp,fun t ht=>?_⟩
 have:t∈rw jm:=by
  have h2:t∈((rw jm).drop (4*i)).take 4:=by rw[e4];exact ht
  exact List.mem_of_mem_drop (List.mem_of_mem_take h2)
 exact r.r32 jm hjm t this
theorem BI (key:Tg) (L:List Tg) (j i:Nat):node key (four key L j i)=tv key L (j+1) i:=rfl
def rwN (rw:Nat→List Tg) (key:Tg) (L:List Tg) (x:Nd) (j:Nat):List Tg:=if j=x.1 then (rw x.1).set x.2 (tv key L x.1 x.2) else rw j
theorem AtR.step (a:TA w0 F D key L S V0 h kv KB RB rc MB rb rw0 ks) (r:AtR w0 w F D key L h kv RB rc MB rb rw V (todo)) (x:Nd) (rest:List Nd) (ht:∀ p,p∈todo→p=x∨p∈rest) (hxh:x.1≤h) (hxi:x.2<wid L.length h x.1) (V':Nat)
  (hR:Row w' (rb x.1) 27 (cells ((rw x.1).set x.2 (tv key L x.1 x.2)))) (hD:Row w' D 145 [kv,I64 L.length,.slice (some ⟨RB,0,none⟩) (h+1) rc,.map (some MB),I64 V'])
  (hb:∀ k,k<w.heap.size→k≠D→k≠rb x.1→w'.heap[k]? = w.heap[k]?) (hc:Chg (fun k _=>F k) w w'):AtR w0 w' F D key L h kv RB rc MB rb (rwN rw key L x) V' rest:=by
 have hl:=r.len x.1 hxh
 refine⟨hD,fun j hj=>?_,fun j hj=>?_,fun j hj=>?_,fun j i hj hi hn=>?_,fun k hk h1 h2=>?_,r.chg.then hc⟩
 ·unfold rwN
  by_cases e:j=x.1
  ·rw[if_pos e,e];exact hR
  ·rw[if_neg e]
   exact(r.row j hj).same (hb _ (r.row j hj).lt (a.rD j hj) (fun e2=>e (a.inj j x.1 hj hxh e2)))
 ·unfold rwN
  by_cases e:j=x.1
  ·rw[if_pos e,List.length_set,e];exact hl
  ·rw[if_neg e];exact r.len j hj
 ·unfold rwN
  by_cases e:j=x.1
  ·rw[if_pos e];exact xP (r.r32 x.1 hxh) x.2 (zD key L a.h32 _ _)
  ·rw[if_neg e];exact r.r32 j hj
 ·unfold rwN
  by_cases e:j=x.1
  ·subst e
   rw[if_pos rfl,qd _ _ _ _ _ (by rw[hl];exact hxi)]
   by_cases e2:i=x.2
   ·rw[if_pos e2,e2]
   ·rw[if_neg e2]
    refine r.val _ i hj hi (hn.imp id fun h1 h2=>?_)
    rcases ht _ h2 with h3 | h3
    ·exact e2 (congrArg Prod.snd h3)
    ·exact h1 h3
  ·rw[if_neg e]
   refine r.val j i hj hi (hn.imp id fun h1 h2=>?_)
   rcases ht _ h2 with h3 | h3
   ·exact e (congrArg Prod.fst h3)
   ·exact h1 h3
 ·have hkw:k<w.heap.size:=Nat.lt_of_lt_of_le (a.lt k hk) r.chg.size
  exact(hb k hkw h1 (h2 _ hxh)).trans (r.same k hk h1 h2)
end
section
variable {w0 w w':World} {F:Nat→Prop} {D:Nat} {key:Tg} {L:List Tg} {S:List Bool} {V V0 h:Nat} {kv:Value} {KB RB rc MB:Nat} {rb:Nat→Nat} {rw rw0:Nat→List Tg} {ks todo:List Nd}
set_option maxRecDepth 100000
theorem wo (a:TA w0 F D key L S V0 h kv KB RB rc MB rb rw0 ks) (r:AtR w0 w F D key L h kv RB rc MB rb rw V todo) (hT:Hm.Tab w) (jm i:Nat) (hx:(jm+1,i)∈ks) (hlo:∀ p∈todo,jm+1≤p.1) (rest:List Nd) (ht:∀ p,p∈todo→p=(jm+1,i)∨p∈rest) (hV:V≤1000000) (lv:Nat) (hlv:lv=jm+1) :
  Calls Tryz.prog 78 #[.pointer (some ⟨D,0,none⟩),.agg #[I64 lv,I64 i]] w fun e w'=>e=.returned (.tuple #[])∧AtR w0 w' F D key L h kv RB rc MB rb (rwN rw key L (jm+1,i)) (V+1) rest∧Chg (fun k _=>F k) w w':=by
 obtain ⟨hjh,hiw,hi4,hrg,Ih⟩:=r.kids a jm i hx hlo
 have OX:=ae ht
 have HV:=ae hV
 clear hV
 obtain ⟨w1,hw1⟩:∃ w1,w1=w.alloc (.cells #[I64 lv,I64 i] 148):=⟨_,rfl⟩
 obtain ⟨bn,hbn⟩:∃ bn,bn=w.heap.size:=⟨_,rfl⟩
 have hB1:Below w.heap.size w w1:=by rw[hw1];exact(Below.refl _ _).alloc (Nat.le_refl _) _
 have hRn:Row w1 bn 148 [I64 lv,I64 i]:=by rw[hw1,hbn];exact Row.new w 148 [I64 lv,I64 i]
 have n0:w1.cell? ⟨bn,0,none⟩=some (I64 lv):=by rw[hRn.cell];rfl
 have n1:w1.cell? ⟨bn,1,none⟩=some (I64 i):=by rw[hRn.cell];rfl
 have r1:=r.below a hB1
 have HA0:=ae a
 have Q9:Hid (Below w.heap.size w w1):=hB1
 have HR1:=ae r1
 have hkey:=r1.ry a
 obtain ⟨A,cap,rfl⟩:=hkey.form
 obtain ⟨kn,hkn⟩:∃ n,n=key.length:=⟨_,rfl⟩
 obtain ⟨d0,d2,d3,d4⟩:=r1.fits
 have s1:=r1.slot a jm (by omega)
 have s2:=r1.slot a lv (by omega)
 obtain ⟨wm,hwm⟩:∃ x,x=wid L.length h jm:=⟨_,rfl⟩
 obtain ⟨wl,hwl⟩:∃ x,x=wid L.length h lv:=⟨_,rfl⟩
 obtain ⟨rm,hrm⟩:∃ x,x=rb jm:=⟨_,rfl⟩
 obtain ⟨rl,hrl⟩:∃ x,x=rb lv:=⟨_,rfl⟩
 obtain ⟨p,hp⟩:∃ p,p=4*i:=⟨_,rfl⟩
 obtain ⟨f,hf⟩:∃ f,f=four key L jm i:=⟨_,rfl⟩
 obtain ⟨cs,hcs⟩:∃ cs,cs=cells f:=⟨_,rfl⟩
 rw[← hlv] at hiw hjh
 rw[← hwm,← hrm] at s1
 rw[← hwl,← hrl] at s2
 rw[← hwm,← hp] at hi4
 rw[← hwl] at hiw
 rw[← hrm,← hf,← hcs,← hp] at hrg
 rw[← hf] at Ih
 have Nu:∀ W,Below w.heap.size w W→W.rangeAt rm (p*32) cs:=fun W hW j v hj=>(hW.cell (p:=⟨rm,p*32+j,none⟩) (by rw[hrm];exact(r.row jm (by omega)).lt)).trans (hrg j v hj)
 have Hf4:Hid (f.length=4):=by show _=_;rw[hf];rfl
 have Q1:=ae Ih
 have Hcs:Hid (cs=f.flatten.map V8):=hcs
 have Hcl:Hid (cs.length=128):=by show _=_;rw[hcs,ir f Ih,Hf4.out]
 have QZ:Hid (key.length≤1000):=a.hk
 have O8:Hid (node key f=tv key L lv i):=by show _=_;rw[hf,BI,← hlv]
 have hB2:Below w.heap.size w w1:=hB1
 have HT1:Hid (Hm.Tab w1):=hT.below hB1
 have HD1:Hid (D<w1.heap.size∧RB<w1.heap.size∧rm<w1.heap.size):=⟨r1.tree.lt,Nat.lt_of_lt_of_le (a.lt _ a.FR) r1.chg.size,by rw[hrm];exact(r1.row jm (by omega)).lt⟩
 have hrow:=r1.row lv hjh
 have h32:=r1.r32 lv hjh
 have hln:=r1.len lv hjh
 rw[← hrl] at hrow
 rw[← hwl] at hln
 have hFl:F rl:=by rw[hrl];exact a.Fr lv hjh
 have HDl:Hid (D≠rl):=fun e=>a.rD lv hjh (by rw[← hrl,← e])
 have HRl:Hid (RB≠rl):=fun e=>a.rR lv hjh (by rw[← hrl,← e])
 have Hml:Hid (rm≠rl):=fun e=>by have:=a.inj jm lv (by omega) hjh (by rw[← hrl,← hrm];exact e);omega
 have AQ:Hid (∀ W,Below w1.heap.size w1 W→W.there rl (i*32) 32):=fun W hW=>(oV (hrow.below hW hrow.lt) h32 i (by omega) zero rfl).2
 have LR:Hid (∀ W (rs:List Value),Vec 32 (node key f) rs→Below w1.heap.size w1 W→Row (W.setCells rl (i*32) rs) rl 27 (cells ((rw lv).set i (tv key L lv i)))∧Row (W.setCells rl (i*32) rs) D 145 [.slice A key.length cap,I64 L.length,.slice (some ⟨RB,0,none⟩) (h+1) rc,.map (some MB),I64 V]∧Chg (fun k _=>F k) w1 (W.setCells rl (i*32) rs)∧(∀ q,q<w1.heap.size→q≠rl→(W.setCells rl (i*32) rs).heap[q]? = w1.heap[q]?)):=fun W rs hv hW=>by
  rw[O8.out] at hv
  have hr1:=oV (hrow.below hW hrow.lt) h32 i (by omega) (tv key L lv i) hv.2
  rw[← hv.1] at hr1
  have hlen:rs.length=32:=hv.len
  have hb:∀ q,q<w1.heap.size→q≠rl→(W.setCells rl (i*32) rs).heap[q]? = w1.heap[q]?:=fun q hq hn=>(kY rs (i*32) hn).trans (hW.block q hq)
  exact⟨hr1.1,r1.tree.same (hb D r1.tree.lt HDl.out),(Chg.below hW _).setCells (fun _ _ _=>hFl) (by rw[hlen];exact hr1.2),hb⟩
 rw[← hkn] at d0 HR1 LR
 have HA:=hkey
 rw[← hkn] at HA
 replace HA:=ae HA
 have Hrm:Hid (∀ W,Below w1.heap.size w1 W→W.rangeAt rm (p*32) cs):=fun W hW=>Nu W (hB1.trans (hW.mono hB1.size))
 have hlm:(lv:Int) - 1=(jm:Int):=by omega
 have hp4:4*(i:Int)=(p:Int):=by omega
 have hh4:=a.wide.2.2
 have P3:wm≤400:=by rw[hwm,wid];split <;> (have:=Dg L.length (jm+1) a.few;omega)
 have Qh:(jm:Int)<(h:Int)+1:=by omega
 have Hwj:Hid (wrap64 (jm:Int)=(jm:Int)):=w64 _ (by omega)
 have Hwp:Hid (wrap64 (p:Int)=(p:Int)):=w64 _ (by omega)
 clear P3 hh4
 have Hne:Hid (¬ wm=p):=by show ¬ _;omega
 obtain ⟨q,hq⟩:∃ q,wm - p=q:=⟨_,rfl⟩
 have Hlh:Hid (0≤(lv:Int)∧(lv:Int)<(h:Int)+1):=by show _∧_;omega
 have hpw:(p:Int)≤(wm:Int):=by omega
 have Hp4:Hid (4≤q):=by show _≤_;omega
 have Hiw:Hid (0≤(i:Int)∧(i:Int)<(wl:Int)):=by show _∧_;omega
 have Hjx:Hid (lv=jm+1∧lv≤h∧i<wid L.length h lv):=⟨hlv,hjh,by rw[← hwl];exact hiw⟩
 have Hrl:=ae hrl
 have Hbn:=ae hbn
 have Hkn:=ae hkn
 clear hrg Ih Nu hf hcs hB1 hB2 r1 hkey hwm hwl hrm hrl hp hrow h32 hln hFl a r hT hx hlo ht hiw hi4 hjh hlv hRn d3 d4 hbn hkn
 go_enter Tryz.func78,Tryz.ntmps78
 go_wp2
 rw[← hw1,← Hbn.out]
 clear hw1
 go_quiet (fail)
 obtain ⟨wb,hwb⟩:∃ wb,wb=w1.drewN nq:=⟨_,rfl⟩
 rw[← hwb]
 have HBb:Hid (Below w1.heap.size w1 wb):=by rw[hwb];exact below_drewN (Below.refl _ _) nq
 replace d0:=(HBb.out.cell (p:=⟨D,0,none⟩) HD1.out.1).trans d0
 replace d2:=(HBb.out.cell (p:=⟨D,2,none⟩) HD1.out.1).trans d2
 replace s1:=(HBb.out.cell (p:=⟨RB,jm,none⟩) HD1.out.2.1).trans s1
 replace s2:=(HBb.out.cell (p:=⟨RB,lv,none⟩) HD1.out.2.1).trans s2
 have HT:Hid (Hm.Tab wb):=HT1.out.below HBb.out
 replace HA:=ae (HA.out.below HBb.out)
 have hDb:D<wb.heap.size:=Nat.lt_of_lt_of_le HD1.out.1 HBb.out.size
 have hRb:RB<wb.heap.size:=Nat.lt_of_lt_of_le HD1.out.2.1 HBb.out.size
 have ai:Hid (∀ W,Below wb.heap.size wb W→(W.cell? ⟨D,0,none⟩=some (.slice A kn cap)∧W.cell? ⟨D,2,none⟩=some (.slice (some ⟨RB,0,none⟩) (h+1) rc))∧W.cell? ⟨RB,lv,none⟩=some (.slice (some ⟨rl,0,none⟩) wl wl)∧W.rangeAt rm (p*32) cs):=fun W hW =>
  ⟨⟨(hW.cell (p:=⟨D,0,none⟩) hDb).trans d0,(hW.cell (p:=⟨D,2,none⟩) hDb).trans d2⟩,(hW.cell (p:=⟨RB,lv,none⟩) hRb).trans s2,Hrm.out W (HBb.out.trans (hW.mono HBb.out.size))⟩
 have j4:Hid (∀ W,Below wb.heap.size wb W→W.there rl (i*32) 32):=fun W hW=>AQ.out W (HBb.out.trans (hW.mono HBb.out.size))
 have HSt:Hid (∀ W (rs:List Value),Vec 32 (node key f) rs→Below wb.heap.size wb W→_):=fun W rs hv hW=>LR.out W rs hv (HBb.out.trans (hW.mono HBb.out.size))
 have hne:=Hne.out
 have hwj:=Hwj.out
 have hwp:=Hwp.out
 clear hwb n0 n1 AQ LR Hrm HT1 HBb hDb hRb
 go_wp2
 have hC:Below wb.heap.size wb wb.drew:=below_drewN (Below.refl _ _) 1
 refine wp_region_held_drew (S:=(fun W=>(W.cell? ⟨D,0,none⟩=some (.slice A kn cap)∧W.cell? ⟨D,2,none⟩=some (.slice (some ⟨RB,0,none⟩) (h+1) rc))∧W.cell? ⟨RB,lv,none⟩=some (.slice (some ⟨rl,0,none⟩) wl wl)∧W.rangeAt rm (p*32) cs)) (by kernel_rfl) (ai.out _ hC) (fun aa=>?_)
 generalize wb.drew=wbd at *
 refine tkq 0 22 aa ?_
 try go_frame
 refine tkq 1 23 aa ?_
 try go_frame
 refine tkq 2 24 aa ?_
 try go_frame
 refine tkh 3 25 rfl aa ?_ (Or.inl ⟨by rfl,by intro w hSw;have s1:=hSw.1.2;go_simp;with_reducible rfl⟩)
 try go_frame
 refine tkq 4 26 aa ?_
 try go_frame
 refine tkh 5 27 rfl aa ?_ (Or.inl ⟨by rfl,by intro w hSw;have hlh:=Hlh.out;go_simp;with_reducible rfl⟩)
 try go_frame
 refine tkh 6 28 rfl aa ?_ (Or.inl ⟨by rfl,by intro w hSw;have s2:=hSw.2.1;go_simp;with_reducible rfl⟩)
 try go_frame
 refine tkq 7 29 aa ?_
 try go_frame
 refine tkq 8 30 aa ?_
 try go_frame
 refine tkq 9 31 aa ?_
 try go_frame
 refine tkq 10 32 aa ?_
 try go_frame
 refine tkh 11 33 rfl aa ?_ (Or.inl ⟨by rfl,by intro w hSw;have s1:=hSw.1.1;go_simp;with_reducible rfl⟩)
 try go_frame
 refine tkq 12 34 aa ?_
 try go_frame
 refine tkh 13 35 rfl aa ?_ (Or.inl ⟨by rfl,by intro w hSw;(have hp4:(4:Int)≤(q:Int):=by have:=Hp4.out;omega);go_simp;with_reducible rfl⟩)
 try go_frame
 refine tkh 14 36 rfl aa ?_ (Or.inl ⟨by rfl,by intro w hSw;have har:(Instr.arrayAt 198 (.slice (some ⟨rm,p*32,none⟩) 4 q)).run Tryz.prog w=.ok (.pointer (some ⟨rm,p*32,none⟩)) w:=run_arrayAt w _ 27 4 _ _ _ Tryz.underlying198 (Nat.le_refl _);go_simp;with_reducible rfl⟩)
 try go_frame
 refine tkh 15 37 (v:=.agg (cs).toArray) rfl aa ?_ (yieldsIf_load_mid (by rfl) 198 (.tmp 36) rfl (rm) (p*32) rfl (cs) _ (fun W h=>h.2.2) Tryz.underlying198 rfl (by rw[Hcl.out];kernel_rfl))
 try go_frame
 refine rdq 16 38 fun K hK=>?_
 go_simp
 go_at_call 110
 refine(pQ key f _ cs wbd QZ.out Hf4.out Q1.out Hcs.out (HT.out.below hC) (HA.out.below hC)).mono ?_
 rintro e JM ⟨⟨rs,Hrs,rfl⟩,hb⟩
 replace hC:=hC.trans (hb.mono hC.size)
 refine hK.out _ _ (ai.out _ hC) (fun aa=>?_)
 clear hK K hb 
 have Hsz:Hid (rs.toArray.size=32):=Hrs.out.size
 have aN:Hid (rs.toArray.all (·.oneCell')=true):=Hrs.out.one
 try go_frame
 refine tkh 17 39 rfl aa ?_ (Or.inl ⟨by rfl,by intro w hSw;have hiw:=Hiw.out;go_simp;with_reducible rfl⟩)
 try go_frame
 refine rdn 18 fun K hK=>?_
 rw[if_pos (by rfl)]
 refine Go.wp_store_mid 27 (.tmp 39) (.tmp 38) rfl (rl) (i*32) rs.toArray rfl rfl (by rw[Hsz.out];exact j4.out _ hC) (by rw[Hsz.out];kernel_rfl) aN.out ?_
 rw[List.toList_toArray]
 have HAf:=ae (HSt.out _ rs Hrs.out hC)
 have hX:=ai.out _ hC
 refine hK.out _ _ ⟨⟨(ee rs (i*32) HDl.out).trans hX.1.1,(ee rs (i*32) HDl.out).trans hX.1.2⟩,(ee rs (i*32) HRl.out).trans hX.2.1,fun j v hj=>(ee rs (i*32) Hml.out).trans (hX.2.2 j v hj)⟩ (fun aa=>?_)
 clear hK K hX
 generalize (JM.setCells rl (i*32) rs)=wz at *
 try go_frame
 refine wpAnyH_done (by kernel_rfl) ?_ _
 clear hC ai aa HSt j4
 have f4:wz.cell? ⟨D,4,none⟩=some (I64 V):=by rw[HAf.out.2.1.cell];rfl
 have g4:wz.frozen? ⟨D,4,none⟩=false:=HAf.out.2.1.free 4
 have hVi:(V:Int)≤1000000:=by have:=HV.out;omega
 clear hlm hp4 Qh hpw s1 s2 d0 d2
 go_wp2
 go_end0
 have hcw:Chg (fun k _=>F k) w1 (wz.setCell ⟨D,4,none⟩ (.int .i64 ((V:Int)+1))):=HAf.out.2.2.1.setCell rfl (fun _=>HA0.out.FD) (by rw[f4];rfl) _
 refine⟨rfl,?_,(Chg.below Q9.out _).then hcw⟩
 obtain ⟨e1,e2,e3⟩:=Hjx.out
 have ek:=Hkn.out
 have er:=Hrl.out
 subst e1
 subst ek
 subst er
 refine HR1.out.step HA0.out (jm+1,i) rest OX.out e2 e3 (V+1) (HAf.out.1.apart (fun e=>HDl.out e.symm) _) ?_ (fun k hk h1 h2=>(heap_setCell_other _ _ k _ h1).trans (HAf.out.2.2.2 k hk h2)) hcw
 exact HAf.out.2.1.set 4 _
end
theorem pF {w w':World} (h:Hm.Tab w) (hs:w'.heap[(0:Nat)]? = w.heap[(0:Nat)]?):Hm.Tab w':=by
 have hlt:=h.1
 refine⟨?_,fun j u hu=>?_⟩
 ·rw[Array.getElem?_eq_getElem hlt] at hs
  exact(Array.getElem?_eq_some_iff.1 hs).1
 ·rw[← h.2 j u hu]
  exact World.cell?_of_block hs
theorem tG {P:Program} {w w':World} {a:Act} {o:Oper} {ts:Array TypeId} {x:Operand} {m:Value} (ho:o.op=.call { callee:=.builtin .clear,args:=#[x],argTypes:=ts }) (hx:a.eval x=m) (hr:(Builtin.clear_ ts o.type #[m]).run P w=.ok (.tuple #[]) w'):(execOp a.eval o).run P w=.ok (.value (.tuple #[])) w':=by
 simp only [execOp,ho,resolve,invoke,builtin,Sem.run_bind,Sem.run_pure,Result.andThen_ok,List.map_toArray,List.map_cons,List.map_nil,hx,hr]
section
variable {w0 w w':World} {F:Nat→Prop} {D:Nat} {key:Tg} {L:List Tg} {S:List Bool} {V V0 V1 h:Nat} {kv:Value} {KB RB rc MB:Nat} {rb:Nat→Nat} {rw rw0 rw1:Nat→List Tg} {ks todo:List Nd}
theorem TA.done (a:TA w0 F D key L S V0 h kv KB RB rc MB rb rw0 ks) (r:AtR w0 w F D key L h kv RB rc MB rb rw V []) (hs:w.heap.size≤w'.heap.size) (hb:∀ k,F k→k≠MB→w'.heap[k]? = w.heap[k]?) (hm:bO w' MB []) :
  TA w' F D key L (List.replicate L.length false) V h kv KB RB rc MB rb rw [] :=
 { a with
  hS:=List.length_replicate
  tree:=r.tree.same (hb D a.FD a.DM)
  ry:=fun w2 h2 hb2=>a.ry w2 (Nat.le_trans r.chg.size (Nat.le_trans hs h2)) (hb2.trans ((hb KB a.FK (fun e=>a.MK e.symm)).trans (r.same KB a.FK (fun e=>a.DK e.symm) (fun j hj e=>a.rK j hj e.symm))))
  rows:=fun j hj=>(World.cell?_of_block (hb RB a.FR (fun e=>a.MR e.symm))).trans (r.slot a j hj)
  row:=fun j hj=>(r.row j hj).same (hb _ (a.Fr j hj) (a.rM j hj))
  len:=r.len
  r32:=r.r32
  val:=r.val
  map:=hm
  mem:=fun p=>⟨fun h=>(by cases h),fun h=>absurd h (ED _ _ _)⟩
  lt:=fun k hk=>Nat.lt_of_lt_of_le (a.lt k hk) (Nat.le_trans r.chg.size hs) }
structure InT (w0 wr:World) (F:Nat→Prop) (D:Nat) (key:Tg) (L:List Tg) (h:Nat) (kv:Value) (RB rc MB:Nat) (rb:Nat→Nat) (V bt B:Nat) (v:Value) (ts:List Nd) (m:Nat):Prop where
 at_:∃ rw,AtR w0 wr F D key L h kv RB rc MB rb rw (V+m) (ts.drop m)
 res:Row wr bt 27 Hm.Z32
 read:Read wr B v ts
 tab:Hm.Tab wr
 big:B≤wr.heap.size
theorem Bu {B:Nat} {v:Value} {ts:List Nd} (hr:Read w B v ts) (hs:w.heap.size≤w'.heap.size) (hb:∀ k,B≤k→k<w.heap.size→w'.heap[k]? = w.heap[k]?):Read w' B v ts:=by
 rcases hr with h | ⟨g,cap,e,h1,h2,h3⟩
 ·exact .inl h
 ·have hb':=hb g h1 h2
  exact .inr ⟨g,cap,e,h1,Nat.lt_of_lt_of_le h2 hs,fun i x hx=>⟨(World.cell?_of_block hb').trans (h3 i x hx).1,(World.cell?_of_block hb').trans (h3 i x hx).2⟩⟩
theorem Read.form {B:Nat} {v:Value} {ts:List Nd} (hr:Read w B v ts):∃ A n cap,n=ts.length∧v=.slice A n cap:=by
 rcases hr with ⟨rfl,rfl⟩ | ⟨g,cap,e,_⟩
 ·exact⟨_,_,_,rfl,rfl⟩
 ·exact⟨_,_,_,rfl,e⟩
set_option maxRecDepth 100000
theorem DJ (a:TA w F D key L S V h kv KB RB rc MB rb rw ks) (hT:Hm.Tab w) (hF:∀ k,F k→k≠0) (hV:V≤100000):Calls Tryz.prog 38 #[.pointer (some ⟨D,0,none⟩)] w fun e w' =>
  ∃ rs:List Value,(Hid (Vec 32 (root key L h) rs)∧e=.returned (.agg rs.toArray))∧qV T9 w F w' D key L (List.replicate L.length false) (V+st h S):=by
 have hz:=Hm.eM
 obtain ⟨bt,hbt⟩:∃ b,b=w.heap.size:=⟨_,rfl⟩
 obtain ⟨w1,hw1⟩:∃ W,W=w.alloc (.cells Hm.Z32.toArray 27):=⟨_,rfl⟩
 obtain ⟨w2,hw2⟩:∃ W,W=w1.alloc (.cells #[.map (some MB)] 143):=⟨_,rfl⟩
 have hB1:Below w.heap.size w w1:=by rw[hw1];exact(Below.refl _ _).alloc (Nat.le_refl _) _
 have hB2:Below w1.heap.size w1 w2:=by rw[hw2];exact(Below.refl _ _).alloc (Nat.le_refl _) _
 have hR1:Row w1 bt 27 Hm.Z32:=by rw[hw1,hbt];exact Row.new w 27 Hm.Z32
 have hBt:Below w.heap.size w w2:=hB1.trans (hB2.mono hB1.size)
 have a1:=a.below hB1
 have a2:=a.below hBt
 have hp:=lQ a1
 have c3:=a1.fits.2.2.2.1
 have hks:ks.length≤100000:=by rw[a.count];have h1:=Ja h S 100 (by rw[a.hS];exact a.few);have h2:=a.wide.2.2;have h3:h*101≤4*101:=Nat.mul_le_mul_right _ h2;omega
 have hkeys:Calls Tryz.prog 76 #[.map (some MB)] w1 fun e w'=>e=.returned (.func (.func 108) #[] #[.pointer (some ⟨w1.heap.size,0,none⟩)])∧w'=w2:=by
  rw[hw2];exact callsIn_wide.1 (EB Fence.wide 3 (r9 _) rfl (some MB) w1)
 have kC:w2.heap.size=w1.heap.size+1:=by rw[hw2];simp
 have hmc:w2.cell? ⟨w1.heap.size,0,none⟩=some (.map (some MB)):=by rw[hw2];simp
 have hsort:=xN w1.heap.size MB ks w2 (by omega) hmc a2.map hks
 have hpos:¬ ((L.length:Int)=0):=by have:=a.pos;omega
 have HA:=ae a
 have HF:=ae hF
 have HV:=ae hV
 have Hbt:=ae hbt
 have HR2:Hid (Row w2 bt 27 Hm.Z32):=hR1.below hB2 hR1.lt
 have HT2:Hid (Hm.Tab w2):=hT.below hBt
 have HA2:Hid (AtR w w2 F D key L h kv RB rc MB rb rw V ks):=(AtR.begin a).below a hBt
 have Hs1:Hid (w.heap.size≤w1.heap.size∧w1.heap.size=w.heap.size+1):=⟨hB1.size,by rw[hw1];simp⟩
 have Hs2:=ae kC
 clear a hT hF hV hbt hw2 hB1 hR1 hB2 hBt a1 a2 hks kC hmc
 go_enter Tryz.func38,Tryz.ntmps38
 go_wp2_with (first
  | (go_at_call 74;rw[← hw1];clear hw1;refine hp.mono ?_;rintro e w1 ⟨rfl,rfl⟩;clear hp)
  | (go_at_call 76;refine hkeys.mono ?_;rintro e w2 ⟨rfl,rfl⟩;clear hkeys)
  | (
    go_at_call 75;refine hsort.mono ?_;rintro e w3 ⟨v,ts,rfl,Jn,N3,hread,hb3⟩
    have HRd:=ae hread
    obtain ⟨A,tn,cap,htn,rfl⟩:=hread.form
    have HP:=ae Jn
    have Ra:=ae N3
    have HB3:=ae hb3
    have Htn:=ae htn
    clear hsort hread Jn N3 hb3 htn))
 rw[← Hbt.out]
 have HI0:Hid (InT w w3 F D key L h kv RB rc MB rb V bt w2.heap.size (.slice A tn cap) ts 0) :=
  ⟨⟨rw,(HA2.out.below HA.out HB3.out).more fun p hp=>HP.out.mem_iff.2 hp⟩,HR2.out.below HB3.out HR2.out.lt,HRd.out,HT2.out.below HB3.out,HB3.out.size⟩
 have Htk:Hid (tn=ks.length∧tn≤100000):=by
  have h1:=HA.out.count
  have h2:=Ja h S 100 (by rw[HA.out.hS];exact HA.out.few)
  have h3:h*101≤4*101:=Nat.mul_le_mul_right _ HA.out.wide.2.2
  have h4:=HP.out.length_eq
  have h5:=Htn.out
  show _∧_
  omega
 have HnF:Hid (∀ k,F k→k<w.heap.size):=HA.out.lt
 clear HRd c3 HR2 HT2 HA2
 go_loopw [16] (fun i wr=>∃ m:Nat,m≤tn∧i=I64 m∧Hid (InT w wr F D key L h kv RB rc MB rb V bt w2.heap.size (.slice A tn cap) ts m)) (fun i _=>tn - (RowKit.intOf i).toNat)
 case atStart=>exact⟨0,by omega,rfl,HI0⟩
 case round =>
  obtain ⟨m,hm,rfl,HI⟩:=hrel
  clear HI0
  by_cases hlt:m<tn
  ·obtain ⟨x,hx⟩:∃ x,ts[m]? = some x:=⟨_,List.getElem?_eq_getElem (by rw[← Htn.out];exact hlt)⟩
   obtain ⟨g,rfl,hgB,hgl,hnd⟩:∃ g,A=some ⟨g,0,none⟩∧w2.heap.size≤g∧g<wr.heap.size∧Nds wr g ts:=by
    rcases HI.out.read with ⟨e,_⟩ | ⟨g,cap',e,h1,h2,h3⟩
    ·rw[e] at hx;simp at hx
    ·injection e with e1
     exact⟨g,e1,h1,h2,h3⟩
   obtain ⟨c0,c1⟩:=hnd m x hx
   obtain ⟨rw',r⟩:=HI.out.at_
   have hxk:x∈ks:=HP.out.mem_iff.1 (List.mem_of_getElem? hx)
   have hK:=(HA.out.mem x).1 hxk
   obtain ⟨jm,hjm⟩:∃ jm,x.1=jm+1:=⟨x.1 - 1,by have:=hK.1;omega⟩
   have hxe:x=(jm+1,x.2):=Prod.ext hjm rfl
   obtain ⟨wx,hwx⟩:∃ wx,wx=wr.alloc (.cells #[I64 x.1,I64 x.2] 148):=⟨_,rfl⟩
   have hBx:Below wr.heap.size wr wx:=by rw[hwx];exact(Below.refl _ _).alloc (Nat.le_refl _) _
   have Jr:ts.drop m=x::ts.drop (m+1):=by
    have hml:=(List.getElem?_eq_some_iff.1 hx).1
    rw[List.drop_eq_getElem_cons hml,(List.getElem?_eq_some_iff.1 hx).2]
   have Js:=wo HA.out (r.below HA.out hBx) (HI.out.tab.below hBx) jm x.2 (by rw[← hxe];exact hxk) (fun p hp=>by
    obtain ⟨k,hk⟩:=List.getElem?_of_mem hp
    rw[List.getElem?_drop] at hk
    rcases Nat.eq_zero_or_pos k with h0 | h0
    ·subst h0
     rw[Nat.add_zero,hx] at hk
     injection hk with hk
     rw[← hk,hjm];exact Nat.le_refl _
    ·have:=Ra.out m (m+k) x p (by omega) hx hk
     omega) (ts.drop (m+1)) (fun p hp=>by
    rw[Jr] at hp
    rcases List.mem_cons.1 hp with h1 | h1
    ·exact .inl (by rw[h1,← hxe])
    ·exact .inr h1) (by have:=HV.out;have:=Htk.out;omega) x.1 hjm
   have HN:Hid (∀ w5 rw5,AtR w w5 F D key L h kv RB rc MB rb rw5 (V+m+1) (ts.drop (m+1))→Chg (fun k _=>F k) wx w5→InT w w5 F D key L h kv RB rc MB rb V bt w2.heap.size (.slice (some ⟨g,0,none⟩) tn cap) ts (m+1)):=fun w5 rw5 h5 hc5=>by
    have hs5:wr.heap.size≤w5.heap.size:=Nat.le_trans hBx.size hc5.size
    have hkeep:∀ k,k<wr.heap.size→¬ F k→w5.heap[k]? = wr.heap[k]?:=fun k hk hn=>(hc5.block k (Nat.lt_of_lt_of_le hk hBx.size) (fun _=>hn)).trans (hBx.block k hk)
    have hw2:w.heap.size≤w2.heap.size:=by have:=Hs1.out;have:=Hs2.out;omega
    refine⟨⟨rw5,by rw[show V+(m+1)=V+m+1 by omega];exact h5⟩,HI.out.res.same (hkeep bt HI.out.res.lt (fun hf=>by have:=HnF.out bt hf;have:=Hbt.out;omega)),Bu HI.out.read hs5 (fun k hk hkl=>hkeep k hkl (fun hf=>by have:=HnF.out k hf;omega)),pF HI.out.tab (hkeep _ HI.out.tab.1 (fun hf=>HF.out _ hf rfl)),Nat.le_trans HI.out.big hs5⟩
   clear hx hgB hgl hnd r hxk hK hxe hBx Jr hjm
   have hml:(m:Int)<(tn:Int):=by omega
   have htb:(tn:Int)≤100000:=by have:=Htk.out.2;omega
   go_wp2_with (go_at_call 78;rw[← hwx];clear hwx;refine Js.mono ?_;rintro e w5 ⟨rfl,hr5,hc5⟩;have HI5:=ae (HN.out _ _ hr5 hc5);clear Js HN hr5 hc5)
   go_roundw
   case rel=>exact⟨m+1,by omega,by go_num,HI5⟩
   case measure=>rw[show RowKit.intOf (.int .i64 ((m:Int)+1))=(m:Int)+1 from rfl,show RowKit.intOf (.int .i64 (m:Int))=(m:Int) from rfl];omega
  ·obtain rfl:m=tn:=by omega
   obtain ⟨rw',r⟩:=HI.out.at_
   rw[List.drop_of_length_le (by rw[← Htn.out];exact Nat.le_refl _)] at r
   have hmp:=r.map HA.out
   obtain ⟨_,d2,d3,_⟩:=r.fits
   obtain ⟨wb,hrc,hcc,hsc,hmc⟩:=iR.clear hmp Tryz.underlying143 #[143] rfl 0
   have Kr:wid L.length h h=1:=by rw[wid,if_neg (Nat.lt_irrefl _)]
   have hsl:=r.slot HA.out h (Nat.le_refl _)
   have EO:=r.len h (Nat.le_refl _)
   have hval:=r.val h 0 (Nat.le_refl _) (by rw[Kr];exact Nat.one_pos) (.inr (by simp))
   rw[Kr] at hsl EO
   have hld:=Ms (r.row h (Nat.le_refl _)) (r.r32 h (Nat.le_refl _)) 0 (by rw[EO];exact Nat.one_pos)
   rw[hval,← oW key L h HA.out.hh,Nat.zero_mul] at hld
   obtain ⟨rt,hrt⟩:∃ x,x=rb h:=⟨_,rfl⟩
   obtain ⟨rs,hrs⟩:∃ rs,rs=(root key L h).map V8:=⟨_,rfl⟩
   have Hv:Hid (Vec 32 (root key L h) rs):=⟨hrs,by rw[oW key L h HA.out.hh];exact zD key L HA.out.h32 _ _⟩
   rw[← hrt,← hrs] at hld
   rw[← hrt] at hsl
   have hkb:∀ k,k<wr.heap.size→k≠MB→wb.heap[k]? = wr.heap[k]?:=fun k hk hn=>hcc.block k hk (fun _ e=>hn e)
   have ki:∀ k,F k→k<wr.heap.size:=fun k hk=>Nat.lt_of_lt_of_le (HnF.out k hk) r.chg.size
   have N0:bt≠MB:=fun e=>by have h1:=HnF.out MB HA.out.FM;have:=Hbt.out;omega
   have EU:¬ F bt:=fun e=>by have h1:=HnF.out bt e;have:=Hbt.out;omega
   have hRb:Row wb bt 27 Hm.Z32:=HI.out.res.same (hkb bt HI.out.res.lt N0)
   have NT:wb.cell? ⟨D,2,none⟩=some (.slice (some ⟨RB,0,none⟩) (h+1) rc):=(World.cell?_of_block (hkb D (ki D HA.out.FD) HA.out.DM)).trans d2
   have Nq:wb.cell? ⟨RB,h,none⟩=some (.slice (some ⟨rt,0,none⟩) 1 1):=(World.cell?_of_block (hkb RB (ki RB HA.out.FR) (fun e=>HA.out.MR e.symm))).trans hsl
   have Ho:F rt:=by rw[hrt];exact HA.out.Fr h (Nat.le_refl _)
   have Nt:rt≠MB:=by rw[hrt];exact HA.out.rM h (Nat.le_refl _)
   have NI:wb.rangeAt rt 0 rs:=fun j v hj=>(World.cell?_of_block (w:=wr) (hkb rt (ki rt Ho) Nt)).trans (hld j v hj)
   have hsb:wr.heap.size≤wb.heap.size:=hcc.size
   have ai:Hid (∀ W,Below wb.heap.size wb W→W.cell? ⟨D,2,none⟩=some (.slice (some ⟨RB,0,none⟩) (h+1) rc)∧W.cell? ⟨RB,h,none⟩=some (.slice (some ⟨rt,0,none⟩) 1 1)∧W.rangeAt rt 0 rs):=fun W hW =>
    ⟨(hW.cell (p:=⟨D,2,none⟩) (Nat.lt_of_lt_of_le (ki D HA.out.FD) hsb)).trans NT,(hW.cell (p:=⟨RB,h,none⟩) (Nat.lt_of_lt_of_le (ki RB HA.out.FR) hsb)).trans Nq,
     fun j v hj=>(hW.cell (p:=⟨rt,0+j,none⟩) (Nat.lt_of_lt_of_le (ki rt Ho) hsb)).trans (NI j v hj)⟩
   have j4:Hid (∀ W,Below wb.heap.size wb W→W.there bt 0 32):=fun W hW=>(hRb.below hW hRb.lt).gw 0 32 (Nat.le_refl _)
   have ER:V+m=V+st h S:=by have h1:=HA.out.count;have h2:=Htk.out.1;omega
   have HSt:Hid (∀ W,Below wb.heap.size wb W→Row (W.setCells bt 0 rs) bt 27 rs∧TA (W.setCells bt 0 rs) F D key L (List.replicate L.length false) (V+st h S) h kv KB RB rc MB rb rw' []∧Chg (fun k _=>F k) w (W.setCells bt 0 rs)):=fun W hW=>by
    have hlen:rs.length=32:=Hv.out.len
    have h0:∀ k,k<wb.heap.size→k≠bt→(W.setCells bt 0 rs).heap[k]? = wb.heap[k]?:=fun k hk hn=>(kY rs 0 hn).trans (hW.block k hk)
    have hcW:Chg (fun k _=>F k) w (W.setCells bt 0 rs):=((r.chg.trans hcc (fun b _ _ e=>by rw[e];exact HA.out.FM)).then (Chg.below hW _)).setCells (fun j _ hb=>absurd hb (by have:=Hbt.out;omega)) (by rw[hlen];exact j4.out W hW)
    refine⟨?_,?_,hcW⟩
    ·have h1:=mq (t:=27) [] rs Hm.Z32 [] 0 W rfl (by rw[hlen];rfl) (by rw[List.append_nil,List.nil_append];exact hRb.below hW hRb.lt)
     rwa [List.append_nil,List.nil_append] at h1
    ·rw[← ER]
     have hne:∀ k,F k→k≠bt:=fun k hk e=>EU (e ▸ hk)
     refine HA.out.done r (Nat.le_trans hsb (Nat.le_trans hW.size (by rw[pJ];exact Nat.le_refl _))) (fun k hk hm=>(h0 k (Nat.lt_of_lt_of_le (ki k hk) hsb) (hne k hk)).trans (hkb k (ki k hk) hm)) ?_
     exact eX.same hmc (h0 MB (Nat.lt_of_lt_of_le (ki MB HA.out.FM) hsb) (hne MB HA.out.FM))
   have HDb:Hid (D≠bt):=fun e=>EU (e ▸ HA.out.FD)
   have HRb:Hid (RB≠bt):=fun e=>EU (e ▸ HA.out.FR)
   have Hrb:Hid (rt≠bt):=fun e=>EU (e ▸ Ho)
   have hh4:=HA.out.wide.2
   have Hw1:Hid (IntKind.i64.wrap (h:Int)=(h:Int)):=by show _=_;rw[IntKind.wrap_i64];omega
   have Hlh:Hid (0≤(h:Int)∧(h:Int)<(h:Int)+1):=by show _∧_;omega
   clear hmp hcc hsc hmc Kr hsl EO hval hld hrt hrs hkb ki N0 EU hRb NT Nq Ho Nt NI hsb ER hh4 d2 r hm hlt
   go_wp2_with (refine jK rfl (tG rfl rfl hrc) ?_)
   clear hrc d3
   have hC:Below wb.heap.size wb wb.drew:=below_drewN (Below.refl _ _) 1
   refine wp_region_held_drew (S:=(fun W=>W.cell? ⟨D,2,none⟩=some (.slice (some ⟨RB,0,none⟩) (h+1) rc)∧W.cell? ⟨RB,h,none⟩=some (.slice (some ⟨rt,0,none⟩) 1 1)∧W.rangeAt rt 0 rs)) (by kernel_rfl) (ai.out _ hC) (fun aa=>?_)
   generalize wb.drew=wbd at *
   refine tkq 0 28 aa ?_
   try go_frame
   refine tkq 1 29 aa ?_
   try go_frame
   refine tkq 2 30 aa ?_
   try go_frame
   refine tkh 3 31 rfl aa ?_ (Or.inl ⟨by rfl,by intro w hSw;have s1:=hSw.1;go_simp;with_reducible rfl⟩)
   try go_frame
   refine tkq 4 32 aa ?_
   try go_frame
   refine tkq 5 33 aa ?_
   try go_frame
   refine tkq 6 34 aa ?_
   try go_frame
   refine tkh 7 35 rfl aa ?_ (Or.inl ⟨by rfl,by intro w hSw;have s1:=hSw.1;go_simp;with_reducible rfl⟩)
   try go_frame
   refine tkq 8 36 aa ?_
   try go_frame
   refine tkq 9 37 aa ?_
   try go_frame
   refine tkh 10 38 rfl aa ?_ (Or.inl ⟨by rfl,by intro w hSw;have hw1:=Hw1.out;have hlh:=Hlh.out;go_simp;with_reducible rfl⟩)
   try go_frame
   refine tkh 11 39 rfl aa ?_ (Or.inl ⟨by rfl,by intro w hSw;have s2:=hSw.2.1;go_simp;with_reducible rfl⟩)
   try go_frame
   refine tkq 12 40 aa ?_
   try go_frame
   refine tkh 13 41 (v:=.agg (rs).toArray) rfl aa ?_ (yieldsIf_load_mid (by rfl) 27 (.tmp 40) rfl (rt) (0) rfl (rs) _ (fun W h=>h.2.2) Tryz.underlying27 rfl (by rw[Hv.out.len];kernel_rfl))
   try go_frame
   refine rdn 14 fun K hK=>?_
   rw[if_pos (by rfl)]
   refine Go.wp_store_mid 27 (.tmp 2) (.tmp 41) rfl (bt) (0) rs.toArray rfl rfl (by rw[Hv.out.size];exact j4.out _ hC) (by rw[Hv.out.size];kernel_rfl) Hv.out.one ?_
   rw[List.toList_toArray]
   have HAf:=ae (HSt.out _ hC)
   have hX:=ai.out _ hC
   refine hK.out _ _ ⟨(ee rs 0 HDb.out).trans hX.1,(ee rs 0 HRb.out).trans hX.2.1,fun j v hj=>(ee rs 0 Hrb.out).trans (hX.2.2 j v hj)⟩ (fun aa=>?_)
   clear hK K hX
   generalize (wbd.setCells bt 0 rs)=wz at *
   try go_frame
   refine wpAnyH_done (by kernel_rfl) ?_ _
   clear hC ai aa HSt j4
   try go_wp2
   have hinfo:(Tryz.prog.info? 27).map (·.size)=some rs.toArray.size:=by rw[Hv.out.size];kernel_rfl
   refine bodyPost_ret (v:=.agg rs.toArray) (results_cell_row rfl _ _ bt 27 rs.toArray (0,0) _ rfl HAf.out.1 Tryz.underlying27 rfl hinfo) rfl ?_
   exact⟨rs,⟨Hv,rfl⟩,F,⟨h,kv,KB,RB,rc,MB,rb,rw',[],HAf.out.2.1⟩,fun k hk=>.inl hk,HAf.out.2.2⟩
end
end Go.Proofs.YthbmknpbcgnabaaGreatDoor.Mr
