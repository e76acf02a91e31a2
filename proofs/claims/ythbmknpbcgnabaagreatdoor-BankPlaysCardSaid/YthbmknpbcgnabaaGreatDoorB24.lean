/- Of the walk. -/
import Derived.Laws.IdiomStrings
import Derived.Test.YthbmknpbcgnabaaGreatDoorB23
set_option maxHeartbeats 40000000
namespace Go.Proofs.YthbmknpbcgnabaaGreatDoor
open Go.RowKit Dsk
def aO (w:World) (G:Nat→Prop) (w':World) (M:Nat) (L:List Blk):Prop:=bL w' G M L∧Chg (fun k _=>G k) w w'
theorem bL.after {w:World} {G:Nat→Prop} {M:Nat} {L:List Blk} (h:bL w G M L):aO w G w M L:=⟨h,Chg.refl _ _⟩
theorem aO.trans {a w w':World} {G:Nat→Prop} {M:Nat} {L:List Blk} (hc:Chg (fun k _=>G k) a w) (h:aO w G w' M L):aO a G w' M L:=⟨h.1,hc.then h.2⟩
section
variable {w:World} {G:Nat→Prop} {M a b c ca cb cc:Nat} {L:List Blk}
theorem cZ.IE (h:cZ w G M a b c ca cb cc L):w.cell? ⟨M,0,none⟩=some (.slice (some ⟨a,0,none⟩) L.length ca):=h.head.head (j:=0) rfl
theorem cZ.uC (h:cZ w G M a b c ca cb cc L):w.cell? ⟨M,1,none⟩=some (.slice (some ⟨b,0,none⟩) L.length cb):=h.head.head (j:=1) rfl
theorem cZ.Lm (h:cZ w G M a b c ca cb cc L):w.cell? ⟨M,2,none⟩=some (.slice (some ⟨c,0,none⟩) L.length cc):=h.head.head (j:=2) rfl
theorem cZ.atA (h:cZ w G M a b c ca cb cc L) {i:Nat} {x:Blk} (hx:L[i]? = some x):w.cell? ⟨a,i,none⟩=some (.string (aw x.dur)):=h.dur.head (by rw[List.getElem?_map,hx];rfl)
theorem cZ.atB (h:cZ w G M a b c ca cb cc L) {i:Nat} {x:Blk} (hx:L[i]? = some x):w.cell? ⟨b,i,none⟩=some (.string (aw (x.wr.getD []))):=h.fresh.head (by rw[List.getElem?_map,hx];rfl)
theorem cZ.atC (h:cZ w G M a b c ca cb cc L) {i:Nat} {x:Blk} (hx:L[i]? = some x):w.cell? ⟨c,i,none⟩=some (.string (aw x.past)):=h.past.head (by rw[List.getElem?_map,hx];rfl)
theorem cZ.JA (h:cZ w G M a b c ca cb cc L) {i:Nat} (hi:i<L.length):w.frozen? ⟨a,i,none⟩=false:=h.dur.bJ (by rw[List.length_map];exact hi)
theorem cZ.Aq (h:cZ w G M a b c ca cb cc L) {i:Nat} (hi:i<L.length):w.frozen? ⟨b,i,none⟩=false:=h.fresh.bJ (by rw[List.length_map];exact hi)
theorem cZ.Jz (h:cZ w G M a b c ca cb cc L) {i:Nat} (hi:i<L.length):w.frozen? ⟨c,i,none⟩=false:=h.past.bJ (by rw[List.length_map];exact hi)
end
theorem Dk:aw []=⟨#[]⟩:=rfl
theorem tA {l:List UInt8} (h:l.length=72):(aw l).toList.isEmpty=false:=by
 rw[← decide_eq_emptyBytes,decide_eq_false_iff_not]
 intro e
 have e':aw l=aw []:=e
 rw[vu] at e'
 rw[e'] at h;simp at h
set_option maxRecDepth 100000
theorem jE {w:World} {G:Nat→Prop} {M:Nat} {L:List Blk} (h:bL w G M L) (i:Int) :
  Calls Tryz.prog 99 #[.pointer (some ⟨M,0,none⟩),.int .i64 i] w fun e w'=>e=.returned (.bool (okB L i))∧w'=w:=by
 obtain ⟨a,b,c,ca,cb,cc,hR⟩:=h
 have hc:=hR.IE
 have hf:=hR.few
 have hok:okB L i=(decide (0≤i) && decide (i<(L.length:Int))):=by
  rw[okB]
  cases hg:eQ L i with
  | none =>
   rcases jy hg with h | h
   ·rw[decide_eq_false (p:=0≤i) (by omega)];rfl
   ·rw[decide_eq_false (p:=i<(L.length:Int)) (by omega)];simp
  | some x =>
   obtain ⟨n,rfl,hn⟩:=dM hg
   have:=(List.getElem?_eq_some_iff.1 hn).1
   rw[decide_eq_true (p:=(0:Int)≤n) (by omega),decide_eq_true (p:=(n:Int)<(L.length:Int)) (by omega)];rfl
 rw[hok]
 generalize L.length=n at *
 clear hR hok
 go_enter Tryz.func99,Tryz.ntmps99
 by_cases h0:0≤i
 ·go_wp2
  go_ret
  refine⟨?_,rfl⟩
  simp [h0]
 ·have h1:i<0:=by omega
  go_wp2
  go_ret
  refine⟨?_,rfl⟩
  simp [show ¬ 0≤i by omega]
theorem eG {w:World} {G:Nat→Prop} {M:Nat} {L:List Blk} (h:bL w G M L) (i:Nat) (x:Blk) (hx:L[i]? = some x) (W:World) (hW:W.heap=w.heap) :
  Calls Tryz.prog 28 #[.pointer (some ⟨M,0,none⟩),.int .i64 i] W fun e w'=>e=.returned (.string (aw x.cur))∧w'=W:=by
 have h':bL W G M L:=by
  obtain ⟨a,b,c,ca,cb,cc,hR⟩:=h
  have hcl:∀ p,W.cell? p=w.cell? p:=fun p=>by unfold World.cell?;rw[hW]
  have hfr:∀ p,W.frozen? p=w.frozen? p:=fun p=>by unfold World.frozen?;rw[hW]
  have hh:∀ {b o cs},aj w b o cs→aj W b o cs:=fun hh=>⟨fun j v hv=>by rw[hcl];exact hh.1 j v hv,fun j hj=>by rw[hcl,hfr];exact hh.2 j hj⟩
  exact⟨a,b,c,ca,cb,cc,hh hR.head,hh hR.dur,hh hR.fresh,hh hR.past,hR.ok,hR.Ma,hR.Mb,hR.Mc,hR.ab,hR.ac,hR.bc,hR.gM,hR.ga,hR.gb,hR.gc,fun k hk=>by rw[hW];exact hR.lt k hk,hR.few,hR.pos⟩
 clear h hW
 obtain ⟨a,b,c,ca,cb,cc,hR⟩:=h'
 have c1:=hR.IE
 have c2:=hR.uC
 have c3:=hR.atA hx
 have c4:=hR.atB hx
 have hi:(i:Int)<(L.length:Int):=by have:=(List.getElem?_eq_some_iff.1 hx).1;omega
 have hf:=hR.few
 have hok:=hR.ok i x hx
 cases hw:x.wr with
 | none =>
  have mH:x.cur=x.dur:=by rw[Blk.cur,hw];rfl
  rw[mH]
  rw[hw] at c4
  have c5:W.cell? ⟨b,i,none⟩=some (.string ⟨#[]⟩):=c4
  generalize aw x.dur=s at *
  generalize L.length=n at *
  clear hR hok hw mH hx c4
  go_enter Tryz.func28,Tryz.ntmps28
  go_wp2
  go_ret
  exact⟨rfl,rfl⟩
 | some q =>
  have mH:x.cur=q:=by rw[Blk.cur,hw];rfl
  rw[mH]
  rw[hw] at c4
  have c5:W.cell? ⟨b,i,none⟩=some (.string (aw q)):=c4
  have hne:=tA (hok.wr q hw)
  generalize aw q=s at *
  generalize L.length=n at *
  clear hR hok hw mH hx c4
  go_enter Tryz.func28,Tryz.ntmps28
  go_wp2
  go_ret
  exact⟨rfl,rfl⟩
set_option maxRecDepth 512
theorem eP {α β:Type} {l:List α} {i:Nat} {x:α} (h:l[i]? = some x) (f:α→β) (x':α) (e:f x'=f x):(l.set i x').map f=l.map f:=by
 rw[List.map_set,e]
 apply List.ext_getElem?
 intro j
 rw[List.getElem?_set,List.length_map,List.getElem?_map]
 split
 ·rename_i hij
  subst hij
  rw[h]
  have:=(List.getElem?_eq_some_iff.1 h).1
  simp [this]
 ·rfl
section
variable {w:World} {G:Nat→Prop} {M a b c ca cb cc:Nat} {L:List Blk}
theorem Ef {L:List Blk} {i:Nat} {x':Blk} (h:∀ (j:Nat) (y:Blk),L[j]? = some y→y.ok) (hok:x'.ok):∀ (j:Nat) (y:Blk),(L.set i x')[j]? = some y→y.ok:=fun j y hy=>by
 rw[List.getElem?_set] at hy
 split at hy
 ·split at hy
  ·injection hy with hy;rw[← hy];exact hok
  ·cases hy
 ·exact h j y hy
theorem cZ.Mo (h:cZ w G M a b c ca cb cc L) {i:Nat} {x:Blk} (hx:L[i]? = some x) (x':Blk) (h1:x'.wr=x.wr) (h2:x'.past=x.past) (hok:x'.ok):cZ (w.setCell ⟨a,i,none⟩ (.string (aw x'.dur))) G M a b c ca cb cc (L.set i x'):=by
 have hi:=(List.getElem?_eq_some_iff.1 hx).1
 refine⟨by rw[List.length_set];exact h.head.eC h.Ma _,?_,?_,?_,Ef h.ok hok,h.Ma,h.Mb,h.Mc,h.ab,h.ac,h.bc,h.gM,h.ga,h.gb,h.gc,fun k hk=>by simpa [World.setCell] using h.lt k hk,by simp;exact h.few,by simp;exact h.pos⟩
 ·have:=h.dur.put i (by rw[List.length_map];exact hi) (.string (aw x'.dur))
  rw[Nat.zero_add] at this
  rw[List.map_set];exact this
 ·rw[eP hx _ x' (by show VS _=VS _;rw[h1])];exact h.fresh.eC (fun e=>h.ab e.symm) _
 ·rw[eP hx _ x' (by show VS _=VS _;rw[h2])];exact h.past.eC (fun e=>h.ac e.symm) _
theorem cZ.GM (h:cZ w G M a b c ca cb cc L) {i:Nat} {x:Blk} (hx:L[i]? = some x) (x':Blk) (h1:x'.dur=x.dur) (h2:x'.past=x.past) (hok:x'.ok):cZ (w.setCell ⟨b,i,none⟩ (.string (aw (x'.wr.getD [])))) G M a b c ca cb cc (L.set i x'):=by
 have hi:=(List.getElem?_eq_some_iff.1 hx).1
 refine⟨by rw[List.length_set];exact h.head.eC h.Mb _,?_,?_,?_,Ef h.ok hok,h.Ma,h.Mb,h.Mc,h.ab,h.ac,h.bc,h.gM,h.ga,h.gb,h.gc,fun k hk=>by simpa [World.setCell] using h.lt k hk,by simp;exact h.few,by simp;exact h.pos⟩
 ·rw[eP hx _ x' (by show VS _=VS _;rw[h1])];exact h.dur.eC (fun e=>h.ab e) _
 ·have:=h.fresh.put i (by rw[List.length_map];exact hi) (.string (aw (x'.wr.getD [])))
  rw[Nat.zero_add] at this
  rw[List.map_set];exact this
 ·rw[eP hx _ x' (by show VS _=VS _;rw[h2])];exact h.past.eC (fun e=>h.bc e.symm) _
theorem cZ.Mn (h:cZ w G M a b c ca cb cc L) {i:Nat} {x:Blk} (hx:L[i]? = some x) (x':Blk) (h1:x'.dur=x.dur) (h2:x'.wr=x.wr) (hok:x'.ok):cZ (w.setCell ⟨c,i,none⟩ (.string (aw x'.past))) G M a b c ca cb cc (L.set i x'):=by
 have hi:=(List.getElem?_eq_some_iff.1 hx).1
 refine⟨by rw[List.length_set];exact h.head.eC h.Mc _,?_,?_,?_,Ef h.ok hok,h.Ma,h.Mb,h.Mc,h.ab,h.ac,h.bc,h.gM,h.ga,h.gb,h.gc,fun k hk=>by simpa [World.setCell] using h.lt k hk,by simp;exact h.few,by simp;exact h.pos⟩
 ·rw[eP hx _ x' (by show VS _=VS _;rw[h1])];exact h.dur.eC (fun e=>h.ac e) _
 ·rw[eP hx _ x' (by show VS _=VS _;rw[h2])];exact h.fresh.eC (fun e=>h.bc e) _
 ·have:=h.past.put i (by rw[List.length_map];exact hi) (.string (aw x'.past))
  rw[Nat.zero_add] at this
  rw[List.map_set];exact this
theorem cZ.Oj (h:cZ w G M a b c ca cb cc L) {i:Nat} (hi:i<L.length) (u:Value):Chg (fun k _=>G k) w (w.setCell ⟨a,i,none⟩ u) :=
 (Chg.refl _ w).setCell rfl (fun _=>h.ga) (by rw[h.atA (List.getElem?_eq_getElem hi)];rfl) u
theorem cZ.Iz (h:cZ w G M a b c ca cb cc L) {i:Nat} (hi:i<L.length) (u:Value):Chg (fun k _=>G k) w (w.setCell ⟨b,i,none⟩ u) :=
 (Chg.refl _ w).setCell rfl (fun _=>h.gb) (by rw[h.atB (List.getElem?_eq_getElem hi)];rfl) u
theorem cZ.Oi (h:cZ w G M a b c ca cb cc L) {i:Nat} (hi:i<L.length) (u:Value):Chg (fun k _=>G k) w (w.setCell ⟨c,i,none⟩ u) :=
 (Chg.refl _ w).setCell rfl (fun _=>h.gc) (by rw[h.atC (List.getElem?_eq_getElem hi)];rfl) u
end
set_option maxRecDepth 100000
theorem k7 {w:World} {G:Nat→Prop} {M:Nat} {L:List Blk} (h:bL w G M L) (i:Nat) (x:Blk) (hx:L[i]? = some x) (s:List UInt8) (hs:s.length=72) :
  Calls Tryz.prog 100 #[.pointer (some ⟨M,0,none⟩),.int .i64 i,.string (aw s)] w fun e w'=>e=.returned (.tuple #[])∧aO w G w' M (L.set i (x.setCur s)):=by
 obtain ⟨a,b,c,ca,cb,cc,hR⟩:=h
 have hok:=hR.ok i x hx
 have hin:=(List.getElem?_eq_some_iff.1 hx).1
 have HE:Hid (aO w G (if x.wr.isSome then w.setCell ⟨b,i,none⟩ (.string (aw s)) else w.setCell ⟨a,i,none⟩ (.string (aw s))) M (L.set i (x.setCur s))):=by
  show aO _ _ _ _ _
  unfold Blk.setCur
  cases hw:x.wr with
  | none=>exact⟨⟨a,b,c,ca,cb,cc,hR.Mo hx ⟨s,none,x.past⟩ hw.symm rfl ⟨hs,hok.past,fun c hc=>by cases hc⟩⟩,hR.Oj hin _⟩
  | some q=>exact⟨⟨a,b,c,ca,cb,cc,hR.GM hx ⟨x.dur,some s,x.past⟩ rfl rfl ⟨hok.dur,hok.past,fun c hc=>by injection hc with hc;rw[← hc];exact hs⟩⟩,hR.Iz hin _⟩
 have c1:=hR.IE
 have c2:=hR.uC
 have c3:=hR.atA hx
 have c4:=hR.atB hx
 have f3:=hR.JA hin
 have f4:=hR.Aq hin
 have hi:(i:Int)<(L.length:Int):=by omega
 have hf:=hR.few
 cases hw:x.wr with
 | none =>
  rw[hw] at c4 HE
  have c5:w.cell? ⟨b,i,none⟩=some (.string ⟨#[]⟩):=c4
  simp only [Option.isSome_none,Bool.false_eq_true,if_false] at HE
  generalize L.set i (x.setCur s)=L' at *
  generalize aw s=s at *
  generalize L.length=n at *
  clear hR hok hw hx c4 hin
  go_enter Tryz.func100,Tryz.ntmps100
  go_wp2
  go_end0
  exact⟨rfl,HE.out⟩
 | some q =>
  rw[hw] at c4 HE
  have c5:w.cell? ⟨b,i,none⟩=some (.string (aw q)):=c4
  have hne:=tA (hok.wr q hw)
  simp only [Option.isSome_some,if_true] at HE
  generalize L.set i (x.setCur s)=L' at *
  generalize aw s=s at *
  generalize aw q=q at *
  generalize L.length=n at *
  clear hR hok hw hx c4 hin
  go_enter Tryz.func100,Tryz.ntmps100
  go_wp2
  go_end0
  exact⟨rfl,HE.out⟩
theorem wS {w:World} {G:Nat→Prop} {M:Nat} {L:List Blk} (h:bL w G M L) (i:Int) (bs:List UInt8) :
  Calls Tryz.prog 84 #[.pointer (some ⟨M,0,none⟩),.int .i64 i,.string (aw bs)] w fun e w'=>e=.returned (.bool (okW L i bs))∧aO w G w' M (bU L i bs):=by
 have HA0:=ae h.after
 have l5:=ae (jE h i)
 have hlen:(aw bs).size=bs.length:=by unfold aw;simp [ByteArray.size]
 cases hg:eQ L i with
 | none =>
  have hok:okW L i bs=false:=by rw[okW,hg];rfl
  have hw:bU L i bs=L:=by rw[bU,hok];rfl
  have hb:okB L i=false:=by rw[okB,hg];rfl
  rw[hok,hw]
  rw[hb] at l5
  generalize aw bs=s at *
  clear h hg hok hw hb
  go_enter Tryz.func84,Tryz.ntmps84
  go_wp2_with fail
  refine l5.out.mono ?_
  rintro e w1 ⟨rfl,rfl⟩
  go_wp2
  go_ret
  exact⟨rfl,HA0.out⟩
 | some x =>
  have hb:okB L i=true:=by rw[okB,hg];rfl
  rw[hb] at l5
  obtain ⟨i,rfl,hx⟩:=dM hg
  by_cases h72:bs.length=72
  ·have hok:okW L i bs=true:=by rw[okW,hg,h72];rfl
   have hw:bU L i bs=L.set i (x.write bs):=by rw[bU,hok,if_pos rfl,fP hx]
   rw[hok,hw]
   have HRd:=ae (eG h i x hx w.drew rfl)
   obtain ⟨a,b,c,ca,cb,cc,hR⟩:=h
   have hox:=hR.ok i x hx
   have hin:=(List.getElem?_eq_some_iff.1 hx).1
   have hi:(i:Int)<(L.length:Int):=by omega
   have hf:=hR.few
   have c1:=hR.Lm
   have c2:=hR.atC hx
   have f2:=hR.Jz hin
   have hd:cZ w.drew G M a b c ca cb cc L:=hR.stay ((Chg.refl (fun _ _=>False) w).drew) fun _ _ _ x=>x
   have h3:=hd.Mn hx ⟨x.dur,x.wr,x.cur⟩ rfl rfl ⟨hox.dur,hox.cur,hox.wr⟩
   have hx3:(L.set i ⟨x.dur,x.wr,x.cur⟩)[i]? = some (⟨x.dur,x.wr,x.cur⟩:Blk):=List.getElem?_set_self hin
   have uf:i<(L.set i ⟨x.dur,x.wr,x.cur⟩).length:=by simpa using hin
   have h4:=h3.GM hx3 (x.write bs) rfl rfl (Blk.uW hox h72)
   rw[List.set_set] at h4
   have hC:Chg (fun k _=>G k) w (w.drew.setCell ⟨c,i,none⟩ (.string (aw x.cur))):=((Chg.refl _ w).drew).then (hd.Oi hin _)
   have c3:(w.setCell ⟨c,i,none⟩ (.string (aw x.cur))).cell? ⟨M,1,none⟩=some (.slice (some ⟨b,0,none⟩) L.length cb):=by have:=h3.uC;rw[List.length_set] at this;exact this
   have c4:(w.setCell ⟨c,i,none⟩ (.string (aw x.cur))).cell? ⟨b,i,none⟩=some (.string (aw (x.wr.getD []))):=by have:=h3.atB hx3;exact this
   have f4:(w.setCell ⟨c,i,none⟩ (.string (aw x.cur))).frozen? ⟨b,i,none⟩=false:=h3.Aq uf
   have HE:Hid (aO w G ((w.drew.setCell ⟨c,i,none⟩ (.string (aw x.cur))).setCell ⟨b,i,none⟩ (.string (aw bs))) M (L.set i (x.write bs))):=⟨⟨a,b,c,ca,cb,cc,h4⟩,hC.then (h3.Iz uf _)⟩
   rw[h72] at hlen
   generalize L.set i (x.write bs)=L' at *
   generalize aw bs=s at *
   generalize aw x.cur=s2 at *
   generalize L.length=n at *
   clear hR hd h3 hx3 uf h4 hC hox hin hx hok hw hb hg h72 HA0
   go_enter Tryz.func84,Tryz.ntmps84
   go_wp2_with fail
   refine l5.out.mono ?_
   rintro e w1 ⟨rfl,rfl⟩
   clear l5
   go_wp2
   refine wp_region_still_tail 9 (by kernel_rfl) (by kernel_rfl) ?_
   simp only [List.take_succ_cons,List.take_zero,List.drop_succ_cons,List.drop_zero]
   repeat (first
    | still_step
    | (refine wpStill_step (fun K hK=>?_);go_simp;(with_reducible refine⟨_,HRd.out,hK _ ?_⟩);clear hK K))
   refine wpStill_nil ?_
   change wpList _ _ _ _ _ w1.drew
   go_wp2
   go_ret
   exact⟨rfl,HE.out⟩
  ·have hok:okW L i bs=false:=by rw[okW,decide_eq_false h72];simp
   have hw:bU L i bs=L:=by rw[bU,hok];rfl
   rw[hok,hw]
   generalize bs.length=n at *
   generalize aw bs=s at *
   clear h hg hok hw hb hx
   go_enter Tryz.func84,Tryz.ntmps84
   go_wp2_with fail
   refine l5.out.mono ?_
   rintro e w1 ⟨rfl,rfl⟩
   go_wp2
   go_ret
   exact⟨rfl,HA0.out⟩
set_option maxRecDepth 512
theorem eV (l:List UInt8) (w:World):∃ cap W,(convert 9 22 (.string (aw l))).run Tryz.prog w=.ok (.slice (some ⟨w.heap.size,0,none⟩) l.length cap) W∧aj W w.heap.size 0 (l.map V8)∧Below w.heap.size w W∧l.length≤cap:=by
 have h:=run_bytes_of_string (P:=Tryz.prog) w 9 22 5 (aw l) Tryz.underlying9 Tryz.underlying22 Tryz.underlying5
 have hs:(aw l).size=l.length:=by unfold aw;simp [ByteArray.size]
 rw[hs] at h
 refine⟨_,_,h,?_,?_,grownCap_ge w l.length 0 5⟩
 ·have hb:(w.drew.alloc (.cells (bytesRow (aw l) (grownCap w l.length 0 5)) 5 ((bytesRow (aw l) (grownCap w l.length 0 5)).size,(bytesRow (aw l) (grownCap w l.length 0 5)).size+1))).heap[w.heap.size]? = some (.cells (bytesRow (aw l) (grownCap w l.length 0 5)) 5 ((bytesRow (aw l) (grownCap w l.length 0 5)).size,(bytesRow (aw l) (grownCap w l.length 0 5)).size+1)):=heap_alloc_new w.drew _
  have hrow:∀ j v,(l.map V8)[j]? = some v→(bytesRow (aw l) (grownCap w l.length 0 5))[j]? = some v:=fun j v hv=>by
   have hj:=(List.getElem?_eq_some_iff.1 hv).1
   rw[List.length_map] at hj
   unfold bytesRow
   rw[Array.getElem?_append_left (by simp [aw];exact hj)]
   rw[Array.getElem?_map]
   rw[List.getElem?_map] at hv
   simp only [aw,List.getElem?_toArray]
   cases hl:l[j]? with
   | none=>rw[hl] at hv;cases hv
   | some b=>rw[hl] at hv;exact hv
  have hsz:∀ j,j<(l.map V8).length→j<(bytesRow (aw l) (grownCap w l.length 0 5)).size:=fun j hj=>by
   have:=hrow j _ (List.getElem?_eq_getElem hj)
   exact(Array.getElem?_eq_some_iff.1 this).1
  refine⟨fun j v hv=>?_,fun j hj=>⟨?_,?_⟩⟩
  ·rw[Nat.zero_add,cell_of_row _ _ _ _ _ _ hb];exact hrow j v hv
  ·rw[Nat.zero_add,cell_of_row _ _ _ _ _ _ hb,hrow j _ (List.getElem?_eq_getElem hj)];rfl
  ·rw[Nat.zero_add]
   unfold World.frozen?
   rw[hb]
   have:=hsz j hj
   simp only [Bool.and_eq_false_imp,decide_eq_true_eq,decide_eq_false_iff_not]
   omega
 ·have h0:Below w.heap.size w w.drew:=below_drewN (Below.refl _ _) 1
  exact h0.alloc (Nat.le_refl _) _
theorem aj.sees {w:World} {b o:Nat} {cs:List Value} (h:aj w b o cs):ah w b o cs:=h.1
theorem cZ.pV {w:World} {G:Nat→Prop} {M:Nat} {L:List Blk} (h:bL w G M L) {i:Nat} {x:Blk} (hx:L[i]? = some x):x.ok:=by
 obtain ⟨a,b,c,ca,cb,cc,hR⟩:=h
 exact hR.ok i x hx
set_option maxRecDepth 100000
theorem wT {w:World} {G:Nat→Prop} {M:Nat} {L:List Blk} (h:bL w G M L) (i j:Int) (x:UInt8) :
  Calls Tryz.prog 58 #[.pointer (some ⟨M,0,none⟩),.int .i64 i,.int .i64 j,.int .u8 x.toNat] w fun e w'=>e=.returned (.bool (okA L i j x))∧aO w G w' M (bR L i j x):=by
 have HA0:=ae h.after
 have l5:=ae (jE h i)
 have j3:okA L i j x=false→Hid (aO w G w M (bR L i j x)):=fun hk=>by
  show aO w G w M (bR L i j x)
  rw[bR,hk];exact HA0.out
 have hx8:=lt8 x
 cases hg:eQ L i with
 | none =>
  have hok:okA L i j x=false:=by rw[okA,hg];rfl
  have HE:=j3 hok
  have hb:okB L i=false:=by rw[okB,hg];rfl
  rw[hok]
  rw[hb] at l5
  generalize bR L i j x=L' at *
  clear h hg hok hb HA0 j3
  go_enter Tryz.func58,Tryz.ntmps58
  go_wp2_with fail
  refine l5.out.mono ?_
  rintro e w1 ⟨rfl,rfl⟩
  go_wp2
  go_ret
  exact⟨rfl,HE.out⟩
 | some b =>
  have hb:okB L i=true:=by rw[okB,hg];rfl
  rw[hb] at l5
  obtain ⟨i,rfl,hbi⟩:=dM hg
  by_cases hj0:j<0
  ·have hok:okA L i j x=false:=by rw[okA,hg,decide_eq_false (p:=0≤j) (by omega)];rfl
   have HE:=j3 hok
   rw[hok]
   generalize bR L i j x=L' at *
   clear h hg hok hb HA0 j3 hbi
   go_enter Tryz.func58,Tryz.ntmps58
   go_wp2_with fail
   refine l5.out.mono ?_
   rintro e w1 ⟨rfl,rfl⟩
   go_wp2
   go_ret
   exact⟨rfl,HE.out⟩
  ·by_cases hj1:72≤j
   ·have hok:okA L i j x=false:=by rw[okA,hg,decide_eq_false (p:=j<72) (by omega)];simp
    have HE:=j3 hok
    rw[hok]
    generalize bR L i j x=L' at *
    clear h hg hok hb HA0 j3 hbi
    go_enter Tryz.func58,Tryz.ntmps58
    go_wp2_with fail
    refine l5.out.mono ?_
    rintro e w1 ⟨rfl,rfl⟩
    go_wp2
    go_ret
    exact⟨rfl,HE.out⟩
   ·obtain ⟨j,rfl⟩:∃ n:Nat,j=n:=⟨j.toNat,by omega⟩
    by_cases hx:x=0
    ·have hok:okA L i j x=false:=by rw[okA,hg,decide_eq_false (p:=x≠0) (by simp [hx])];simp
     have HE:=j3 hok
     rw[hok]
     have hx0:(x.toNat:Int)=0:=by rw[hx];rfl
     generalize bR L i j x=L' at *
     clear h hg hok hb HA0 j3 hbi hx
     go_enter Tryz.func58,Tryz.ntmps58
     go_wp2_with fail
     refine l5.out.mono ?_
     rintro e w1 ⟨rfl,rfl⟩
     go_wp2
     go_ret
     exact⟨rfl,HE.out⟩
    ·have hok:okA L i j x=true:=by rw[okA,hg,decide_eq_true (p:=(0:Int)≤j) (by omega),decide_eq_true (p:=(j:Int)<72) (by omega),decide_eq_true hx];rfl
     have hw:bR L i j x=L.set i (b.setCur (b.cur.set j (b.cur.getD j 0 ^^^ x))):=by
      rw[bR,hok,if_pos rfl,fP hbi,Lv];rfl
     rw[hok,hw]
     have iJ:=cZ.pV h hbi
     have hxx:(x.toNat:Int)≠0:=fun e=>hx (UInt8.toNat_inj.1 (by rw[UInt8.toNat_zero];omega))
     have hxb:((x.toNat:Int) == 0)=false:=by simpa using hxx
     have HRd:=ae (eG h i b hbi w rfl)
     obtain ⟨cap,W,hcv,Am,Oa,_⟩:=eV b.cur w
     rw[iJ.cur] at hcv
     have hjn:j<72:=by omega
     have hat:(b.cur.map V8)[j]? = some (.int .u8 (b.cur.getD j 0).toNat):=by
      rw[List.getElem?_map,List.getElem?_eq_getElem (by rw[iJ.cur];omega),List.getD_eq_getElem?_getD,List.getElem?_eq_getElem (by rw[iJ.cur];omega)];rfl
     have hcell:=Am.head hat
     have hfree:=Am.bJ (j:=j) (by rw[dO iJ];omega)
     have HX:Hid (bits .xor .u8 ((b.cur.getD j 0).toNat:Int) x.toNat=((b.cur.getD j 0 ^^^ x).toNat:Int)):=dV _ _
     have hput:=Am.put j (by rw[dO iJ];omega) (V8 (b.cur.getD j 0 ^^^ x))
     rw[Nat.zero_add,← List.map_set] at hput
     have hq:w.heap.size<(W.setCell ⟨w.heap.size,j,none⟩ (V8 (b.cur.getD j 0 ^^^ x))).heap.size:=hput.lt (by rw[List.length_map,List.length_set,iJ.cur];omega)
     have hl2:(b.cur.set j (b.cur.getD j 0 ^^^ x)).length=72:=by rw[List.length_set,iJ.cur]
     have E3:Below w.heap.size w (W.setCell ⟨w.heap.size,j,none⟩ (V8 (b.cur.getD j 0 ^^^ x))):=Oa.setCell (Nat.le_refl _) _
     have IQ:Hid ((convert 22 9 (.slice (some ⟨w.heap.size,0,none⟩) 72 cap)).run Tryz.prog (W.setCell ⟨w.heap.size,j,none⟩ (V8 (b.cur.getD j 0 ^^^ x)))=.ok (.string (aw (b.cur.set j (b.cur.getD j 0 ^^^ x)))) (W.setCell ⟨w.heap.size,j,none⟩ (V8 (b.cur.getD j 0 ^^^ x)))):=by
      have:∃ cap',Arg (W.setCell ⟨w.heap.size,j,none⟩ (V8 (b.cur.getD j 0 ^^^ x))) (.slice (some ⟨w.heap.size,0,none⟩) 72 cap') (b.cur.set j (b.cur.getD j 0 ^^^ x)):=⟨72,.inr ⟨w.heap.size,0,72,by rw[hl2],hq,by omega,hput.sees⟩⟩
      show _=_
      have hx:=run_convert_bytes_back (P:=Tryz.prog) (W.setCell ⟨w.heap.size,j,none⟩ (V8 (b.cur.getD j 0 ^^^ x))) 22 9 5 ⟨w.heap.size,0,none⟩ cap (b.cur.set j (b.cur.getD j 0 ^^^ x)) Tryz.underlying22 Tryz.underlying5 Tryz.underlying9 (fun m hm=>by
       rw[bD]
       refine hput.cell (j:=m) ?_
       rw[List.getElem?_map,List.getElem?_eq_getElem hm];rfl)
      rw[hl2] at hx
      exact hx
     have hR2:=h.below E3
     have CN:Hid (Calls Tryz.prog 100 #[.pointer (some ⟨M,0,none⟩),.int .i64 i,.string (aw (b.cur.set j (b.cur.getD j 0 ^^^ x)))] (W.setCell ⟨w.heap.size,j,none⟩ (V8 (b.cur.getD j 0 ^^^ x))) fun e w'=>e=.returned (.tuple #[])∧aO w G w' M (L.set i (b.setCur (b.cur.set j (b.cur.getD j 0 ^^^ x))))):=by
      refine(k7 hR2 i b hbi _ hl2).mono ?_
      rintro e w' ⟨rfl,h1⟩
      exact⟨rfl,h1.trans (Chg.below E3 _)⟩
     unfold V8 at CN IQ
     generalize L.set i (b.setCur (b.cur.set j (b.cur.getD j 0 ^^^ x)))=L' at *
     generalize aw (b.cur.set j (b.cur.getD j 0 ^^^ x))=s2 at *
     generalize aw b.cur=s1 at *
     rw[← HX.out] at CN IQ
     generalize (b.cur.getD j 0).toNat=y at *
     clear HX hput hq hl2 E3 Oa hR2 Am hat iJ hok hw hg hb hbi HA0 j3 h hx hxx
     go_enter Tryz.func58,Tryz.ntmps58
     go_wp2_with fail
     refine l5.out.mono ?_
     rintro e w1 ⟨rfl,rfl⟩
     clear l5
     go_wp2_with fail
     refine HRd.out.mono ?_
     rintro e w1 ⟨rfl,rfl⟩
     clear HRd
     have Qr:=IQ.out
     go_wp2_with fail
     refine CN.out.mono ?_
     rintro e w2 ⟨rfl,h2⟩
     have H2:=ae h2
     clear h2 CN IQ Qr hcv
     go_wp2
     go_ret
     exact⟨rfl,H2.out⟩
theorem y5 {w:World} {G:Nat→Prop} {M:Nat} {L:List Blk} (h:bL w G M L) (i k:Int) :
  Calls Tryz.prog 60 #[.pointer (some ⟨M,0,none⟩),.int .i64 i,.int .i64 k] w fun e w'=>e=.returned (.bool (okS L i k))∧aO w G w' M (cF L i k):=by
 have HA0:=ae h.after
 have HI:=ae (jE h i)
 have HK:=ae (jE h k)
 cases hg:eQ L i with
 | none =>
  have hok:okS L i k=false:=by rw[okS,hg];rfl
  have hb:okB L i=false:=by rw[okB,hg];rfl
  have HE:Hid (aO w G w M (cF L i k)):=by show aO _ _ _ _ _;rw[cF,hg];exact HA0.out
  rw[hok]
  rw[hb] at HI
  generalize cF L i k=L' at *
  clear h hg hok HA0 hb HK
  go_enter Tryz.func60,Tryz.ntmps60
  go_wp2_with fail
  refine HI.out.mono ?_
  rintro e w1 ⟨rfl,rfl⟩
  go_wp2
  go_ret
  exact⟨rfl,HE.out⟩
 | some x =>
  have hb:okB L i=true:=by rw[okB,hg];rfl
  rw[hb] at HI
  cases hgk:eQ L k with
  | none =>
   have hok:okS L i k=false:=by rw[okS,hgk];simp
   have hbk:okB L k=false:=by rw[okB,hgk];rfl
   have HE:Hid (aO w G w M (cF L i k)):=by show aO _ _ _ _ _;rw[cF,hg,hgk];exact HA0.out
   rw[hok]
   rw[hbk] at HK
   generalize cF L i k=L' at *
   clear h hg hok hgk HA0 hb hbk
   go_enter Tryz.func60,Tryz.ntmps60
   go_wp2_with fail
   refine HI.out.mono ?_
   rintro e w1 ⟨rfl,rfl⟩
   go_wp2_with fail
   refine HK.out.mono ?_
   rintro e w1 ⟨rfl,rfl⟩
   go_wp2
   go_ret
   exact⟨rfl,HE.out⟩
  | some y =>
   have hbk:okB L k=true:=by rw[okB,hgk];rfl
   rw[hbk] at HK
   by_cases hik:i=k
   ·have hok:okS L i k=false:=by rw[okS,decide_eq_false (p:=i≠k) (by simp [hik])];simp
    have HE:Hid (aO w G w M (cF L i k)):=by show aO _ _ _ _ _;rw[cF,hg,hgk];simp only;rw[if_pos hik];exact HA0.out
    rw[hok]
    generalize cF L i k=L' at *
    clear h hg hok hgk HA0 hb hbk HK
    subst hik
    go_enter Tryz.func60,Tryz.ntmps60
    go_wp2_with fail
    refine HI.out.mono ?_
    rintro e w1 ⟨rfl,rfl⟩
    go_wp2_with fail
    refine HI.out.mono ?_
    rintro e w1 ⟨rfl,rfl⟩
    go_wp2
    go_ret
    exact⟨rfl,HE.out⟩
   ·have hok:okS L i k=true:=by rw[okS,hg,hgk,decide_eq_true (p:=i≠k) hik];rfl
    have hsw:cF L i k=(L.set i.toNat (x.setCur y.cur)).set k.toNat (y.setCur x.cur):=by rw[cF,hg,hgk];simp only;rw[if_neg hik]
    rw[hok,hsw]
    obtain ⟨i,rfl,hx⟩:=dM hg
    obtain ⟨k,rfl,hy⟩:=dM hgk
    have BS:i≠k:=fun e=>hik (by rw[e])
    have hB:((i:Int) == (k:Int))=false:=by rw[beq_eq_false_iff_ne];omega
    simp only [Int.toNat_natCast]
    have H1:=ae (eG h i x hx w rfl)
    have H2:=ae (eG h k y hy w rfl)
    have hox:=cZ.pV h hx
    have hoy:=cZ.pV h hy
    have H3:=ae (k7 h i x hx y.cur hoy.cur)
    have H4:Hid (∀ w',aO w G w' M (L.set i (x.setCur y.cur))→Calls Tryz.prog 100 #[.pointer (some ⟨M,0,none⟩),.int .i64 k,.string (aw x.cur)] w' fun e w2=>e=.returned (.tuple #[])∧aO w G w2 M ((L.set i (x.setCur y.cur)).set k (y.setCur x.cur))):=fun w' hw'=>by
     refine(k7 hw'.1 k y (by rw[List.getElem?_set_ne BS];exact hy) x.cur hox.cur).mono ?_
     rintro e w2 ⟨rfl,h2⟩
     exact⟨rfl,h2.trans hw'.2⟩
    generalize (L.set i (x.setCur y.cur)).set k (y.setCur x.cur)=L' at *
    generalize L.set i (x.setCur y.cur)=L1 at *
    generalize aw x.cur=sx at *
    generalize aw y.cur=sy at *
    clear h hg hok hgk HA0 hb hbk hsw hx hy hox hoy hik BS
    go_enter Tryz.func60,Tryz.ntmps60
    go_wp2_with fail
    refine HI.out.mono ?_
    rintro e w1 ⟨rfl,rfl⟩
    go_wp2_with fail
    refine HK.out.mono ?_
    rintro e w1 ⟨rfl,rfl⟩
    go_wp2_with fail
    refine H1.out.mono ?_
    rintro e w1 ⟨rfl,rfl⟩
    go_wp2_with fail
    refine H2.out.mono ?_
    rintro e w1 ⟨rfl,rfl⟩
    go_wp2_with fail
    refine H3.out.mono ?_
    rintro e w2 ⟨rfl,h2⟩
    have H5:=ae (H4.out w2 h2)
    clear h2 H3 H4 H1 H2 HI HK
    go_wp2_with fail
    refine H5.out.mono ?_
    rintro e w3 ⟨rfl,h3⟩
    have H6:=ae h3
    clear h3 H5
    go_wp2
    go_ret
    exact⟨rfl,H6.out⟩
theorem y6 {w:World} {G:Nat→Prop} {M:Nat} {L:List Blk} (h:bL w G M L) (i:Int) :
  Calls Tryz.prog 62 #[.pointer (some ⟨M,0,none⟩),.int .i64 i] w fun e w'=>e=.returned (.bool (okB L i))∧aO w G w' M (fK L i):=by
 have HA0:=ae h.after
 have HI:=ae (jE h i)
 cases hg:eQ L i with
 | none =>
  have hok:okB L i=false:=by rw[okB,hg];rfl
  have HE:Hid (aO w G w M (fK L i)):=by show aO _ _ _ _ _;rw[fK,rJ hg];exact HA0.out
  rw[hok] at HI ⊢
  generalize fK L i=L' at *
  clear h hg hok HA0
  go_enter Tryz.func62,Tryz.ntmps62
  go_wp2_with fail
  refine HI.out.mono ?_
  rintro e w1 ⟨rfl,rfl⟩
  go_wp2
  go_ret
  exact⟨rfl,HE.out⟩
 | some x =>
  obtain ⟨i,rfl,hx⟩:=dM hg
  have hok:okB L i=true:=by rw[okB,hg];rfl
  have hL:fK L i=L.set i (x.a7 x.past x.cur):=by rw[fK,fP hx,Blk.sG]
  rw[hok] at HI ⊢
  rw[hL]
  have hox:=cZ.pV h hx
  have H1:=ae (eG h i x hx w rfl)
  have H2:=ae (k7 h i x hx x.past hox.past)
  have hin:=(List.getElem?_eq_some_iff.1 hx).1
  have hi:(i:Int)<(L.length:Int):=by omega
  have HF:Hid (∀ w',aO w G w' M (L.set i (x.setCur x.past))→∃ c cc,w'.cell? ⟨M,2,none⟩=some (.slice (some ⟨c,0,none⟩) L.length cc)∧(∃ u,w'.cell? ⟨c,i,none⟩=some u)∧w'.frozen? ⟨c,i,none⟩=false∧aO w G (w'.setCell ⟨c,i,none⟩ (.string (aw x.cur))) M (L.set i (x.a7 x.past x.cur))):=by
   rintro w' ⟨⟨a,b,c,ca,cb,cc,hR⟩,hX⟩
   have hx':(L.set i (x.setCur x.past))[i]? = some (x.setCur x.past):=List.getElem?_set_self hin
   have NJ:i<(L.set i (x.setCur x.past)).length:=by simpa using hin
   have h3:=hR.Mn hx' (x.a7 x.past x.cur) (by rw[Blk.eB];unfold Blk.a7;cases x.wr <;> rfl) (by rw[Blk.eB];unfold Blk.a7;cases x.wr <;> rfl) (Blk.jO hox hox.past hox.cur)
   rw[Blk.ml,List.set_set] at h3
   have hcl:=hR.Lm
   rw[List.length_set] at hcl
   exact⟨c,cc,hcl,⟨_,hR.atC hx'⟩,hR.Jz NJ,⟨a,b,c,ca,cb,cc,h3⟩,hX.then (hR.Oi NJ _)⟩
  have c0:∃ c cc,w.cell? ⟨M,2,none⟩=some (.slice (some ⟨c,0,none⟩) L.length cc)∧w.cell? ⟨c,i,none⟩=some (.string (aw x.past)):=by
   obtain ⟨a,b,c,ca,cb,cc,hR⟩:=h
   exact⟨c,cc,hR.Lm,hR.atC hx⟩
  obtain ⟨c,cc,c1,c2⟩:=c0
  generalize L.set i (x.a7 x.past x.cur)=L' at *
  generalize L.set i (x.setCur x.past)=L1 at *
  generalize aw x.cur=sx at *
  generalize aw x.past=sp at *
  generalize L.length=n at *
  clear h hg hok hL HA0 hox hx hin
  go_enter Tryz.func62,Tryz.ntmps62
  go_wp2_with fail
  refine HI.out.mono ?_
  rintro e w1 ⟨rfl,rfl⟩
  go_wp2_with fail
  refine H1.out.mono ?_
  rintro e w1 ⟨rfl,rfl⟩
  go_wp2_with fail
  refine H2.out.mono ?_
  rintro e w2 ⟨rfl,h2⟩
  obtain ⟨c',cc',c3,⟨u,c4⟩,f4,h5⟩:=HF.out w2 h2
  have H5:=ae h5
  clear h2 h5 HF H1 H2 HI c1 c2
  go_wp2
  go_ret
  exact⟨rfl,H5.out⟩
set_option maxRecDepth 512
def gB (L:List Blk) (k:Nat):Nat:=cnt (L.take k)
def fo (keep:Nat→Bool) (L:List Blk) (k:Nat):List Blk:=dE keep L k
theorem ux (keep:Nat→Bool) {L:List Blk} {k:Nat} {x:Blk} (hx:L[k]? = some x) (hd:x.wr=none):fo keep L (k+1)=fo keep L k∧gB L (k+1)=gB L k:=by
 have h1:x.aK=false:=by rw[Blk.aK,hd];rfl
 refine⟨jU keep L hx h1,?_⟩
 rw[gB,gB,jA hx,h1];simp
theorem uw (keep:Nat→Bool) {L:List Blk} {k:Nat} {x:Blk} (hx:L[k]? = some x) {q:List UInt8} (hd:x.wr=some q) :
  fo keep L (k+1)=(fo keep L k).set k ⟨if keep (gB L k) then q else x.dur,none,x.past⟩∧gB L (k+1)=gB L k+1:=by
 have h1:x.aK=true:=by rw[Blk.aK,hd];rfl
 refine⟨?_,?_⟩
 ·rw[fo,iq keep L hx,Blk.settle,Blk.cur,hd];rfl
 ·rw[gB,gB,jA hx,h1];simp
section
variable {w:World} {G:Nat→Prop} {M:Nat} {L:List Blk}
theorem bL.lost (h:bL w G M L) {k:Nat} {x:Blk} (hx:L[k]? = some x) {q:List UInt8} (hq:x.wr=some q) :
  ∃ b cb,w.cell? ⟨M,1,none⟩=some (.slice (some ⟨b,0,none⟩) L.length cb)∧w.cell? ⟨b,k,none⟩=some (.string (aw q))∧w.frozen? ⟨b,k,none⟩=false ∧
   aO w G (w.setCell ⟨b,k,none⟩ (.string ⟨#[]⟩)) M (L.set k ⟨x.dur,none,x.past⟩):=by
 obtain ⟨a,b,c,ca,cb,cc,hR⟩:=h
 have hk:=(List.getElem?_eq_some_iff.1 hx).1
 have hox:=hR.ok k x hx
 have h1:=hR.atB hx
 rw[hq] at h1
 exact⟨b,cb,hR.uC,h1,hR.Aq hk,⟨a,b,c,ca,cb,cc,hR.GM hx ⟨x.dur,none,x.past⟩ rfl rfl ⟨hox.dur,hox.past,fun c hc=>by cases hc⟩⟩,hR.Iz hk _⟩
theorem bL.Ni (h:bL w G M L) {k:Nat} {x:Blk} (hx:L[k]? = some x) {q:List UInt8} (hq:x.wr=some q) :
  ∃ a b ca cb,w.cell? ⟨M,0,none⟩=some (.slice (some ⟨a,0,none⟩) L.length ca)∧w.cell? ⟨M,1,none⟩=some (.slice (some ⟨b,0,none⟩) L.length cb)∧w.cell? ⟨b,k,none⟩=some (.string (aw q)) ∧
   (∃ u,w.cell? ⟨a,k,none⟩=some u)∧w.frozen? ⟨a,k,none⟩=false ∧
   (w.setCell ⟨a,k,none⟩ (.string (aw q))).cell? ⟨M,1,none⟩=some (.slice (some ⟨b,0,none⟩) L.length cb)∧(w.setCell ⟨a,k,none⟩ (.string (aw q))).cell? ⟨b,k,none⟩=some (.string (aw q))∧(w.setCell ⟨a,k,none⟩ (.string (aw q))).frozen? ⟨b,k,none⟩=false ∧
   aO w G ((w.drew.setCell ⟨a,k,none⟩ (.string (aw q))).setCell ⟨b,k,none⟩ (.string ⟨#[]⟩)) M (L.set k ⟨q,none,x.past⟩):=by
 obtain ⟨a,b,c,ca,cb,cc,hR⟩:=h
 have hk:=(List.getElem?_eq_some_iff.1 hx).1
 have hox:=hR.ok k x hx
 have h1:=hR.atB hx
 rw[hq] at h1
 have hd:cZ w.drew G M a b c ca cb cc L:=hR.stay ((Chg.refl (fun _ _=>False) w).drew) fun _ _ _ x=>x
 have h3:=hd.Mo hx ⟨q,x.wr,x.past⟩ rfl rfl ⟨hox.wr q hq,hox.past,hox.wr⟩
 have hx3:(L.set k ⟨q,x.wr,x.past⟩)[k]? = some (⟨q,x.wr,x.past⟩:Blk):=List.getElem?_set_self hk
 have hk3:k<(L.set k ⟨q,x.wr,x.past⟩).length:=by simpa using hk
 have h4:=h3.GM hx3 ⟨q,none,x.past⟩ rfl rfl ⟨hox.wr q hq,hox.past,fun c hc=>by cases hc⟩
 rw[List.set_set] at h4
 have h5:=h3.uC
 rw[List.length_set] at h5
 have h6:=h3.atB hx3
 have h7:=h3.Aq hk3
 simp only [hq] at h6
 have hC:Chg (fun k _=>G k) w (w.drew.setCell ⟨a,k,none⟩ (.string (aw q))):=((Chg.refl _ w).drew).then (hd.Oj hk _)
 exact⟨a,b,ca,cb,hR.IE,hR.uC,h1,⟨_,hR.atA hx⟩,hR.JA hk,h5,h6,h7,⟨a,b,c,ca,cb,cc,h4⟩,hC.then (h3.Iz hk3 _)⟩
end
set_option maxRecDepth 100000
theorem kN {w:World} {G:Nat→Prop} {M:Nat} {L:List Blk} (h:bL w G M L) (all:Bool) (A:Option Addr) (nk cap:Nat) (bs:List Bool) (hnk:bs.length=nk) (hk:bq w (.slice A nk cap) (bs.map Value.bool))
  (hkG:∀ b o,A=some ⟨b,o,none⟩→0<nk→¬ G b) :
  Calls Tryz.prog 45 #[.pointer (some ⟨M,0,none⟩),.slice A nk cap,.bool all] w fun e w'=>e=.returned (.tuple #[])∧aO w G w' M (cV (fun n=>all || bs.getD n false) L):=by
 obtain ⟨keep,hkeep⟩:∃ keep,keep=fun n=>all || bs.getD n false:=⟨_,rfl⟩
 obtain ⟨n,hn⟩:∃ n,n=L.length:=⟨_,rfl⟩
 have hf:n≤512:=by
  obtain ⟨a,b,c,ca,cb,cc,hR⟩:=h
  rw[hn];exact hR.few
 have eT:Hid (fo keep L n=cV (fun n=>all || bs.getD n false) L):=by show _=_;rw[hn,hkeep];rfl
 have HKp:=ae hkeep
 have HL:=ae hn
 have HN:=ae hnk
 have xf:Hid (∀ k,(fo keep L k).length=n):=fun k=>by rw[fo,bN,hn]
 have HC0:Hid (fo keep L 0=L):=jT _ _
 have HAt:Hid (∀ k x,L[k]? = some x→(fo keep L k)[k]? = some x):=fun k x hx=>by rw[fo,gh];exact hx
 have Q7:Hid (∀ k,gB L k≤512):=fun k=>by unfold gB;have:=kF L k;omega
 have HKe:Hid (∀ (W:World) (m:Nat),Chg (fun k _=>G k) w W→m<nk→∃ bb bo,A=some ⟨bb,bo,none⟩∧W.cell? ⟨bb,bo+m,none⟩=some (.bool (bs.getD m false))):=fun W m hX hm=>by
  obtain ⟨A',cap',hA,hs⟩:=hk.parts
  injection hA with hA1 _ _
  subst hA1
  obtain ⟨bb,bo,rfl,hbl,cd⟩:=hs (by rw[List.length_map,hnk];omega)
  refine⟨bb,bo,rfl,?_⟩
  rw[hX.cell _ _ hbl (hkG bb bo rfl (by omega))]
  exact AG cd m (by omega)
 have HT0:Hid (aO w G w M (fo keep L 0)):=by show aO _ _ _ _ _;rw[HC0.out];exact h.after
 have hsl:∃ b cb,w.cell? ⟨M,1,none⟩=some (.slice (some ⟨b,0,none⟩) n cb):=by
  obtain ⟨a,b,c,ca,cb,cc,hR⟩:=h
  exact⟨b,cb,by rw[hn];exact hR.uC⟩
 rw[← eT.out]
 clear h hk hkG hkeep hn hnk eT hsl
 go_enter Tryz.func45,Tryz.ntmps45
 go_wp2
 go_loopw [6,7,8] (fun m i _ wr=>∃ k:Nat,k≤n∧i=.int .i64 k∧m=.int .i64 (gB L k)∧Hid (aO w G wr M (fo keep L k))) (fun _ i _ _=>n - (intOf i).toNat)
 case atStart=>exact⟨0,by omega,rfl,rfl,HT0⟩
 case round =>
  obtain ⟨k,hk,rfl,rfl,HT⟩:=hrel
  clear HT0
  have c0:∃ b cb,wr.cell? ⟨M,1,none⟩=some (.slice (some ⟨b,0,none⟩) n cb):=by
   obtain ⟨⟨a,b,c,ca,cb,cc,hR⟩,_⟩:=HT.out
   exact⟨b,cb,by rw[← xf.out k];exact hR.uC⟩
  by_cases hlt:k<n
  ·obtain ⟨x,hx⟩:∃ x,L[k]? = some x:=⟨_,List.getElem?_eq_getElem (by rw[← HL.out];exact hlt)⟩
   have hx':=HAt.out k x hx
   cases hw:x.wr with
   | none =>
    have Hs:=ae (ux keep hx hw)
    have c2:∃ b cb,wr.cell? ⟨M,1,none⟩=some (.slice (some ⟨b,0,none⟩) n cb)∧wr.cell? ⟨b,k,none⟩=some (.string ⟨#[]⟩):=by
     obtain ⟨⟨a,b,c,ca,cb,cc,hR⟩,_⟩:=HT.out
     have:=hR.atB hx'
     rw[hw] at this
     exact⟨b,cb,by rw[← xf.out k];exact hR.uC,this⟩
    obtain ⟨b,cb,c3,c4⟩:=c2
    clear c0 hw hx hx'
    go_wp2
    go_roundw
    case rel=>exact⟨k+1,by omega,by go_num,by rw[Hs.out.2],by show aO _ _ _ _ _;rw[Hs.out.1];exact HT.out⟩
    case measure=>simp [intOf];omega
   | some q =>
    clear c0
    have Hs:=ae (uw keep hx hw)
    have hle:=Q7.out k
    have hne:(aw q).toList.isEmpty=false:=tA ((cZ.pV HT.out.1 hx').wr q hw)
    have Hkm:=ae (congrFun HKp.out (gB L k))
    have hkn:(k:Int)<(n:Int):=by omega
    by_cases hkp:keep (gB L k)=true
    ·obtain ⟨a,b,ca,cb,d1,d2,d3,⟨u,d4⟩,d5,d6,d7,d8,d9⟩:=HT.out.1.Ni hx' hw
     rw[xf.out k] at d1 d2 d6
     have HE:Hid (aO w G ((wr.drew.setCell ⟨a,k,none⟩ (.string (aw q))).setCell ⟨b,k,none⟩ (.string ⟨#[]⟩)) M (fo keep L (k+1))):=by
      show aO _ _ _ _ _
      rw[Hs.out.1,hkp,if_pos rfl]
      exact d9.trans HT.out.2
     have HS2:Hid (gB L (k+1)=gB L k+1):=Hs.out.2
     have uP:Hid (all=true∨(all=false∧gB L k<nk∧bs.getD (gB L k) false=true)):=by
      have:=Hkm.out
      rw[hkp] at this
      cases hall:all with
      | true=>exact .inl rfl
      | false =>
       rw[hall,Bool.false_or] at this
       refine .inr ⟨rfl,?_,this.symm⟩
       rcases Nat.lt_or_ge (gB L k) bs.length with h1 | h1
       ·have:=HN.out;omega
       ·rw[List.getD_eq_getElem?_getD,List.getElem?_eq_none h1] at this;cases this
     generalize aw q=s at *
     have HX:=ae HT.out.2
     have LX:=HKe
     clear d9 hw hx hx' hkp Hs Hkm HKp HAt HT HKe
     rcases uP.out with rfl | ⟨rfl,hm,hb⟩
     ·clear uP
      by_cases hm:gB L k<nk
      ·skip
       go_wp2
       refine wp_region_still_tail 13 (by kernel_rfl) (by kernel_rfl) ?_
       simp only [List.take_succ_cons,List.take_zero,List.drop_succ_cons,List.drop_zero]
       repeat still_step
       refine wpStill_nil ?_
       change wpList _ _ _ _ _ wr.drew
       go_wp2
       go_roundw
       case rel=>exact⟨k+1,by omega,by go_num,by rw[HS2.out];go_num,HE⟩
       case measure=>simp [intOf];omega
      ·skip
       go_wp2
       refine wp_region_still_tail 13 (by kernel_rfl) (by kernel_rfl) ?_
       simp only [List.take_succ_cons,List.take_zero,List.drop_succ_cons,List.drop_zero]
       repeat still_step
       refine wpStill_nil ?_
       change wpList _ _ _ _ _ wr.drew
       go_wp2
       go_roundw
       case rel=>exact⟨k+1,by omega,by go_num,by rw[HS2.out];go_num,HE⟩
       case measure=>simp [intOf];omega
     ·clear uP
      obtain ⟨bb,bo,rfl,hcell⟩:=LX.out wr (gB L k) HX.out hm
      rw[hb] at hcell
      clear hb
      go_wp2
      refine wp_region_still_tail 13 (by kernel_rfl) (by kernel_rfl) ?_
      simp only [List.take_succ_cons,List.take_zero,List.drop_succ_cons,List.drop_zero]
      repeat still_step
      refine wpStill_nil ?_
      change wpList _ _ _ _ _ wr.drew
      go_wp2
      go_roundw
      case rel=>exact⟨k+1,by omega,by go_num,by rw[HS2.out];go_num,HE⟩
      case measure=>simp [intOf];omega
    ·obtain ⟨b,cb,d1,d2,d3,d4⟩:=HT.out.1.lost hx' hw
     rw[xf.out k] at d1
     have HE:Hid (aO w G (wr.setCell ⟨b,k,none⟩ (.string ⟨#[]⟩)) M (fo keep L (k+1))):=by
      show aO _ _ _ _ _
      rw[Hs.out.1,if_neg hkp]
      exact d4.trans HT.out.2
     have HS2:Hid (gB L (k+1)=gB L k+1):=Hs.out.2
     have uP:Hid (all=false∧bs.getD (gB L k) false=false):=by
      have:=Hkm.out
      rw[Bool.not_eq_true] at hkp
      rw[hkp] at this
      have:=this.symm
      rw[Bool.or_eq_false_iff] at this
      exact this
     generalize aw q=s at *
     have HX:=ae HT.out.2
     have LX:=HKe
     clear d4 hw hx hx' hkp Hs Hkm HKp HAt HT HKe
     obtain ⟨rfl,hb⟩:=uP.out
     clear uP
     by_cases hm:gB L k<nk
     ·obtain ⟨bb,bo,rfl,hcell⟩:=LX.out wr (gB L k) HX.out hm
      rw[hb] at hcell
      clear hb
      go_wp2
      go_roundw
      case rel=>exact⟨k+1,by omega,by go_num,by rw[HS2.out];go_num,HE⟩
      case measure=>simp [intOf];omega
     ·clear hb
      go_wp2
      go_roundw
      case rel=>exact⟨k+1,by omega,by go_num,by rw[HS2.out];go_num,HE⟩
      case measure=>simp [intOf];omega
  ·obtain rfl:k=n:=by omega
   obtain ⟨b,cb,c1⟩:=c0
   go_wp2
   go_end0
   exact⟨rfl,HT.out⟩
end Go.Proofs.YthbmknpbcgnabaaGreatDoor
