/- Of the walk. -/
import Derived.LoopIn
import Derived.LoopNIn
import Derived.OwnWalkIn
import Derived.RangeFuncBound
import Derived.RangeFuncCalls
import Derived.RangeFuncLeaves
import Derived.Shelf.RegionOpen
import Derived.Shelf.SlIterI.Collect
import Derived.TacticsInMore
import Derived.Test.YthbmknpbcgnabaaGreatDoorB26
set_option maxHeartbeats 40000000
namespace Go.Proofs.YthbmknpbcgnabaaGreatDoor.Mr
open Go.RowKit Mk
theorem run_mark (g n c:Nat) (bs:List UInt8) (W:World) (h:Row W g 5 (bs.map V8)):(convert 22 22 (.slice (some ⟨g,0,none⟩) n c)).run Tryz.prog W=.ok (.slice (some ⟨g,0,none⟩) n c) (W.freeze ⟨g,bs.length,none⟩ 1):=by
 have hsh:W.shape? g=some (5,bs.length):=by
  have h':W.heap[g]? = some (.cells (bs.map V8).toArray 5 (0,0)):=h
  unfold World.shape?
  rw[h']
  simp
 simp [convert,run_underlying Tryz.underlying22,run_underlying Tryz.underlying5,markStringish,hsh]
theorem fW (W:World) (g k j:Nat) (hj:j≠g):(W.freeze ⟨g,k,none⟩ 1).heap[j]? = W.heap[j]?:=by
 unfold World.freeze
 rw[if_neg (by decide)]
 show (W.heap.modify g _)[j]? = _
 rw[Array.getElem?_modify,if_neg (fun e=>hj e.symm)]
theorem js (W:World) (g k:Nat):(W.freeze ⟨g,k,none⟩ 1).heap.size=W.heap.size:=by
 unfold World.freeze
 rw[if_neg (by decide)]
 show (W.heap.modify g _).size=_
 simp
theorem dW (W:World) (B g k:Nat) (hB:B≤g):Below B W (W.freeze ⟨g,k,none⟩ 1):=by
 refine⟨?_,?_,?_,by rw[js];exact Nat.le_refl _,fun j hj=>fW W g k j (by omega)⟩ <;> (unfold World.freeze;rw[if_neg (by decide)])
theorem ng (W:World) (g k:Nat) (p:Addr):(W.freeze ⟨g,k,none⟩ 1).cell? p=W.cell? p:=by
 rcases Nat.lt_trichotomy p.block g with h | h | h
 ·exact World.cell?_of_block (fW W g k p.block (by omega))
 ·unfold World.freeze
  rw[if_neg (by decide)]
  unfold World.cell?
  show (match (W.heap.modify g _)[p.block]? with | some (.cells c _ _)=>if p.spot.isSome then none else c[p.off]? | _=>none)=_
  rw[Array.getElem?_modify,if_pos h.symm]
  cases hq:W.heap[p.block]? with
  | none=>rfl
  | some o=>cases o <;> rfl
 ·exact World.cell?_of_block (fW W g k p.block (by omega))
theorem Arg.mark {W:World} {v:Value} {bs:List UInt8} (h:Arg W v bs) (g k:Nat):Arg (W.freeze ⟨g,k,none⟩ 1) v bs:=by
 rcases h with h | ⟨b,o,c,e,hb,hc,hs⟩
 ·exact .inl h
 ·exact .inr ⟨b,o,c,e,by rw[js];exact hb,hc,fun j u hu=>(ng W g k _).trans (hs j u hu)⟩
theorem fG (W:World) (g k:Nat) {t:TypeId} {bs:List UInt8} (h:Row W g t (bs.map V8)) (n:Nat) (hn:bs.length=n):Arg (W.freeze ⟨g,k,none⟩ 1) (.slice (some ⟨g,0,none⟩) n n) bs:=(h.arg n hn).mark g k
theorem Me {w:World} {v1 v2 v3 v4 v5:Value} {p1 p2 p3 p4 p5:List UInt8} (h1:Arg w v1 p1) (h2:Arg w v2 p2) (h3:Arg w v3 p3) (h4:Arg w v4 p4) (h5:Arg w v5 p5):Hm.iQ w [v1,v2,v3,v4,v5] [p1,p2,p3,p4,p5]:=by
 refine⟨rfl,fun j v p hv hp=>?_⟩
 match j with
 | 0=>simp only [List.getElem?_cons_zero,Option.some.injEq] at hv hp;subst hv hp;exact h1
 | 1=>simp only [List.getElem?_cons_succ,List.getElem?_cons_zero,Option.some.injEq] at hv hp;subst hv hp;exact h2
 | 2=>simp only [List.getElem?_cons_succ,List.getElem?_cons_zero,Option.some.injEq] at hv hp;subst hv hp;exact h3
 | 3=>simp only [List.getElem?_cons_succ,List.getElem?_cons_zero,Option.some.injEq] at hv hp;subst hv hp;exact h4
 | 4=>simp only [List.getElem?_cons_succ,List.getElem?_cons_zero,Option.some.injEq] at hv hp;subst hv hp;exact h5
 | j+5=>simp at hv
theorem J8 {w:World} {v1 v2 v3 v4 v5:Value} {p1 p2 p3 p4 p5:List UInt8} (h1:Arg w v1 p1) (h2:Arg w v2 p2) (h3:Arg w v3 p3) (h4:Arg w v4 p4) (h5:Arg w v5 p5) :
  Hm.dz (w.alloc (.cells #[v1,v2,v3,v4,v5] 22)) (.slice (some ⟨w.heap.size,0,none⟩) 5 5) [p1,p2,p3,p4,p5] :=
 ⟨_,5,[v1,v2,v3,v4,v5],rfl,Hm.iQ.below (Me h1 h2 h3 h4 h5) ((Below.refl _ _).alloc (Nat.le_refl _) _),fun _=>⟨w.heap.size,0,rfl,by simp,(Row.new w 22 [v1,v2,v3,v4,v5]).sees⟩⟩
theorem Kj {w:World} {g:Nat} {T:TypeId} {a b c d:Tg} (ha:a.length=32) (hb:b.length=32) (hc:c.length=32) (hd:d.length=32) (h:Row w g T (([a,b,c,d]:List Tg).flatten.map V8)) :
  Arg w (.slice (some ⟨g,0,none⟩) 32 32) a∧Arg w (.slice (some ⟨g,32,none⟩) 32 32) b∧Arg w (.slice (some ⟨g,64,none⟩) 32 32) c∧Arg w (.slice (some ⟨g,96,none⟩) 32 32) d:=by
 have hs:=h.sees
 simp only [List.flatten_cons,List.flatten_nil,List.append_nil] at hs
 have cut:∀ (i:Nat) (t:Tg),t.length=32→((a++(b++(c++d))).drop i).take 32=t→Arg w (.slice (some ⟨g,i,none⟩) 32 32) t:=fun i t ht he=>by
  refine .inr ⟨g,i,32,by rw[ht],h.lt,by omega,?_⟩
  have:=hs.piece i 32
  rw[Nat.zero_add,← List.map_drop,← List.map_take,he] at this
  exact this
 have dd:∀ (a l:Tg) (i:Nat),a.length=32→(a++l).drop (32+i)=l.drop i:=fun a l i h=>by
  rw[List.drop_append,List.drop_of_length_le (by omega),List.nil_append,h,Nat.add_sub_cancel_left]
 have tt:∀ (a l:Tg),a.length=32→(a++l).take 32=a:=fun a l h=>by
  rw[List.take_append_of_le_length (by omega),List.take_of_length_le (by omega)]
 refine⟨cut 0 a ha (tt a _ ha),cut 32 b hb ?_,cut 64 c hc ?_,cut 96 d hd ?_⟩
 ·rw[show 32=32+0 from rfl,dd a _ 0 ha,List.drop_zero];exact tt b _ hb
 ·rw[show 64=32+(32+0) from rfl,dd a _ _ ha,dd b _ _ hb,List.drop_zero];exact tt c _ hc
 ·rw[show 96=32+(32+(32+0)) from rfl,dd a _ _ ha,dd b _ _ hb,dd c _ _ hc,List.drop_zero,List.take_of_length_le (by omega)]
set_option maxRecDepth 100000
theorem pQ:Ou:=by
 intro key four v ks w hk h4 h32 hks hT hA
 obtain ⟨A,cap,rfl⟩:=hA.form
 obtain ⟨n,hnl⟩:∃ n,n=key.length:=⟨_,rfl⟩
 rw[← hnl] at hA ⊢
 match four,h4 with
 | [t0,t1,t2,t3],_ =>
 have e0:=h32 t0 (by simp)
 have e1:=h32 t1 (by simp)
 have e2:=h32 t2 (by simp)
 have e3:=h32 t3 (by simp)
 have Hks:=ae hks
 have Hkz:Hid (ks.toArray.size=128):=by show _=_;rw[hks,List.size_toArray,List.length_map,eE [t0,t1,t2,t3] rfl h32]
 have HSm:Hid (Hm.Small [gZ,t0,t1,t2,t3]):=by
  refine⟨by simp,fun p hp=>?_⟩
  simp only [List.mem_cons,List.not_mem_nil,or_false] at hp
  rcases hp with rfl | rfl | rfl | rfl | rfl
  ·decide
  all_goals omega
 have hz:=Hm.eM
 obtain ⟨w0,hw0⟩:∃ w0,w0=(w.alloc (.cells ks.toArray 198)).alloc (.cells Hm.Z32.toArray 27):=⟨_,rfl⟩
 have HC:Hid (Below w.heap.size w w0):=by rw[hw0];exact((Below.refl _ _).alloc (Nat.le_refl _) _).alloc (by simp) _
 have Q4:Hid (Row w0 w.heap.size 198 ks):=by rw[hw0];exact(Row.new w 198 ks).alloc _
 have IW:Hid (Row w0 (w.heap.size+1) 27 Hm.Z32):=by rw[hw0];exact Row.newAt 27 Hm.Z32 (by simp)
 have HT:Hid (Hm.Tab w0):=hT.below HC.out
 have HA:Hid (Arg w0 (.slice A n cap) key):=hA.below HC.out
 obtain ⟨k0,k1,k2,k3⟩:=Kj e0 e1 e2 e3 (Hks.out ▸ Q4.out)
 have HK0:=ae k0
 have HK1:=ae k1
 have HK2:=ae k2
 have HK3:=ae k3
 have ai:Hid (∀ W,Below w0.heap.size w0 W→True):=fun _ _=>trivial
 clear k0 k1 k2 k3 hks e0 e1 e2 e3 h32 hT hA hnl
 go_enter Tryz.func110,Tryz.ntmps110
 go_wp2
 rw[← hw0]
 clear hw0 hz
 have hC:Below w0.heap.size w0 w0.drew:=below_drewN (Below.refl _ _) 1
 refine wp_region_held_drew (S:=(fun _=>True)) (by kernel_rfl) (ai.out _ hC) (fun aa=>?_)
 generalize w0.drew=w0d at *
 refine tkq 0 5 aa ?_
 try go_frame
 refine tkq 3 8 aa ?_
 try go_frame
 refine tkq 4 9 aa ?_
 try go_frame
 refine tkq 5 10 aa ?_
 try go_frame
 refine tkq 6 11 aa ?_
 try go_frame
 refine tkq 7 12 aa ?_
 try go_frame
 refine tkq 8 13 aa ?_
 try go_frame
 refine tkq 9 14 aa ?_
 try go_frame
 refine tkq 10 15 aa ?_
 try go_frame
 refine rdq 1 6 fun K hK=>?_
 go_simp
 have hb:Below w0d.heap.size w0d (w0d.alloc (.cells #[.int .u8 110,.int .u8 111,.int .u8 100,.int .u8 101] 5)):=Joins.below_alloc1 _ _
 have fH:=hC.size
 obtain ⟨aV,eL⟩:∃ g,Hid (g=w0d.heap.size):=⟨_,rfl⟩
 have dP:Hid (Row (w0d.alloc (.cells #[.int .u8 110,.int .u8 111,.int .u8 100,.int .u8 101] 5)) w0d.heap.size 5 (gZ.map V8)):=Row.new w0d 5 (gZ.map V8)
 replace hC:=hC.trans (hb.mono hC.size)
 refine hK.out _ _ (ai.out _ hC) (fun aa=>?_)
 clear hK K hb
 generalize (w0d.alloc (.cells #[.int .u8 110,.int .u8 111,.int .u8 100,.int .u8 101] 5))=dI at *
 rw[← eL.out] at fH ⊢
 rw[← eL.out] at dP
 clear eL
 try go_frame
 refine rdq 2 7 fun K hK=>?_
 have hcv:=run_mark aV 4 4 gZ dI dP.out
 go_simp
 clear hcv
 have hb0:=hC.trans (dW dI _ aV (List.length gZ) fH)
 have bP:Hid (Arg (dI.freeze ⟨aV,List.length gZ,none⟩ 1) (.slice (some ⟨aV,0,none⟩) 4 4) (gZ)):=fG dI aV _ dP.out 4 rfl
 clear dP
 replace hC:=hb0
 refine hK.out _ _ (ai.out _ hC) (fun aa=>?_)
 clear hK K hb0
 generalize (dI.freeze ⟨aV,List.length gZ,none⟩ 1)=df at *
 try go_frame
 refine rdq 11 16 fun K hK=>?_
 go_simp
 have hb:Below df.heap.size df (df.alloc (.cells #[.slice (some ⟨aV,0,none⟩) 4 4,.slice (some ⟨w.heap.size,0,none⟩) 32 32,.slice (some ⟨w.heap.size,32,none⟩) 32 32,.slice (some ⟨w.heap.size,64,none⟩) 32 32,.slice (some ⟨w.heap.size,96,none⟩) 32 32] 22)):=Joins.below_alloc1 _ _
 have iL:=hC.size
 obtain ⟨yu,cO⟩:∃ g,Hid (g=df.heap.size):=⟨_,rfl⟩
 have cR:Hid (Hm.dz (df.alloc (.cells #[.slice (some ⟨aV,0,none⟩) 4 4,.slice (some ⟨w.heap.size,0,none⟩) 32 32,.slice (some ⟨w.heap.size,32,none⟩) 32 32,.slice (some ⟨w.heap.size,64,none⟩) 32 32,.slice (some ⟨w.heap.size,96,none⟩) 32 32] 22)) (.slice (some ⟨df.heap.size,0,none⟩) 5 5) [gZ,t0,t1,t2,t3]):=J8 bP.out (HK0.out.below hC) (HK1.out.below hC) (HK2.out.below hC) (HK3.out.below hC)
 replace hC:=hC.trans (hb.mono hC.size)
 replace bP:=ae (bP.out.below hb)
 refine hK.out _ _ (ai.out _ hC) (fun aa=>?_)
 clear hK K hb
 generalize (df.alloc (.cells #[.slice (some ⟨aV,0,none⟩) 4 4,.slice (some ⟨w.heap.size,0,none⟩) 32 32,.slice (some ⟨w.heap.size,32,none⟩) 32 32,.slice (some ⟨w.heap.size,64,none⟩) 32 32,.slice (some ⟨w.heap.size,96,none⟩) 32 32] 22))=s6 at *
 rw[← cO.out] at iL ⊢
 rw[← cO.out] at cR
 clear cO
 try go_frame
 refine rdq 12 17 fun K hK=>?_
 go_simp
 go_at_call 31
 refine(Hm.jG _ key (by omega) _ _ _ _ HSm.out s6 (HT.out.below hC) (HA.out.below hC) cR.out).mono ?_
 rintro e oH ⟨rs,Hrs,rfl,hb⟩
 replace hC:=hC.trans (hb.mono hC.size)
 replace bP:=ae (bP.out.below hb)
 replace cR:=ae (cR.out.below hb)
 refine hK.out _ _ (ai.out _ hC) (fun aa=>?_)
 clear hK K hb 
 have Hsz:Hid (rs.toArray.size=32):=Hrs.out.size
 have aN:Hid (rs.toArray.all (·.oneCell')=true):=Hrs.out.one
 clear bP cR
 try go_frame
 refine rdn 13 fun K hK=>?_
 rw[if_pos (by rfl)]
 refine Go.wp_store_row 27 (.tmp 4) (.tmp 17) rfl (w.heap.size+1) rs.toArray rfl rfl 27 _ (IW.out.below hC IW.out.lt) (by rw[Hsz.out];kernel_rfl) (by rw[Hsz.out];rfl) aN.out ?_
 have HF:=ae ((IW.out.below hC IW.out.lt).whole rs)
 have HBF:=ae (ag (HC.out.trans (hC.mono HC.out.size)) (k:=w.heap.size+1) (by omega) rs.toArray)
 refine hK.out _ _ trivial (fun aa=>?_)
 clear hK K
 generalize (oH.setRow (w.heap.size+1) rs.toArray)=xD at *
 try go_frame
 refine wpAnyH_done (by kernel_rfl) ?_ _
 clear hC ai aa
 have hinfo:(Tryz.prog.info? 27).map (·.size)=some rs.toArray.size:=by rw[Hsz.out];kernel_rfl
 go_wp2
 refine bodyPost_ret (v:=.agg rs.toArray) (results_cell_row rfl _ _ (w.heap.size+1) 27 rs.toArray (0,0) _ rfl HF.out Tryz.underlying27 rfl hinfo) rfl ?_
 exact⟨⟨rs,Hrs,rfl⟩,HBF.out⟩
set_option maxRecDepth 512
theorem w64 (x:Int) (h:-9223372036854775808≤x∧x≤9223372036854775807):wrap64 x=x:=by unfold wrap64;omega
theorem Nh (q:Nat) (h0:0<q) (h:q≤99999):(wrap64 ((q:Int) / 4)).toNat<((q:Int)).toNat:=by
 rw[w64 _ (by omega)];omega
theorem iO (x:Int):RowKit.intOf (.int .i64 x)=x:=rfl
theorem PO (n h:Nat):((n / 4 ^ h:Nat):Int) / 4=((n / 4 ^ (h+1):Nat):Int):=by
 rw[Nat.pow_succ,← Nat.div_div_eq_div_mul];omega
set_option maxRecDepth 100000
theorem uh:IP:=by
 intro m w hm
 by_cases h1:m<1
 ·have HH:Hid (IsH m 1):=⟨Nat.le_refl _,by omega,.inl rfl⟩
  go_enter Tryz.func140,Tryz.ntmps140
  go_wp2
  go_loopw [3,4] (fun p q wr=>p=.int .i64 1∧q=.int .i64 0∧Hid (Below w.heap.size w wr)) (fun _ _ _=>0)
  case atStart=>exact⟨rfl,rfl,Below.refl _ _⟩
  case round =>
   obtain ⟨rfl,rfl,HB⟩:=hrel
   go_wp2
   go_ret
   exact⟨⟨1,HH,by omega,rfl⟩,HB.out⟩
 ·obtain ⟨n,rfl⟩:∃ n:Nat,m=(n:Int)+1:=⟨(m - 1).toNat,by omega⟩
  have Hn:Hid (n≤99999):=by show _≤_;omega
  have e0:(n:Int) / 4=((n / 4 ^ 1:Nat):Int):=by rw[Nat.pow_one];omega
  have E0:=ae e0
  clear e0
  go_enter Tryz.func140,Tryz.ntmps140
  go_wp2
  go_loopw [3,4] (fun p q wr=>∃ h:Nat,Hid (1≤h∧(h=1∨4 ^ (h - 1)≤n))∧h≤9∧p=.int .i64 h∧q=.int .i64 ((n / 4 ^ h:Nat):Int)∧Hid (Below w.heap.size w wr)) (fun _ q _=>(RowKit.intOf q).toNat)
  case atStart=>exact⟨1,⟨Nat.le_refl _,.inl rfl⟩,by omega,rfl,by rw[← E0.out],Below.refl _ _⟩
  case round =>
   obtain ⟨h,Hh,h9,rfl,rfl,HB⟩:=hrel
   obtain ⟨q,Hq⟩:∃ q,Hid (q=n / 4 ^ h):=⟨_,rfl⟩
   have Eq4:Hid ((q:Int) / 4=((n / 4 ^ (h+1):Nat):Int)):=by show _=_;rw[Hq.out];exact PO n h
   have Hqb:Hid (q≤99999):=by
    have h2:=Hq.out
    have h3:=Nat.div_le_self n (4 ^ h)
    have h4:=Hn.out
    show _≤_;omega
   have Hw4:Hid (wrap64 ((q:Int) / 4)=(q:Int) / 4):=by
    have h2:=Hq.out
    have h3:=Nat.div_le_self n (4 ^ h)
    have h4:=Hn.out
    exact w64 _ (by omega)
   rw[← Hq.out]
   by_cases hp:0<q
   ·have hl:4 ^ h≤n:=by
     have h2:=Hq.out
     rw[h2] at hp
     exact(Nat.div_pos_iff.1 hp).2
    have h8:h+1≤9:=by
     rcases Nat.lt_or_ge h 9 with h3 | h3
     ·omega
     ·have h4:4 ^ 9≤4 ^ h:=Nat.pow_le_pow_right (by omega) h3
      have:=Hn.out
      omega
    have Hl:=ae hl
    clear hl
    go_wp2
    go_roundw
    case rel=>exact⟨h+1,⟨by omega,.inr (by rw[Nat.add_sub_cancel];exact Hl.out)⟩,h8,by go_num,by rw[Hw4.out,Eq4.out],HB⟩
    case measure=>rw[iO,iO];exact Nh q hp Hqb.out
   ·obtain rfl:q=0:=by omega
    have HH:Hid (IsH ((n:Int)+1) h):=by
     have h2:=Hq.out
     have h3:n<4 ^ h:=(Nat.div_eq_zero_iff_lt (Nat.pow_pos (by omega))).1 h2.symm
     refine⟨Hh.out.1,?_,?_⟩
     ·rw[← fc];omega
     ·rcases Hh.out.2 with h4 | h4
      ·exact .inl h4
      ·right
       rw[← fc];omega
    go_wp2
    go_ret
    exact⟨⟨h,HH,h9,rfl⟩,HB.out⟩
set_option maxRecDepth 512
theorem mq {g:Nat} {t:TypeId} (post:List Value):∀ (vs old pre:List Value) (o:Nat) (w:World),pre.length=o→old.length=vs.length→Row w g t (pre++(old++post))→Row (w.setCells g o vs) g t (pre++(vs++post))
 | [],old,pre,o,w,_,hl,h=>by
  obtain rfl:old=[]:=List.eq_nil_of_length_eq_zero hl
  exact h
 | v::r,[],pre,o,w,_,hl,h=>by simp at hl
 | v::r,x::old,pre,o,w,hp,hl,h=>by
  rw[World.setCells]
  have h1:=h.set o v
  rw[List.cons_append,List.set_append_right _ _ (by omega),show o - pre.length=0 by omega,List.set_cons_zero] at h1
  have h2:=mq post r old (pre++[v]) (o+1) (w.setCell ⟨g,o,none⟩ v) (by simp [hp]) (by simpa using hl) (by simpa using h1)
  simpa using h2
theorem rX {g g':Nat} {t:TypeId} {cs:List Value}:∀ {w:World},Row w g t cs→g≠g'→∀ (vs:List Value) (o:Nat),Row (w.setCells g' o vs) g t cs
 | _,h,_,[],_=>h
 | _,h,hn,v::r,o=>by
  rw[World.setCells]
  exact rX (h.apart (p:=⟨g',o,none⟩) hn v) hn r (o+1)
theorem dv {B g:Nat} (hg:B≤g) {a:World}:∀ (vs:List Value) (o:Nat) {w:World},Below B a w→Below B a (w.setCells g o vs)
 | [],_,_,h=>h
 | v::r,o,_,h=>by
  rw[World.setCells]
  exact dv hg r (o+1) (h.setCell (p:=⟨g,o,none⟩) hg v)
def cells (l:List Tg):List Value:=l.flatten.map V8
theorem bG (a b:List Tg):cells (a++b)=cells a++cells b:=by simp [cells]
theorem ir (l:List Tg) (h:∀ t∈l,t.length=32):(cells l).length=32*l.length:=by
 induction l with
 | nil=>rfl
 | cons t r ih =>
  have:=ih fun u hu=>h u (List.mem_cons_of_mem _ hu)
  simp only [cells,List.length_map,List.flatten_cons,List.length_append,List.length_cons] at this ⊢
  have:=h t (by simp)
  omega
theorem ot (l:List Tg) (h:∀ t∈l,t.length=32) (i n:Nat) (hin:i+n≤l.length):((cells l).drop (32*i)).take (cells ((l.drop i).take n)).length=cells ((l.drop i).take n):=by
 have e:l=l.take i++((l.drop i).take n++(l.drop i).drop n):=by rw[List.take_append_drop,List.take_append_drop]
 have hl:(cells (l.take i)).length=32*i:=by
  rw[ir _ fun t ht=>h t (List.mem_of_mem_take ht),List.length_take];congr 1;omega
 have e2:cells l=cells (l.take i)++(cells ((l.drop i).take n)++cells ((l.drop i).drop n)):=by rw[← bG,← bG,← e]
 rw[e2,← hl,List.drop_append,List.drop_of_length_le (Nat.le_refl _),Nat.sub_self,List.drop_zero,List.nil_append,List.take_append_of_le_length (Nat.le_refl _),List.take_of_length_le (Nat.le_refl _)]
theorem eQ {α:Type} [Inhabited α] (cs:Array α) (d:α) (n:Nat) (h:cs=Array.replicate n d) (j:Nat) (hj:j<n):cs[j]! = d:=by
 subst h;simp [hj]
set_option maxRecDepth 100000
def fill (l:List Tg) (M k:Nat):List Tg:=l.take k++List.replicate (M - k) zero
set_option maxRecDepth 512
abbrev low (l:List Tg) (h k:Nat):List Tg:=fill l (4 ^ h) k
open Go.RowKit Go.Shelf Mk
structure Open (F:Fence) (P:Program):Prop where
 fn:∀ f,F.fn f
 depth:F.depth=none
 calls:∀ {k f args w R},Calls P f args w R→CallsIn F k P f args w R
 rows:∀ {k row args w R},Rows P row args w R→RowsIn F k P row args w R
theorem r9 (P:Program):Open Fence.wide P:=⟨fun _=>trivial,rfl,fun h=>callsIn_wide.2 h,fun h c cs _=>let ⟨v,w',r,s⟩:=h c cs;⟨v,w',r,stepsIn_wide.2 s⟩⟩
section
variable {F:Fence} {n:Nat} {P:Program} {ops:Array Oper} {Q:Exit→Act→World→Prop} {md:Region.Mode}
theorem xA (hO:Open F P) {o:Oper} (hd:∀ c,o.op≠.defer c) {K K':Act→World→Prop} (hK:∀ a w,K a w→K' a w) {a:Act} {w:World} (h:o.wp P a w K Q):o.wpIn F n P a w K' Q:=by
 refine⟨fun f _=>hO.fn f,?_⟩
 rw[Oper.semAt_plain F _ _ hd]
 unfold Oper.wp at h
 have hdp:F.depth.isSome=true→1≤n:=by rw[hO.depth];intro h;cases h
 generalize (execOp a.eval o).run P w=r at *
 cases r with
 | ok x w' =>
  cases x <;> simp only [Oper.upon,Oper.uponIn] at h ⊢
  case value=>exact hK _ _ h
  case skip=>exact hK _ _ h
  case defer=>exact hK _ _ h
  case enter f args =>
   refine⟨hdp,(hO.calls h).mono fun e w'' he=>?_⟩
   cases e with
   | returned v=>exact hK _ _ he
   | panicked c=>exact he
   | outgrown=>exact he
  case row row args=>exact⟨hdp,(hO.rows h).mono fun v w'' he=>hK _ _ he⟩
 | halt x w'=>cases x <;> simp only [Oper.upon,Oper.uponIn] at h ⊢ <;> exact h
theorem uY (hO:Open F P) {o:Oper} {rest:List Oper} {a:Act} {w:World} (hg:o.guard=none) (hd:∀ c,o.op≠.defer c) (h:∀ K:Act→World→Prop,(∀ a w,wpListIn F n P ops Q rest a w→K a w)→o.wp P a w K Q):wpListIn F n P ops Q (o::rest) a w :=
 wpListIn_plain hg fun K hK=>xA hO hd (fun _ _ h=>h) (h K hK)
end
end Go.Proofs.YthbmknpbcgnabaaGreatDoor.Mr
namespace Go.Proofs.YthbmknpbcgnabaaGreatDoor.Mr
open Go.RowKit Go.Shelf Go.Maps
abbrev Nd:=Nat × Nat
def cN (x:Nd):List Value:=[.int .i64 (x.1:Int),.int .i64 (x.2:Int)]
def eN (x:Nd):Value:=.agg #[.int .i64 (x.1:Int),.int .i64 (x.2:Int)]
theorem ur {x y:Nd} (h:eN x=eN y):x=y:=by
 simp only [eN,Value.agg.injEq,Array.mk.injEq,List.cons.injEq,Value.int.injEq,true_and,and_true] at h
 exact Prod.ext (by omega) (by omega)
abbrev U0:Value:=.agg #[]
def bO (w:World) (b:Nat) (ks:List Nd):Prop:=iR Tryz.prog 148 U0 w b (ks.map eN)
theorem tQ {α β:Type} (f:α→β) {l:List α} (h:(l.map f).Nodup):l.Nodup:=by
 refine List.Pairwise.imp ?_ (List.pairwise_map.1 h)
 intro a b hab e
 exact hab (by rw[e])
theorem BF {α β:Type} (f:α→β) (hf:∀ a b,f a=f b→a=b) {l:List α} (h:l.Nodup):(l.map f).Nodup:=by
 refine List.pairwise_map.2 (List.Pairwise.imp ?_ h)
 intro a b hab e
 exact hab (hf a b e)
theorem bO.nodup {w:World} {b:Nat} {ks:List Nd} (h:bO w b ks):ks.Nodup:=tQ _ (iR.nodup h)
theorem bO.same {w w':World} {b:Nat} {ks:List Nd} (h:bO w b ks) (hs:w'.heap[b]? = w.heap[b]?):bO w' b ks:=eX.same h hs
theorem bO.lt {w:World} {b:Nat} {ks:List Nd} (h:bO w b ks):b<w.heap.size:=eX.lt h
structure Rg (w:World) (b r:Nat) (ks ss:List Nd) (cnt:Nat) (es:Array MapEntry) (clock since:Nat) (seen:Array Nat) (c0:Nat):Prop where
 hb:w.heap[b]? = some (.map es clock)
 hf:es.toList.map (fun e=>(e.key,e.val))=ks.map fun x=>(eN x,U0)
 hn:ks.Nodup
 st:wJ es clock
 old:∀ x∈es.toList,x.born<since
 hr:w.heap[r]? = some (.mapIter (some b) since seen c0)
 sc:since≤c0
 sk:since≤clock
 hc:(leftOf es seen).size=cnt
 len:ss.length+cnt≤ks.length
 nd:ss.Nodup
 mem:∀ x,x∈ss ↔ ∃ e∈es.toList,e.key=eN x∧seen.contains e.born=true
def Rgs (w:World) (b r:Nat) (ks ss:List Nd) (cnt:Nat):Prop:=∃ es clock since seen c0,Rg w b r ks ss cnt es clock since seen c0
section
variable {w w':World} {b r:Nat} {ks ss:List Nd} {cnt:Nat}
theorem Rgs.left_eq (h:Rgs w b r ks ss cnt):w.rangeLeft b r=cnt:=by
 obtain ⟨es,clock,since,seen,c0,h⟩:=h
 simp only [World.rangeLeft,h.hb,h.hr]
 exact h.hc
theorem Rgs.iter_walk (h:Rgs w b r ks ss cnt):∃ o:Obj,w.heap[r]? = some o∧o.isWalk=true:=by
 obtain ⟨es,clock,since,seen,c0,h⟩:=h
 exact⟨_,h.hr,rfl⟩
theorem Rgs.of_walks (h:Rgs w b r ks ss cnt) (hk:KeepsWalks w w'):Rgs w' b r ks ss cnt:=by
 obtain ⟨es,clock,since,seen,c0,h⟩:=h
 exact⟨es,clock,since,seen,c0,hk.same b _ h.hb rfl,h.hf,h.hn,h.st,h.old,hk.same r _ h.hr rfl,h.sc,h.sk,h.hc,h.len,h.nd,h.mem⟩
theorem Rgs.few (h:Rgs w b r ks ss cnt):ss.length+cnt≤ks.length:=by
 obtain ⟨es,clock,since,seen,c0,h⟩:=h
 exact h.len
theorem Rgs.start (h:bO w b ks) {t e:TypeId} (ht:Tryz.prog.underlying t=some (.map 148 e)) :
  ∃ w',(Instr.range t (.map (some b))).run Tryz.prog w=.ok (.pointer (some ⟨w.heap.size,0,none⟩)) w'∧Rgs w' b w.heap.size ks [] ks.length∧w.grownBy w' none∧w'.heap.size=w.heap.size+1:=by
 have hn:=h.nodup
 obtain ⟨es,clock,hb,hf,_,_,st⟩:=h
 have hlt:=(Array.getElem?_eq_some_iff.1 hb).1
 rw[List.map_map] at hf
 have hsz:es.size=ks.length:=by
  have:=congrArg List.length hf
  simpa using this
 refine⟨_,run_range_map w t 148 e b es clock ht hb,⟨es,clock,clock,#[],clock,((MapKept.heap_alloc w _).2 b hlt).trans hb,hf,hn,st,st.1,(MapKept.heap_alloc w _).1,Nat.le_refl _,Nat.le_refl _,?_,by simp,List.nodup_nil,fun x=>?_⟩,World.grownBy_alloc w _ none,by simp⟩
 ·rw[← hsz];simp [leftOf]
 ·constructor
  ·intro hx;cases hx
  ·rintro⟨e,_,_,hx⟩;simp at hx
theorem Rgs.next (h:Rgs w b r ks ss cnt) (ty:TypeId) :
  (cnt=0∧ss.Perm ks∧(Instr.next (.pointer (some ⟨r,0,none⟩)) false ty).run Tryz.prog w=.ok (.tuple #[.bool false]) w) ∨
  ∃ x w' cnt',(Instr.next (.pointer (some ⟨r,0,none⟩)) false ty).run Tryz.prog w=.ok (.tuple #[.bool true,eN x,U0]) w'∧x∈ks∧Rgs w' b r ks (ss++[x]) cnt'∧cnt'<cnt∧w.grownBy w' (some r)∧w'.heap.size=w.heap.size ∧
   (Instr.entry (.pointer (some ⟨r,0,none⟩))).run Tryz.prog w'=.ok (.tuple #[eN x,U0]) w':=by
 obtain ⟨es,clock,since,seen,c0,hb,hf,hn,st,old,hr,sc,sk,hc,len,nd,mem⟩:=h
 have hrb:r≠b:=by
  intro e
  rw[e,hb] at hr
  cases hr
 have hkn:(es.toList.map (·.key)).Nodup:=by
  have e:es.toList.map (·.key)=ks.map eN:=by
   have:=congrArg (List.map (·.1)) hf
   simpa [List.map_map,Function.comp_def] using this
  rw[e];exact BF _ (fun _ _=>ur) hn
 have hin:∀ e∈es.toList,∃ x∈ks,e.key=eN x∧e.val=U0:=fun e he=>by
  have:(e.key,e.val)∈ks.map fun x=>(eN x,U0):=by rw[← hf];exact List.mem_map.2 ⟨e,he,rfl⟩
  obtain ⟨x,hx,hx2⟩:=List.mem_map.1 this
  injection hx2 with h1 h2
  exact⟨x,hx,h1.symm,h2.symm⟩
 have hout:∀ x∈ks,∃ e∈es.toList,e.key=eN x:=fun x hx=>by
  have:(eN x,U0)∈es.toList.map fun e=>(e.key,e.val):=by rw[hf];exact List.mem_map.2 ⟨x,hx,rfl⟩
  obtain ⟨e,he,he2⟩:=List.mem_map.1 this
  injection he2 with h1 h2
  exact⟨e,he,h1⟩
 have hpw:∀ {l:List MapEntry},(l.map (·.key)).Nodup→∀ {x y:MapEntry},x∈l→y∈l→x.key=y.key→x=y:=fun hl _ _ hx hy e=>entry_eq_of_key (List.pairwise_map.1 hl) hx hy e
 rcases run_next_at (P:=Tryz.prog) w ty r b since c0 seen es clock hr hb old sc with ⟨h0,hrun⟩ | ⟨e,he,w1,hal,hrun⟩
 ·refine .inl ⟨by rw[← hc,h0],(List.perm_ext_iff_of_nodup nd hn).2 fun x=>?_,hrun⟩
  rw[mem]
  constructor
  ·rintro⟨e,he,hk,_⟩
   obtain ⟨y,hy,hk2,_⟩:=hin e he
   rwa [ur (hk.symm.trans hk2)]
  ·intro hx
   obtain ⟨e,he,hk⟩:=hout x hx
   exact⟨e,he,hk,all_seen es seen h0 e he⟩
 ·obtain ⟨hem,hes⟩:=mem_left he
  obtain ⟨x,hx,hxk,hxv⟩:=hin e hem
  have hr1:w1.heap[r]? = some (.mapIter (some b) since seen c0):=by rcases hal with rfl | rfl <;> exact hr
  have hb1:w1.heap[b]? = some (.map es clock):=by rcases hal with rfl | rfl <;> exact hb
  have vT:=MapKept.heap_set (o':=.mapIter (some b) since (seen.push e.born) clock) hr1
  have hb':(ChangeMaps.setBlock w1 r (.mapIter (some b) since (seen.push e.born) clock)).heap[b]? = some (.map es clock):=(vT.2 b (fun e1=>hrb e1.symm)).trans hb1
  have hlt:=left_shrinks es seen e he
  have hen:=run_entry_at (P:=Tryz.prog) _ r b since seen es clock e vT.1 hb' hem st.2
  rw[hxk,hxv] at hrun hen
  refine .inr ⟨x,_,(leftOf es (seen.push e.born)).size,hrun,hx,⟨es,clock,since,seen.push e.born,clock,hb',hf,hn,st,old,vT.1,sk,sk,rfl,?_,?_,fun y=>?_⟩,by rw[← hc];exact hlt,?_,?_,hen⟩
  ·rw[List.length_append,List.length_singleton];omega
  ·rw[List.nodup_append]
   refine⟨nd,by simp,fun a ha c hc2 e2=>?_⟩
   simp at hc2
   subst hc2
   subst e2
   obtain ⟨e',he',hk',hs'⟩:=(mem a).1 ha
   have:=hpw hkn he' hem (hk'.trans hxk.symm)
   subst this
   rw[hs'] at hes;cases hes
  ·rw[List.mem_append,List.mem_singleton,mem]
   constructor
   ·rintro (⟨e',he',hk',hs'⟩ | rfl)
    ·exact⟨e',he',hk',by rw[contains_push,hs'];simp⟩
    ·exact⟨e,hem,hxk,by rw[contains_push];simp⟩
   ·rintro⟨e',he',hk',hs'⟩
    rw[contains_push,Bool.or_eq_true] at hs'
    rcases hs' with hs' | hs'
    ·exact .inl ⟨e',he',hk',hs'⟩
    ·right
     have hbe:e'.born=e.born:=by simpa using hs'
     have:=born_inj st.2 he' hem hbe
     subst this
     exact ur (hk'.symm.trans hxk)
  ·rcases hal with rfl | rfl <;> exact⟨rfl,rfl,rfl,by simp [ChangeMaps.setBlock],fun i _ hi=>vT.2 i (fun e1=>hi (by rw[e1]))⟩
  ·rcases hal with rfl | rfl <;> simp [ChangeMaps.setBlock]
end
theorem jL {F:Fence} {n:Nat} {P:Program} {ops:Array Oper} {Q:Exit→Act→World→Prop} (hO:Open F P) {o:Oper} {rest:List Oper} {a:Act} {w w':World} {v:Value} (hg:o.guard=none) (hd:∀ c,o.op≠.defer c)
  (hr:(execOp a.eval o).run P w=.ok (.value v) w') (h:wpListIn F n P ops Q rest (a.put o.dst v) w'):wpListIn F n P ops Q (o::rest) a w :=
 uY hO hg hd fun K hK=>by unfold Oper.wp;rw[hr];exact hK _ _ h
theorem jK {P:Program} {ops:Array Oper} {Q:Exit→Act→World→Prop} {o:Oper} {rest:List Oper} {a:Act} {w w':World} {v:Value} (hg:o.guard=none)
  (hr:(execOp a.eval o).run P w=.ok (.value v) w') (h:wpList P ops Q rest (a.put o.dst v) w'):wpList P ops Q (o::rest) a w :=
 wpList_plain hg fun K hK=>by unfold Oper.wp;rw[hr];exact hK _ _ h
theorem tF {P:Program} {w w':World} {a:Act} {o:Oper} {t:TypeId} {x:Operand} {v m:Value} (ho:o.op=.range t x) (hx:a.eval x=m) (hr:(Instr.range t m).run P w=.ok v w'):(execOp a.eval o).run P w=.ok (.value v) w':=by
 simp [execOp,ho,hx,hr,Result.andThen]
theorem nY {P:Program} {w w':World} {a:Act} {o:Oper} {x:Operand} {v m:Value} (ho:o.op=.next x false) (hx:a.eval x=m) (hr:(Instr.next m false o.type).run P w=.ok v w'):(execOp a.eval o).run P w=.ok (.value v) w':=by
 simp [execOp,ho,hx,hr,Result.andThen]
theorem sg (w:World):(zeroValue 148).run Tryz.prog w=.ok (.agg #[.int .i64 0,.int .i64 0]) w:=by kernel_rfl
attribute [local go_sem] Oper.semAt_some
theorem EB (F:Fence) (n:Nat) (hO:Open F Tryz.prog) (hro:F.round=none) (mb:Option Nat) (w:World) :
  CallsIn F n Tryz.prog 76 #[.map mb] w fun e w'=>e=.returned (.func (.func 108) #[] #[.pointer (some ⟨w.heap.size,0,none⟩)])∧w'=w.alloc (.cells #[.map mb] 143):=by
 refine callsIn_of_wp Tryz.func76 rfl (hO.fn _) ?_ hro
 simp only [Tryz.ntmps76,List.size_toArray,List.length_cons,List.length_nil,Nat.reduceAdd,Nat.reduceSub,Array.replicate_succ,Array.replicate_zero,List.push_toArray,List.append_toArray,List.nil_append,List.cons_append]
 gi_wp2
 go_ret
 exact⟨rfl,rfl⟩
set_option maxRecDepth 100000
theorem keys1_in (F:Fence) (n:Nat) (hO:Open F Tryz.prog) (hro:F.round=none) (hn:1≤n) (l Bm b:Nat) (ks:List Nd) (J:List Nd→World→Prop)
  (hY:∀ pre x W,J pre W→pre.length<ks.length→YieldAt F (n - 1) Tryz.prog l #[eN x] W fun e W'=>e=.returned (.bool true)∧J (pre++[x]) W'∧KeepsWalks W W')
  (W:World) (hJ:AbidesFrom W.heap.size J) (hm:W.cell? ⟨Bm,0,none⟩=some (.map (some b))) (hown:bO W b ks) (h0:J [] W) :
  CallsIn F n Tryz.prog 108 #[.func (.yield l) #[] #[],.pointer (some ⟨Bm,0,none⟩)] W fun e W'=>(∃ v,e=.returned v)∧∃ ss:List Nd,ss.Perm ks∧J ss W':=by
 obtain ⟨w0,hr0,hrg0,hg0,hs0⟩:=Rgs.start hown Tryz.underlying143
 have HRg:=ae hrg0
 have HJ0:Hid (J [] w0):=hJ [] W w0 none h0 hg0 (fun r e=>by cases e)
 have HY:=ae hY
 have HJ:=ae hJ
 have hnz:=sg
 clear hrg0 hg0 hs0 hown h0 hY hJ
 refine callsIn_of_wp Tryz.func108 rfl (hO.fn _) ?_ hro
 simp only [Tryz.ntmps108,List.size_toArray,List.length_cons,List.length_nil,Nat.reduceAdd,Nat.reduceSub,Array.replicate_succ,Array.replicate_zero,List.push_toArray,List.append_toArray,List.nil_append,List.cons_append]
 gi_wp2_with (gi_at_range;refine jL hO rfl (by intro c hc;cases hc) (tF rfl rfl hr0) ?_)
 clear hr0 hm
 go_frame
 gi_loopw [3] (fun _ wr=>∃ (cnt:Nat) (ss:List Nd),Hid (Rgs wr b W.heap.size ks ss cnt)∧Hid (J ss wr)) (fun _ wr=>wr.rangeLeft b W.heap.size)
 case atStart=>exact⟨_,[],HRg,HJ0⟩
 case round =>
  obtain ⟨cnt,ss,hrg,hJs⟩:=hrel
  clear HRg HJ0
  rcases hrg.out.next 4 with ⟨_,hp,hrun⟩ | ⟨x,w2,cnt2,hrun,hx,hrg2,hlt,hg2,hs2,hen⟩
  ·have HP:=ae hp
   clear hp
   gi_wp2_with (gi_at_next;refine jL hO rfl (by intro c hc;cases hc) (nY rfl rfl hrun) ?_)
   gi_wp2
   go_end0
   exact⟨⟨_,rfl⟩,ss,HP.out,hJs.out⟩
  ·have Q5:=ae hrg2
   have HJ2:J ss (w2.alloc (.cells #[.int .i64 (x.1:Int),.int .i64 (x.2:Int)] 148)) :=
    HJ.out ss wr _ (some W.heap.size) hJs.out (jB hg2 _) (fun r e=>by cases e;exact⟨Nat.le_refl _,hrg.out.iter_walk⟩)
   have Qo:=hrg.out.few
   obtain ⟨fn,tmps,assign,body,hy,hR⟩:=HY.out ss x _ HJ2 (by omega)
   have HW2:Hid (KeepsWalks w2 (w2.alloc (.cells #[.int .i64 (x.1:Int),.int .i64 (x.2:Int)] 148))):=KeepsWalks.alloc _ _
   clear hrg2 hs2 HJ2 Qo
   simp only [eN] at hrun hen hy
   gi_wp2_with (gi_at_next;refine jL hO rfl (by intro c hc;cases hc) (nY rfl rfl hrun) ?_)
   gi_wp2
   refine hR.mono ?_
   rintro e W3 ⟨rfl,hJ3,hk3⟩
   have HJ3:=ae hJ3
   have O0:=ae ((Q5.out.of_walks HW2.out).of_walks hk3)
   clear hR hy hJ3 hk3 hrun hen
   gi_wp2
   go_roundw
   case rel=>exact⟨cnt2,ss++[x],O0,HJ3⟩
   case measure=>rw[O0.out.left_eq,hrg.out.left_eq];exact hlt
end Go.Proofs.YthbmknpbcgnabaaGreatDoor.Mr
