/- Of the walk. -/
import Derived.Test.YthbmknpbcgnabaaGreatDoorB18
set_option maxHeartbeats 40000000
namespace Go.Proofs.YthbmknpbcgnabaaGreatDoor
open Go.RowKit Aes Ctr Sl
theorem vG {P:Program} {fn:Func} {t p u:Tmp} {ty:TypeId} (h:fn.results=#[.tmp t,.cell p ty,.tmp u]) (tmps:Array Value) (w:World) (g:Nat) (T:TypeId) (cs:Array Value) (fr:Nat × Nat) (d:TypeDesc)
  (hp:tmps.getD p undef=.pointer (some ⟨g,0,none⟩)) (hg:w.heap[g]? = some (.cells cs T fr))
  (hu:P.underlying ty=some d) (hd:(match d with | .struct _ | .array _ _=>true | _=>false)=true) (hi:(P.info? ty).map (·.size)=some cs.size) :
  (results fn tmps).run P w=.ok (.tuple #[tmps.getD t undef,.agg cs,tmps.getD u undef]) w:=by
 have hp':tmps[p]?.getD undef=.pointer (some ⟨g,0,none⟩):=by rw[← hp];simp
 simp [results,h,hp',asAddr,run_loadVar_row w g T ty cs fr d hg hu hd hi]
theorem Arg.off {w:World} {g o n c k:Nat} {bs:List UInt8} (h:Arg w (.slice (some ⟨g,o,none⟩) n c) bs) (hk:g≠k) (cs:Array Value):Arg (w.setRow k cs) (.slice (some ⟨g,o,none⟩) n c) bs:=by
 rcases h with ⟨A,e,hn⟩ | ⟨b,o',c',e,hb,hc,hs⟩
 ·exact .inl ⟨_,e,hn⟩
 ·refine .inr ⟨b,o',c',e,by simpa using hb,hc,?_⟩
  injection e with e1 _ _
  injection e1 with e1
  injection e1 with e1 _ _
  exact hs.same (setRow_other w k b cs (by omega))
set_option maxRecDepth 100000
theorem Cx (ek mk:List UInt8) (ks:List Value) (hk:cz ek mk ks) (d:Int) (v:Nat) (hv:v<2 ^ 64) (p:List UInt8) (hp:p.length=64) (x:Value) (w:World) (hT:Hm.Tab w) (h:Arg w x p) :
  Calls Tryz.prog 90 #[.agg ks.toArray,.int .i64 d,.int .u64 v,x] w fun e w'=>∃ g cap rs,e=.returned (.tuple #[.slice (some ⟨g,0,none⟩) 72 cap,.agg (List.toArray rs),.int .i64 0])∧72≤cap∧w.heap.size≤g∧Arg w' (.slice (some ⟨g,0,none⟩) 72 cap) (rw_ ek (nm d) v p)∧Hid (Vec 32 (tg mk (nm d) (rw_ ek (nm d) v p)) rs)∧Below w.heap.size w w':=by
 obtain ⟨A,kI,rfl⟩:=h.form
 have HK:=ae hk
 have Hzk:Hid (ks.toArray.size=48):=hk.size
 have hz:=Hm.eM
 obtain ⟨w0,hw0⟩:∃ w0,w0=(w.alloc (.cells ks.toArray 29)).alloc (.cells Hm.Z32.toArray 27):=⟨_,rfl⟩
 have HBL:Hid (Below w.heap.size w w0):=by rw[hw0];exact((Below.refl _ _).alloc (Nat.le_refl _) _).alloc (by simp) _
 have HBX:Hid (Row w0 w.heap.size 29 ks):=by rw[hw0];exact(Row.new w 29 ks).alloc _
 have HZ0:Hid (Row w0 (w.heap.size+1) 27 Hm.Z32):=by rw[hw0];exact Row.newAt 27 Hm.Z32 (by simp)
 have HSZ:Hid (w0.heap.size=w.heap.size+1+1):=by show _=_;rw[hw0];simp
 have HP:=ae hp
 rw[hp] at h ⊢
 have HT:Hid (Hm.Tab w0):=hT.below HBL.out
 have HA:Hid (Arg w0 (.slice A 64 kI) p):=h.below HBL.out
 have ai:Hid (∀ W,Below w0.heap.size w0 W→W.rangeAt w.heap.size 0 ks):=fun W hW=>dn (HBX.out.below hW HBX.out.lt)
 have hi1:(Tryz.prog.info? 29).map (·.size)=some ks.length:=by rw[HK.out.vec.len];kernel_rfl
 have I1:Hid (((big 8 v).map V8).length+((code ek (nnc (nm d) v) p).map V8).length≤100000000):=by show _≤_;rw[List.length_map,List.length_map,aU,bC,hp];omega
 clear h hk hp hT
 go_enter Tryz.func90,Tryz.ntmps90
 go_wp2
 rw[← hw0]
 clear hw0 hz
 have hC:Below w0.heap.size w0 w0.drew:=below_drewN (Below.refl _ _) 1
 refine wp_region_held_drew (S:=(fun W=>W.rangeAt w.heap.size 0 ks)) (by kernel_rfl) (ai.out _ hC) (fun aa=>?_)
 generalize w0.drew=w0d at *
 refine tkq 0 16 aa ?_
 try go_frame
 refine tkh 2 18 (v:=.agg (ks).toArray) rfl aa ?_ (yieldsIf_load_mid (by rfl) 29 (.tmp 4) rfl (w.heap.size) 0 rfl (ks) _ (fun W h=>h) Tryz.underlying29 rfl hi1)
 try go_frame
 refine tkq 3 19 aa ?_
 try go_frame
 refine tkq 4 20 aa ?_
 try go_frame
 refine tkq 5 21 aa ?_
 try go_frame
 refine rdq 1 17 fun K hK=>?_
 go_simp
 go_at_call 73
 obtain ⟨jh,ib⟩:∃ g,Hid (g=w0d.heap.size):=⟨_,rfl⟩
 have NP:w0.heap.size≤jh:=by rw[ib.out];exact hC.size
 refine(II v hv w0d).mono ?_
 rintro e bT ⟨rfl,qF,hb⟩
 have nO:Hid (Own bT w0.heap.size 5 (.slice (some ⟨jh,0,none⟩) 8 8) ((big 8 v).map V8)):=(ib.out ▸ qF.out:Row bT jh _ _).own NP (by rw[List.length_map,aU]) (by omega)
 replace hC:=hC.trans (hb.mono hC.size)
 refine hK.out _ _ (ai.out _ hC) (fun aa=>?_)
 clear hK K hb 
 rw[← ib.out]
 clear ib qF
 try go_frame
 refine rdq 6 22 fun K hK=>?_
 go_simp
 go_at_call 94
 refine(sI ek mk ks HK.out d v hv p _ (by rw[HP.out];omega) bT (HA.out.below hC)).mono ?_
 rintro e AX ⟨QC,rfl,_,Fy,hb⟩
 have Gg:Hid (Arg AX (.slice (some ⟨QC,0,none⟩) 64 64) (code ek (nnc (nm d) v) p)):=Fy.out.arg 64 (by rw[bC,HP.out])
 replace hC:=hC.trans (hb.mono hC.size)
 replace nO:=ae (nO.out.below hb (Nat.le_refl _))
 refine hK.out _ _ (ai.out _ hC) (fun aa=>?_)
 clear hK K hb 
 rw[HP.out]
 clear Fy
 try go_frame
 refine rdq 7 23 fun K hK=>?_
 have hs0:=hC.size
 refine cK rfl (.tmp 17) (.tmp 22) 22 rfl w0.heap.size 5 Tryz.underlying22 bK rfl (by decide) _ (List.map V8 (big 8 v)) rfl nO.out _ (List.map V8 (code ek (nnc (nm d) v) p)) rfl (dy Gg.out) (bI _) I1.out hs0 ?_
 intro JP jN hown hg _
 replace hC:=au hC nO.out hg (Nat.le_refl _) hs0
 have FA:Hid (Own jN w0.heap.size 5 JP ((big 8 v++code ek (nnc (nm d) v) p).map V8)):=by show Own _ _ _ _ _;rw[List.map_append];exact hown
 clear hown hg nO Gg
 refine hK.out _ _ (ai.out _ hC) (fun aa=>?_)
 clear hK K
 try go_frame
 refine tkq 8 11 aa ?_
 try go_frame
 refine wpAnyH_done (by kernel_rfl) ?_ _
 have HL:Hid ((List.map V8 (big 8 v++code ek (nnc (nm d) v) p)).length=72):=by show _=_;rw[List.length_map,List.length_append,aU,bC,HP.out]
 obtain ⟨g,cap,hv1,hgB,hgl,hcap,cd⟩:=FA.out.cM (by rw[HL.out];omega)
 rw[HL.out] at hv1 hcap
 have HAr:Hid (Arg jN (.slice (some ⟨g,0,none⟩) 72 cap) (rw_ ek (nm d) v p)):=by rw[← hv1];exact FA.out.arg
 rw[HSZ.out] at hgB
 subst hv1
 have HX:=ae (HBX.out.below hC HBX.out.lt)
 have HZ:=ae (HZ0.out.below hC HZ0.out.lt)
 have HTW:=ae (HT.out.below hC)
 have HC:=ae (HBL.out.trans (hC.mono HBL.out.size))
 have Rn:=hC.size
 clear HL FA cd hC HBX HZ0 HT HBL ai aa HA hgl I1
 generalize jN=w1 at *
 go_wp2_with (refine wpList_load_row rfl 29 (.tmp 4) rfl w.heap.size rfl 29 ks.toArray (0,0) _ HX.out Tryz.underlying29 rfl (by rw[Hzk.out];kernel_rfl) ?_)
 refine(mM ek mk ks HK.out d (rw_ ek (nm d) v p) (by rw[kS,HP.out];omega) _ w1 HTW.out HAr.out).mono ?_
 rintro e w5 ⟨rs,Hrs,rfl,hb5⟩
 have HZ5:=ae (HZ.out.below hb5 HZ.out.lt)
 have Rb:=ae (HAr.out.below hb5)
 have HC5:=ae (HC.out.trans (hb5.mono HC.out.size))
 have Hsz:Hid (rs.toArray.size=32):=Hrs.out.size
 have aN:Hid (rs.toArray.all (·.oneCell')=true):=Hrs.out.one
 clear hb5 HX HZ HTW HAr HC
 go_wp2_with (refine wpList_store_row rfl 27 (.tmp 9) (.tmp 28) rfl (w.heap.size+1) rs.toArray rfl rfl 27 _ HZ5.out (by rw[Hsz.out];kernel_rfl) (by rw[Hsz.out];rfl) aN.out ?_)
 have bj:=HZ5.out.whole rs
 have hinfo:(Tryz.prog.info? 27).map (·.size)=some rs.toArray.size:=by rw[Hsz.out];kernel_rfl
 refine bodyPost_ret (v:=.tuple #[.slice (some ⟨g,0,none⟩) 72 cap,.agg rs.toArray,.int .i64 0]) (vG (t:=8) (p:=9) (u:=10) rfl _ _ (w.heap.size+1) 27 rs.toArray (0,0) _ rfl bj Tryz.underlying27 rfl hinfo) rfl ?_
 exact⟨g,cap,rs,rfl,hcap,by omega,Rb.out.off (by omega) _,Hrs,ag HC5.out (by omega) _⟩
set_option maxRecDepth 512
theorem qz (t:TypeId) (n:Nat) (ht:Tryz.prog.underlying t=some (.array n 5)) (a b:List UInt8) (rs ss:List Value) (ha:Vec n a rs) (hb:Vec n b ss) (w:World) :
  (Op.equalIn 10000 t (.agg rs.toArray) (.agg ss.toArray)).run Tryz.prog w=.ok (decide (a=b)) w:=by
 have hs:(sizeOf 5).run Tryz.prog w=.ok 1 w:=by kernel_rfl
 have hag:(isAgg 5).run Tryz.prog w=.ok false w:=by kernel_rfl
 rw[show (10000:Nat)=9999+1 from rfl,Op.equalIn]
 simp only [Sem.run_bind,run_underlying ht,Result.andThen_ok,hs]
 simp only [Std.Legacy.Range.forIn_eq_forIn_range',Std.Legacy.Range.size,Nat.sub_zero,Nat.add_sub_cancel,Nat.div_one]
 have key:∀ L:List Nat,(∀ i∈L,i<n)→(forIn (m:=Sem) L ((none,()):Option Bool × Unit) fun i _=>do
      let a ← part 5 rs.toArray (i*1)
      let b ← part 5 ss.toArray (i*1)
      let c ← Op.equalIn 9999 5 a b
      if (!c)=true then pure (ForInStep.done ((some false,()):Option Bool × Unit)) else pure (ForInStep.yield (none,()))).run Tryz.prog w=.ok (if ∀ i∈L,a.getD i 0=b.getD i 0 then (none,()) else (some false,())) w:=by
  intro L
  induction L with
  | nil=>intro _;simp
  | cons i r ih =>
   intro hL
   have hi:i<n:=hL i (by simp)
   have hp:(part 5 rs.toArray (i*1)).run Tryz.prog w=.ok (.int .u8 (a.getD i 0).toNat) w:=by
    have hx:=ha.at_ i hi
    simp only [part,Sem.run_bind,hag,Result.andThen_ok]
    simp [hx]
   have hq:(part 5 ss.toArray (i*1)).run Tryz.prog w=.ok (.int .u8 (b.getD i 0).toNat) w:=by
    have hx:=hb.at_ i hi
    simp only [part,Sem.run_bind,hag,Result.andThen_ok]
    simp [hx]
   have he:(Op.equalIn 9999 5 (.int .u8 ((a.getD i 0).toNat:Int)) (.int .u8 ((b.getD i 0).toNat:Int))).run Tryz.prog w=.ok (((a.getD i 0).toNat:Int) == ((b.getD i 0).toNat:Int)) w:=by
    rw[show (9999:Nat)=9998+1 from rfl,run_equalIn_int w 9998 5 .u8 .u8 _ _ Tryz.underlying5]
   rw[List.forIn_cons]
   by_cases hxy:a.getD i 0=b.getD i 0
   ·have hbb:(((a.getD i 0).toNat:Int) == ((b.getD i 0).toNat:Int))=true:=by rw[hxy];simp
    rw[hbb] at he
    simp only [Sem.run_bind,hp,hq,Result.andThen_ok,he,Bool.not_true,Bool.false_eq_true,if_false,Sem.run_pure]
    rw[ih (fun j hj=>hL j (by simp [hj]))]
    simp only [List.mem_cons,forall_eq_or_imp,hxy,true_and]
   ·have hbb:(((a.getD i 0).toNat:Int) == ((b.getD i 0).toNat:Int))=false:=by
     rw[beq_eq_false_iff_ne]
     intro hh
     exact hxy (UInt8.toNat_inj.1 (by omega))
    rw[hbb] at he
    simp only [Sem.run_bind,hp,hq,Result.andThen_ok,he,Bool.not_false,if_true,Sem.run_pure]
    simp only [List.mem_cons,forall_eq_or_imp,hxy,false_and,if_false]
 rw[key _ (fun i hi=>by simpa using (List.mem_range'_1.1 hi).2)]
 by_cases hab:a=b
 ·rw[if_pos (fun i _=>by rw[hab])]
  simp [hab]
 ·have hne:¬ ∀ i∈List.range' 0 n 1,a.getD i 0=b.getD i 0:=by
   intro hh
   apply hab
   apply List.ext_getElem (by rw[ha.2,hb.2])
   intro i h1 h2
   have h3:=hh i (by rw[List.mem_range'_1];have:=ha.2;omega)
   simpa [List.getD_eq_getElem?_getD,h1,h2] using h3
  rw[if_neg hne]
  simp [hab]
theorem Ld (b o cap:Nat) (hc:72≤cap) (W:World):(Instr.slice 22 (.slice (some ⟨b,o,none⟩) 72 cap) (some (.int .i64 8)) none none).run Tryz.prog W=.ok (.slice (some ⟨b,o+8,none⟩) 64 (cap - 8)) W:=by
 have hu:Tryz.prog.underlying 22=some (.slice (Tryz.prog.elem 22)):=by kernel_rfl
 have hs:(sizeOf (Tryz.prog.elem 22)).run Tryz.prog W=.ok 1 W:=by kernel_rfl
 rw[run_slice_l W _ (some ⟨b,o,none⟩) 72 cap hu .i64 8 (by omega) (by omega),hs]
 have h8:(8:Int).toNat=8:=rfl
 simp only [Result.andThen_ok,sliced,h8]
 rw[if_neg (by omega),Option.map_some,bD]
theorem Fc (b o cap:Nat) (hc:72≤cap) (W:World):(Instr.sliceAt 22 (.slice (some ⟨b,o,none⟩) 72 cap) (some (.int .i64 8)) none none).run Tryz.prog W=.ok (.slice (some ⟨b,o+8,none⟩) 64 (cap - 8)) W:=by
 have hu:Tryz.prog.underlying 22=some (.slice (Tryz.prog.elem 22)):=by kernel_rfl
 rw[run_sliceAt_slice W _ _ _ _ _ hu,Ld b o cap hc W]
theorem Arg.Mh {w:World} {b o c n:Nat} {bs:List UInt8} (h:Arg w (.slice (some ⟨b,o,none⟩) n c) bs) (hl:8≤bs.length):Arg w (.slice (some ⟨b,o,none⟩) 8 c) (bs.take 8):=by
 rcases h with ⟨A,e,hn⟩ | ⟨b',o',c',e,hb,hc,hs⟩
 ·rw[hn] at hl;exact absurd hl (by decide)
 ·injection e with e1 e2 e3
  injection e1 with e1
  injection e1 with e1 e4 _
  subst e1 e2 e3 e4
  have hl8:(bs.take 8).length=8:=by rw[List.length_take];omega
  refine .inr ⟨b,o,c,by rw[hl8],hb,by rw[hl8];omega,?_⟩
  have:=hs.piece 0 8
  rwa [List.drop_zero,Nat.add_zero,← List.map_take] at this
theorem Arg.JB {w:World} {b o c n:Nat} {bs:List UInt8} (h:Arg w (.slice (some ⟨b,o,none⟩) n c) bs) (hl:bs.length=72):Arg w (.slice (some ⟨b,o+8,none⟩) 64 (c - 8)) (bs.drop 8):=by
 rcases h with ⟨A,e,hn⟩ | ⟨b',o',c',e,hb,hc,hs⟩
 ·rw[hn] at hl;exact absurd hl (by decide)
 ·injection e with e1 e2 e3
  injection e1 with e1
  injection e1 with e1 e4 _
  subst e1 e2 e3 e4
  have hl8:(bs.drop 8).length=64:=by rw[List.length_drop];omega
  refine .inr ⟨b,o+8,c - 8,by rw[hl8],hb,by rw[hl8];omega,?_⟩
  have:=hs.tail 8
  rwa [← List.map_drop] at this
set_option maxRecDepth 100000
theorem yQ (ek mk:List UInt8) (ks:List Value) (hk:cz ek mk ks) (d:Int) (raw:List UInt8) (hp:raw.length=72) (x:Value) (tb:List UInt8) (ts:List Value) (hts:Vec 32 tb ts) (hne:tg mk (nm d) raw≠tb) (w:World) (hT:Hm.Tab w) (h:Arg w x raw) :
  Calls Tryz.prog 53 #[.agg ks.toArray,.int .i64 d,x,.agg ts.toArray] w fun e w'=>e=.returned (.tuple #[.slice none 0 0,.int .u64 0,.int .i64 10])∧Below w.heap.size w w':=by
 have HK:=ae hk
 have HV:=ae hts
 have Hzk:Hid (ks.toArray.size=48):=hk.size
 have Hzt:Hid (ts.toArray.size=32):=hts.size
 obtain ⟨w0,hw0⟩:∃ w0,w0=(w.alloc (.cells ks.toArray 29)).alloc (.cells ts.toArray 27):=⟨_,rfl⟩
 have HBL:Hid (Below w.heap.size w w0):=by rw[hw0];exact((Below.refl _ _).alloc (Nat.le_refl _) _).alloc (by simp) _
 have HBX:Hid (Row w0 w.heap.size 29 ks):=by rw[hw0];exact(Row.new w 29 ks).alloc _
 have HBT:Hid (Row w0 (w.heap.size+1) 27 ts):=by rw[hw0];exact Row.newAt 27 ts (by simp)
 have HSZ:Hid (w0.heap.size=w.heap.size+1+1):=by show _=_;rw[hw0];simp
 have HNE:Hid (∀ rs,Hid (Vec 32 (tg mk (nm d) raw) rs)→∀ W,(Op.equalIn 10000 27 (.agg rs.toArray) (.agg ts.toArray)).run Tryz.prog W=.ok false W):=fun rs hrs W=>by
  rw[qz 27 32 Tryz.underlying27 _ _ rs ts hrs.out HV.out W,decide_eq_false hne]
 clear hne
 have HP:=ae hp
 have HT:Hid (Hm.Tab w0):=hT.below HBL.out
 obtain ⟨b,o,cap,rfl,hcap⟩:∃ b o cap,x=.slice (some ⟨b,o,none⟩) 72 cap∧72≤cap:=by
  rcases h with ⟨A,e,hn⟩ | ⟨b,o,c,e,_,hc,_⟩
  ·rw[hn] at hp;exact absurd hp (by decide)
  ·exact⟨b,o,c,by rw[e,hp],by omega⟩
 have HA:Hid (Arg w0 (.slice (some ⟨b,o,none⟩) 72 cap) raw):=h.below HBL.out
 have ai:Hid (∀ W,Below w0.heap.size w0 W→W.rangeAt w.heap.size 0 ks∧W.rangeAt (w.heap.size+1) 0 ts):=fun W hW=>⟨dn (HBX.out.below hW HBX.out.lt),dn (HBT.out.below hW HBT.out.lt)⟩
 have hi1:(Tryz.prog.info? 29).map (·.size)=some ks.length:=by rw[HK.out.vec.len];kernel_rfl
 have hi2:(Tryz.prog.info? 27).map (·.size)=some ts.length:=by rw[HV.out.len];kernel_rfl
 clear h hk hp hT hts
 go_enter Tryz.func53,Tryz.ntmps53
 go_wp2
 rw[← hw0]
 clear hw0
 have hC:Below w0.heap.size w0 w0.drew:=below_drewN (Below.refl _ _) 1
 refine wp_region_held_drew (S:=(fun W=>W.rangeAt w.heap.size 0 ks∧W.rangeAt (w.heap.size+1) 0 ts)) (by kernel_rfl) (ai.out _ hC) (fun aa=>?_)
 generalize w0.drew=w0d at *
 refine tkh 0 15 (v:=.agg (ks).toArray) rfl aa ?_ (yieldsIf_load_mid (by rfl) 29 (.tmp 4) rfl (w.heap.size) 0 rfl (ks) _ (fun W h=>h.1) Tryz.underlying29 rfl hi1)
 try go_frame
 refine tkq 1 16 aa ?_
 try go_frame
 refine tkq 2 17 aa ?_
 try go_frame
 refine tkh 4 19 (v:=.agg (ts).toArray) rfl aa ?_ (yieldsIf_load_mid (by rfl) 27 (.tmp 7) rfl (w.heap.size+1) 0 rfl (ts) _ (fun W h=>h.2) Tryz.underlying27 rfl hi2)
 try go_frame
 refine rdq 3 18 fun K hK=>?_
 go_simp
 go_at_call 36
 refine(mM ek mk ks HK.out d raw (by rw[HP.out];omega) _ w0d (HT.out.below hC) (HA.out.below hC)).mono ?_
 rintro e Dc ⟨rs,Hrs,rfl,hb⟩
 replace hC:=hC.trans (hb.mono hC.size)
 refine hK.out _ _ (ai.out _ hC) (fun aa=>?_)
 clear hK K hb 
 have hte:=fun W=>HNE.out rs Hrs W
 try go_frame
 refine tkq 5 20 aa ?_
 try go_frame
 refine wpAnyH_done (by kernel_rfl) ?_ _
 have HC:=ae (HBL.out.trans (hC.mono HBL.out.size))
 clear hC ai aa hte HBX HBT
 go_wp2
 go_ret3
 exact⟨rfl,HC.out⟩
theorem Fw (ek mk:List UInt8) (ks:List Value) (hk:cz ek mk ks) (d:Int) (raw:List UInt8) (hp:raw.length=72) (x:Value) (tb:List UInt8) (ts:List Value) (hts:Vec 32 tb ts) (heq:tg mk (nm d) raw=tb) (w:World) (hT:Hm.Tab w) (h:Arg w x raw) :
  Calls Tryz.prog 53 #[.agg ks.toArray,.int .i64 d,x,.agg ts.toArray] w fun e w'=>∃ g,e=.returned (.tuple #[.slice (some ⟨g,0,none⟩) 64 64,.int .u64 ((ver raw:Nat):Int),.int .i64 0])∧w.heap.size≤g∧Hid (Row w' g 5 ((pl ek (nm d) raw).map V8))∧Below w.heap.size w w':=by
 have HK:=ae hk
 have HV:=ae hts
 have Hzk:Hid (ks.toArray.size=48):=hk.size
 have Hzt:Hid (ts.toArray.size=32):=hts.size
 obtain ⟨w0,hw0⟩:∃ w0,w0=(w.alloc (.cells ks.toArray 29)).alloc (.cells ts.toArray 27):=⟨_,rfl⟩
 have HBL:Hid (Below w.heap.size w w0):=by rw[hw0];exact((Below.refl _ _).alloc (Nat.le_refl _) _).alloc (by simp) _
 have HBX:Hid (Row w0 w.heap.size 29 ks):=by rw[hw0];exact(Row.new w 29 ks).alloc _
 have HBT:Hid (Row w0 (w.heap.size+1) 27 ts):=by rw[hw0];exact Row.newAt 27 ts (by simp)
 have HSZ:Hid (w0.heap.size=w.heap.size+1+1):=by show _=_;rw[hw0];simp
 have HEQ:Hid (∀ rs,Hid (Vec 32 (tg mk (nm d) raw) rs)→∀ W,(Op.equalIn 10000 27 (.agg rs.toArray) (.agg ts.toArray)).run Tryz.prog W=.ok true W):=fun rs hrs W=>by
  rw[qz 27 32 Tryz.underlying27 _ _ rs ts hrs.out HV.out W,decide_eq_true heq]
 clear heq
 have HP:=ae hp
 have HT:Hid (Hm.Tab w0):=hT.below HBL.out
 obtain ⟨b,o,cap,rfl,hcap⟩:∃ b o cap,x=.slice (some ⟨b,o,none⟩) 72 cap∧72≤cap:=by
  rcases h with ⟨A,e,hn⟩ | ⟨b,o,c,e,_,hc,_⟩
  ·rw[hn] at hp;exact absurd hp (by decide)
  ·exact⟨b,o,c,by rw[e,hp],by omega⟩
 have HA:Hid (Arg w0 (.slice (some ⟨b,o,none⟩) 72 cap) raw):=h.below HBL.out
 have ai:Hid (∀ W,Below w0.heap.size w0 W→W.rangeAt w.heap.size 0 ks∧W.rangeAt (w.heap.size+1) 0 ts):=fun W hW=>⟨dn (HBX.out.below hW HBX.out.lt),dn (HBT.out.below hW HBT.out.lt)⟩
 have hi1:(Tryz.prog.info? 29).map (·.size)=some ks.length:=by rw[HK.out.vec.len];kernel_rfl
 have hi2:(Tryz.prog.info? 27).map (·.size)=some ts.length:=by rw[HV.out.len];kernel_rfl
 clear h hk hp hT hts
 go_enter Tryz.func53,Tryz.ntmps53
 go_wp2
 rw[← hw0]
 clear hw0
 have hC:Below w0.heap.size w0 w0.drew:=below_drewN (Below.refl _ _) 1
 refine wp_region_held_drew (S:=(fun W=>W.rangeAt w.heap.size 0 ks∧W.rangeAt (w.heap.size+1) 0 ts)) (by kernel_rfl) (ai.out _ hC) (fun aa=>?_)
 generalize w0.drew=w0d at *
 refine tkh 0 15 (v:=.agg (ks).toArray) rfl aa ?_ (yieldsIf_load_mid (by rfl) 29 (.tmp 4) rfl (w.heap.size) 0 rfl (ks) _ (fun W h=>h.1) Tryz.underlying29 rfl hi1)
 try go_frame
 refine tkq 1 16 aa ?_
 try go_frame
 refine tkq 2 17 aa ?_
 try go_frame
 refine tkh 4 19 (v:=.agg (ts).toArray) rfl aa ?_ (yieldsIf_load_mid (by rfl) 27 (.tmp 7) rfl (w.heap.size+1) 0 rfl (ts) _ (fun W h=>h.2) Tryz.underlying27 rfl hi2)
 try go_frame
 refine rdq 3 18 fun K hK=>?_
 go_simp
 go_at_call 36
 refine(mM ek mk ks HK.out d raw (by rw[HP.out];omega) _ w0d (HT.out.below hC) (HA.out.below hC)).mono ?_
 rintro e Dc ⟨rs,Hrs,rfl,hb⟩
 replace hC:=hC.trans (hb.mono hC.size)
 refine hK.out _ _ (ai.out _ hC) (fun aa=>?_)
 clear hK K hb 
 have hte:=fun W=>HEQ.out rs Hrs W
 try go_frame
 refine tkq 5 20 aa ?_
 try go_frame
 refine wpAnyH_done (by kernel_rfl) ?_ _
 have HC:=ae (HBL.out.trans (hC.mono HBL.out.size))
 have HB2:=ae (HBX.out.below hC HBX.out.lt)
 have HT2:=ae (HBT.out.below hC HBT.out.lt)
 have HA2:=ae (HA.out.below hC)
 clear hC ai aa hte HBX HBT HA HT Hrs HBL
 generalize Dc=w1 at *
 have HA7:Hid (Arg w1 (.slice (some ⟨b,o,none⟩) 8 cap) (raw.take 8)):=HA2.out.Mh (by rw[HP.out];omega)
 go_wp2_with fail
 refine(Cw (raw.take 8) (by rw[List.length_take];omega) _ w1 HA7.out).mono ?_
 rintro e w2 ⟨rfl,hb2⟩
 rw[show num (raw.take 8)=ver raw from rfl]
 have HA8:Hid (Arg w2 (.slice (some ⟨b,o+8,none⟩) 64 (cap - 8)) (raw.drop 8)):=(HA2.out.below hb2).JB HP.out
 obtain ⟨V,HV1⟩:∃ V,Hid (V=ver raw):=⟨_,rfl⟩
 obtain ⟨D8,HD8⟩:∃ D,Hid (D=raw.drop 8):=⟨_,rfl⟩
 have KV:V<2 ^ 64:=by rw[HV1.out];exact Dd raw
 have HLd:Hid (D8.length=64):=by show _=_;rw[HD8.out,List.length_drop,HP.out]
 rw[← HV1.out]
 rw[← HD8.out] at HA8
 replace HC:=ae (HC.out.trans (hb2.mono HC.out.size))
 replace HB2:=ae (HB2.out.below hb2 HB2.out.lt)
 replace HT2:=ae (HT2.out.below hb2 HT2.out.lt)
 have ai:Hid (∀ W,Below w2.heap.size w2 W→W.rangeAt w.heap.size 0 ks∧W.rangeAt (w.heap.size+1) 0 ts):=fun W hW=>⟨dn (HB2.out.below hW HB2.out.lt),dn (HT2.out.below hW HT2.out.lt)⟩
 have hs3:=HC.out.size
 clear HA7 HA2 hb2
 go_wp2
 have hC:Below w2.heap.size w2 w2.drew:=below_drewN (Below.refl _ _) 1
 refine wp_region_held_drew (S:=(fun W=>W.rangeAt w.heap.size 0 ks∧W.rangeAt (w.heap.size+1) 0 ts)) (by kernel_rfl) (ai.out _ hC) (fun aa=>?_)
 generalize w2.drew=w2d at *
 refine tkh 0 24 (v:=.agg (ks).toArray) rfl aa ?_ (yieldsIf_load_mid (by rfl) 29 (.tmp 4) rfl (w.heap.size) 0 rfl (ks) _ (fun W h=>h.1) Tryz.underlying29 rfl hi1)
 try go_frame
 refine tkq 1 25 aa ?_
 try go_frame
 refine tkq 2 26 aa ?_
 try go_frame
 refine tkq 3 27 aa ?_
 try go_frame
 refine tkh 4 28 rfl aa ?_ (Or.inl ⟨by rfl,by intro w hSw;have hsl:=Ld b o cap hcap w;have ny:=Fc b o cap hcap w;go_simp;with_reducible rfl⟩)
 try go_frame
 refine tkq 6 30 aa ?_
 try go_frame
 refine rdq 5 29 fun K hK=>?_
 go_simp
 go_at_call 94
 have hs4:=hC.size
 refine(sI ek mk ks HK.out d V KV D8 _ (by rw[HLd.out];omega) w2d (HA8.out.below hC)).mono ?_
 rintro e Pm ⟨g,rfl,hg,Fy,hb⟩
 replace hC:=hC.trans (hb.mono hC.size)
 refine hK.out _ _ (ai.out _ hC) (fun aa=>?_)
 clear hK K hb 
 rw[HLd.out]
 try go_frame
 refine tkq 7 8 aa ?_
 try go_frame
 refine tkq 8 9 aa ?_
 try go_frame
 refine tkq 9 10 aa ?_
 try go_frame
 refine wpAnyH_done (by kernel_rfl) ?_ _
 have HC2:=ae (HC.out.trans (hC.mono HC.out.size))
 rw[HD8.out,HV1.out] at Fy
 clear aa ai hC
 go_wp2
 go_ret3
 exact⟨g,by rw[HV1.out];rfl,by omega,Fy,HC2.out⟩
set_option maxRecDepth 512
theorem Gm (x:Nat) (hx:x<2 ^ 64) (w:World) :
  Calls Tryz.prog 95 #[.int .u64 (x:Int),.int .i64 8] w fun e w'=>∃ v,e=.returned v∧Hid (Own w' w.heap.size 5 v ((big 8 x).map V8))∧Below w.heap.size w w':=o8 8 (by omega) x hx w
set_option maxRecDepth 100000
theorem wM (p:Nat) (ek mk:List UInt8) (hek:ek.length=16) (d:Int) (v:Nat) (hv:v<2 ^ 64) (b:List UInt8) (hbl:b.length≤1000) (x:Value) (w0:World) (hM:lY w0 p ek mk) (h:Arg w0 x b) :
  Calls Tryz.prog 83 #[.pointer (some ⟨p,0,none⟩),.int .i64 d,.int .u64 v,x] w0 fun e w'=>∃ r,e=.returned r∧Hid (Own w' w0.heap.size 5 r ((rw_ ek (nm d) v b).map V8))∧Below w0.heap.size w0 w':=by
 obtain ⟨A,cap,rfl⟩:=h.form
 obtain ⟨n,hnl⟩:∃ n,n=b.length:=⟨_,rfl⟩
 rw[← hnl] at h ⊢
 have HNl:=ae hnl
 have HV:=ae h
 obtain ⟨va,vb,pe,pm,hp,hs,hva,hvb,hke,hkm⟩:=hM
 obtain ⟨gm,rb,rc,cb,cc,rfl,hin⟩:=hkm.named
 have HKE:=ae hke
 have HKM:=ae hkm
 have HBl:=ae hbl
 have I1:Hid (((big 8 v).map V8).length+((code ek (nnc (nm d) v) b).map V8).length≤100000000):=by show _≤_;rw[List.length_map,List.length_map,aU,bC];omega
 have ai:Hid (∀ W,Below w0.heap.size w0 W→W.cell? ⟨p,2,none⟩=some (.pointer (some ⟨pe,0,none⟩))):=fun W hW=>(hs.below hW hp) 2 _ rfl
 clear hin hnl h hs hva hvb hke hkm hp hbl HKM
 go_enter Tryz.func83,Tryz.ntmps83
 go_wp2
 have hC:Below w0.heap.size w0 w0.drew:=below_drewN (Below.refl _ _) 1
 refine wp_region_held_drew (S:=(fun W=>W.cell? ⟨p,2,none⟩=some (.pointer (some ⟨pe,0,none⟩)))) (by kernel_rfl) (ai.out _ hC) (fun aa=>?_)
 generalize w0.drew=w0d at *
 refine tkq 0 9 aa ?_
 try go_frame
 refine tkq 2 11 aa ?_
 try go_frame
 refine tkq 3 12 aa ?_
 try go_frame
 refine tkq 4 13 aa ?_
 try go_frame
 refine tkq 5 14 aa ?_
 try go_frame
 refine tkq 6 15 aa ?_
 try go_frame
 refine tkq 7 16 aa ?_
 try go_frame
 refine tkq 9 18 aa ?_
 try go_frame
 refine rdq 1 10 fun K hK=>?_
 go_simp
 go_at_call 95
 refine(Gm v hv w0d).mono ?_
 rintro e bT ⟨nv,rfl,qX,hb⟩
 have nO:Hid (Own bT w0.heap.size 5 nv ((big 8 v).map V8)):=qX.out.base hC.size
 replace hC:=hC.trans (hb.mono hC.size)
 refine hK.out _ _ (ai.out _ hC) (fun aa=>?_)
 clear hK K hb 
 clear qX
 try go_frame
 refine rdq 8 17 fun K hK=>?_
 go_simp
 go_at_call 97
 refine(qG d (nm d) (tR d) v hv bT).mono ?_
 rintro e rI ⟨ov,rfl,Gr,hb⟩
 have zr:Hid (Arg rI ov (nnc (nm d) v)):=Gr.out
 replace hC:=hC.trans (hb.mono hC.size)
 replace nO:=ae (nO.out.below hb (Nat.le_refl _))
 refine hK.out _ _ (ai.out _ hC) (fun aa=>?_)
 clear hK K hb 
 clear Gr
 try go_frame
 refine rdq 10 19 fun K hK=>?_
 go_simp
 go_at_call 96
 refine(sK pe ek (nnc (nm d) v) b hek (lS _ _) HBl.out _ _ rI (HKE.out.below hC) zr.out (HV.out.below hC)).mono ?_
 rintro e s5 ⟨cv,rfl,Gs,hb⟩
 have Gg:Hid (Arg s5 cv (code ek (nnc (nm d) v) b)):=Gs.out
 replace hC:=hC.trans (hb.mono hC.size)
 replace nO:=ae (nO.out.below hb (Nat.le_refl _))
 replace zr:=ae (zr.out.below hb)
 refine hK.out _ _ (ai.out _ hC) (fun aa=>?_)
 clear hK K hb 
 clear Gs
 try go_frame
 refine rdq 11 20 fun K hK=>?_
 have hs0:=hC.size
 refine cK rfl (.tmp 10) (.tmp 19) 22 rfl w0.heap.size 5 Tryz.underlying22 bK rfl (by decide) _ (List.map V8 (big 8 v)) rfl nO.out _ (List.map V8 (code ek (nnc (nm d) v) b)) rfl (dy Gg.out) (bI _) I1.out hs0 ?_
 intro JP oG hown hg _
 replace hC:=au hC nO.out hg (Nat.le_refl _) hs0
 have FA:Hid (Own oG w0.heap.size 5 JP ((big 8 v++code ek (nnc (nm d) v) b).map V8)):=by show Own _ _ _ _ _;rw[List.map_append];exact hown
 clear hown hg nO Gg
 refine hK.out _ _ (ai.out _ hC) (fun aa=>?_)
 clear hK K
 try go_frame
 refine tkq 12 8 aa ?_
 try go_frame
 refine wpAnyH_done (by kernel_rfl) ?_ _
 clear ai aa
 go_wp2
 go_ret
 exact⟨_,rfl,FA.out,hC⟩
theorem yS (p:Nat) (ek mk:List UInt8) (hek:ek.length=16) (d:Int) (raw:List UInt8) (hrl:raw.length=72) (x:Value) (w0:World) (hM:lY w0 p ek mk) (h:Arg w0 x raw) :
  Calls Tryz.prog 55 #[.pointer (some ⟨p,0,none⟩),.int .i64 d,x] w0 fun e w'=>∃ r,e=.returned (.tuple #[r,.int .u64 ((ver raw:Nat):Int)])∧Hid (Arg w' r (pl ek (nm d) raw))∧Below w0.heap.size w0 w':=by
 obtain ⟨b,o,cap,rfl,hcap⟩:∃ b o cap,x=.slice (some ⟨b,o,none⟩) 72 cap∧72≤cap:=by
  rcases h with ⟨A,e,hn⟩ | ⟨b,o,c,e,_,hc,_⟩
  ·rw[hn] at hrl;exact absurd hrl (by decide)
  ·exact⟨b,o,c,by rw[e,hrl],by omega⟩
 obtain ⟨va,vb,pe,pm,hp,hs,hva,hvb,hke,hkm⟩:=hM
 obtain ⟨gm,rb,rc,cb,cc,rfl,hin⟩:=hkm.named
 have HKE:=ae hke
 have HP:=ae hrl
 have ai:Hid (∀ W,Below w0.heap.size w0 W→W.cell? ⟨p,2,none⟩=some (.pointer (some ⟨pe,0,none⟩))):=fun W hW=>(hs.below hW hp) 2 _ rfl
 have HC:Hid (∀ j,j<72→w0.cell? ⟨b,o+j,none⟩=some (.int .u8 (raw.getD j 0).toNat)):=fun j hj=>by
  rcases h with ⟨A,e,hn⟩ | ⟨b',o',c',e,_,_,cd⟩
  ·rw[hn] at hrl;exact absurd hrl (by decide)
  ·injection e with e1 _ _
   injection e1 with e1
   injection e1 with e1 e2 _
   subst e1 e2
   exact at8 cd j (by omega)
 have HA8:Hid (Arg w0 (.slice (some ⟨b,o+8,none⟩) 64 (cap - 8)) (raw.drop 8)):=h.JB hrl
 clear hin hrl h hs hva hvb hke hkm hp
 go_enter Tryz.func55,Tryz.ntmps55
 go_wp2
 go_loop [8,9] (fun s i=>∃ (k a:Nat),k≤8∧i=.int .i64 k∧s=.int .u64 a∧Hid (a=num (raw.take k))) (fun _ i=>8 - (intOf i).toNat)
 case atStart=>exact⟨0,0,by omega,rfl,rfl,by show _=_;simp [num]⟩
 case round =>
  obtain ⟨k,a,hk,rfl,rfl,Ha⟩:=hrel
  by_cases hlt:k<8
  ·have hx:=HC.out k (by omega)
   have Htk:=ae (pP raw k (by rw[HP.out];omega))
   have ha:a<2 ^ 56:=by
    rw[Ha.out]
    have h1:=tP (raw.take k) 7 (by rw[List.length_take];omega)
    have:(256:Nat) ^ 7=2 ^ 56:=by decide
    omega
   clear HC HA8 HKE ai
   generalize raw.getD k 0=y at *
   have hy8:=lt8 y
   go_wp2
   go_round
   case rel =>
    refine⟨k+1,a*256+y.toNat,by omega,by go_num,by go_num,?_⟩
    show _=_
    rw[Htk.out,Ha.out]
   case measure=>simp [intOf];omega
  ·obtain rfl:k=8:=by omega
   obtain ⟨V,HVe⟩:∃ V,Hid (V=ver raw):=⟨_,rfl⟩
   have e:a=V:=by rw[Ha.out,HVe.out];rfl
   subst e
   obtain ⟨D8,HD8⟩:∃ D,Hid (D=raw.drop 8):=⟨_,rfl⟩
   have KV:a<2 ^ 64:=by rw[HVe.out];exact Dd raw
   have HLd:Hid (D8.length=64):=by show _=_;rw[HD8.out,List.length_drop,HP.out]
   rw[← HD8.out] at HA8
   clear HC Ha
   go_wp2
   have hC:Below w0.heap.size w0 w0.drew:=below_drewN (Below.refl _ _) 1
   refine wp_region_held_drew (S:=(fun W=>W.cell? ⟨p,2,none⟩=some (.pointer (some ⟨pe,0,none⟩)))) (by kernel_rfl) (ai.out _ hC) (fun aa=>?_)
   generalize w0.drew=w0d at *
   refine tkq 0 22 aa ?_
   try go_frame
   refine tkq 1 23 aa ?_
   try go_frame
   refine tkq 2 24 aa ?_
   try go_frame
   refine tkq 3 25 aa ?_
   try go_frame
   refine tkq 4 26 aa ?_
   try go_frame
   refine tkq 5 27 aa ?_
   try go_frame
   refine tkq 7 29 aa ?_
   try go_frame
   refine tkh 8 30 rfl aa ?_ (Or.inl ⟨by rfl,by intro w hSw;have hsl:=Ld b o cap hcap w;have ny:=Fc b o cap hcap w;go_simp;with_reducible rfl⟩)
   try go_frame
   refine tkq 10 32 aa ?_
   try go_frame
   refine rdq 6 28 fun K hK=>?_
   go_simp
   go_at_call 97
   refine(qG d (nm d) (tR d) a KV w0d).mono ?_
   rintro e s4 ⟨ov,rfl,Gr,hb⟩
   have zr:Hid (Arg s4 ov (nnc (nm d) a)):=Gr.out
   replace hC:=hC.trans (hb.mono hC.size)
   refine hK.out _ _ (ai.out _ hC) (fun aa=>?_)
   clear hK K hb 
   clear Gr
   try go_frame
   refine rdq 9 31 fun K hK=>?_
   go_simp
   go_at_call 96
   refine(sK pe ek (nnc (nm d) a) D8 hek (lS _ _) (by rw[HLd.out];omega) _ _ s4 (HKE.out.below hC) zr.out (HA8.out.below hC)).mono ?_
   rintro e AW ⟨cv,rfl,Gs,hb⟩
   replace hC:=hC.trans (hb.mono hC.size)
   replace zr:=ae (zr.out.below hb)
   refine hK.out _ _ (ai.out _ hC) (fun aa=>?_)
   clear hK K hb 
   try go_frame
   refine tkq 11 6 aa ?_
   try go_frame
   refine tkq 12 7 aa ?_
   try go_frame
   refine wpAnyH_done (by kernel_rfl) ?_ _
   rw[HD8.out,HVe.out] at Gs
   clear ai aa
   go_wp2
   go_ret2
   exact⟨cv,by rw[HVe.out];rfl,Gs,hC⟩
end Go.Proofs.YthbmknpbcgnabaaGreatDoor
