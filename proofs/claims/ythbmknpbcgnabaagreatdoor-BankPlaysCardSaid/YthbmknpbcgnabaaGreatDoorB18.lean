/- Of the walk. -/
import Derived.Test.YthbmknpbcgnabaaGreatDoorB17
set_option maxHeartbeats 40000000
namespace Go.Proofs.YthbmknpbcgnabaaGreatDoor
open Go.RowKit Aes Ctr Sl
theorem Fo (k n:Nat):jC k n=big k n:=rfl
theorem Gn (k x:Nat) (z:Int) (hz:z=((x:Nat):Int)) (hx:x<2 ^ 64) (hk:0<k) (hk2:k≤100) (w:World) :
  Calls Tryz.prog 95 #[.int .u64 z,.int .i64 k] w fun e w'=>∃ g c,e=.returned (.slice (some ⟨g,0,none⟩) k c)∧Hid (Arg w' (.slice (some ⟨g,0,none⟩) k c) (big k x))∧Below w.heap.size w w':=by
 refine(Gp k hk2 x hx z hz w).mono ?_
 rintro e w' ⟨v,rfl,hown,hb⟩
 have hl:((jC k x).map V8).length=k:=by rw[List.length_map,Fo,aU]
 obtain ⟨g,c,hv,_,_,_,_⟩:=hown.out.cM (by omega)
 rw[hl] at hv
 subst hv
 exact⟨g,c,rfl,hown.out.arg,hb⟩
theorem nT (x:Nat) (z:Int) (hz:z=((x:Nat):Int)) (hx:x<2 ^ 64) (w:World) :
  Calls Tryz.prog 95 #[.int .u64 z,.int .i64 4] w fun e w'=>∃ g c,e=.returned (.slice (some ⟨g,0,none⟩) 4 c)∧Hid (Arg w' (.slice (some ⟨g,0,none⟩) 4 c) (big 4 x))∧Below w.heap.size w w':=Gn 4 x z hz hx (by omega) (by omega) w
set_option maxRecDepth 100000
theorem nN (p:Nat) (ek mk:List UInt8) (d:Int) (raw:List UInt8) (hr:raw.length≤1000) (v:Value) (w0:World) (hM:lY w0 p ek mk) (h:Arg w0 v raw) :
  Calls Tryz.prog 54 #[.pointer (some ⟨p,0,none⟩),.int .i64 d,v] w0 fun e w'=>e=.returned (.string (aw (tg mk (nm d) raw)))∧Below w0.heap.size w0 w':=by
 obtain ⟨A,cap,rfl⟩:=h.form
 obtain ⟨n,hnl⟩:∃ n,n=raw.length:=⟨_,rfl⟩
 rw[← hnl] at h ⊢
 have HNl:=ae hnl
 have HV:=ae h
 obtain ⟨va,vb,pe,pm,hp,hs,hva,hvb,hke,hkm⟩:=hM
 obtain ⟨gm,rb,rc,cb,cc,rfl,hin⟩:=hkm.named
 have HKE:=ae hke
 have HKM:=ae hkm
 have HR:=ae hr
 have ai:Hid (∀ W,Below w0.heap.size w0 W→W.cell? ⟨p,3,none⟩=some (.pointer (some ⟨gm,0,none⟩))):=fun W hW=>(hs.below hW hp) 3 _ rfl
 obtain ⟨J,HJ⟩:∃ J,Hid (J=Hm.joined [a6,big 4 (nm d),raw]):=⟨_,rfl⟩
 have HJl:Hid (J.length≤900000):=by show _≤_;rw[HJ.out];have:=(lL (nm d) raw hr).joined;omega
 clear hin hnl h hs hva hvb hke hkm hr hp
 go_enter Tryz.func54,Tryz.ntmps54
 go_wp2
 have hC:Below w0.heap.size w0 w0.drew:=below_drewN (Below.refl _ _) 1
 refine wp_region_held_drew (S:=(fun W=>W.cell? ⟨p,3,none⟩=some (.pointer (some ⟨gm,0,none⟩)))) (by kernel_rfl) (ai.out _ hC) (fun aa=>?_)
 generalize w0.drew=w0d at *
 refine tkq 0 7 aa ?_
 try go_frame
 refine tkq 1 8 aa ?_
 try go_frame
 refine tkq 2 9 aa ?_
 try go_frame
 refine tkq 3 10 aa ?_
 try go_frame
 refine tkq 6 13 aa ?_
 try go_frame
 refine tkq 7 14 aa ?_
 try go_frame
 refine tkq 9 16 aa ?_
 try go_frame
 refine wpAnyH_ready (rs:=[4,8]) (by kernel_rfl) (by simp) ?_
 refine AllReadyH.cons (o:=⟨some 11,_,_,_,_,_⟩) rfl (fun K hK=>?_) ?_
 ·skip
  go_simp
  have hb:Below w0d.heap.size w0d (w0d.alloc (.cells #[.int .u8 108,.int .u8 101,.int .u8 97,.int .u8 102] 5)):=Joins.below_alloc1 _ _
  have fH:=hC.size
  obtain ⟨aV,eL⟩:∃ g,Hid (g=w0d.heap.size):=⟨_,rfl⟩
  have dP:Hid (Row (w0d.alloc (.cells #[.int .u8 108,.int .u8 101,.int .u8 97,.int .u8 102] 5)) w0d.heap.size 5 (a6.map V8)):=Row.new w0d 5 (a6.map V8)
  replace hC:=hC.trans (hb.mono hC.size)
  refine hK.out _ _ (ai.out _ hC) (fun aa=>?_)
  clear hK K hb
  generalize (w0d.alloc (.cells #[.int .u8 108,.int .u8 101,.int .u8 97,.int .u8 102] 5))=dI at *
  rw[← eL.out] at fH ⊢
  rw[← eL.out] at dP
  clear eL
  try go_frame
  refine wpAnyH_ready (rs:=[5,8]) (by kernel_rfl) (by simp) ?_
  refine AllReadyH.cons (o:=⟨some 12,_,_,_,_,_⟩) rfl (fun K hK=>?_) ?_
  ·skip
   have hcv:=run_mark aV 4 4 a6 dI dP.out
   go_simp
   clear hcv
   have hb0:=hC.trans (dW dI _ aV (List.length a6) fH)
   have bP:Hid (Arg (dI.freeze ⟨aV,List.length a6,none⟩ 1) (.slice (some ⟨aV,0,none⟩) 4 4) (a6)):=fG dI aV _ dP.out 4 rfl
   clear dP
   replace hC:=hb0
   refine hK.out _ _ (ai.out _ hC) (fun aa=>?_)
   clear hK K hb0
   generalize (dI.freeze ⟨aV,List.length a6,none⟩ 1)=df at *
   try go_frame
   refine rdq 8 15 fun K hK=>?_
   go_simp
   go_at_call 95
   refine(nT (nm d) _ (kU d) (si d) df).mono ?_
   rintro e aM ⟨gn,cn,rfl,qX,hb⟩
   have bY:Hid (Arg aM (.slice (some ⟨gn,0,none⟩) 4 cn) (big 4 (nm d))):=qX.out
   replace hC:=hC.trans (hb.mono hC.size)
   replace bP:=ae (bP.out.below hb)
   refine hK.out _ _ (ai.out _ hC) (fun aa=>?_)
   clear hK K hb 
   clear qX
   try go_frame
   refine rdq 10 17 fun K hK=>?_
   go_simp
   have hb:Below aM.heap.size aM (aM.alloc (.cells #[.slice (some ⟨aV,0,none⟩) 4 4,.slice (some ⟨gn,0,none⟩) 4 cn,.slice A n cap] 22)):=Joins.below_alloc1 _ _
   have iL:=hC.size
   obtain ⟨yu,cO⟩:∃ g,Hid (g=aM.heap.size):=⟨_,rfl⟩
   have cR:Hid (Hm.dz (aM.alloc (.cells #[.slice (some ⟨aV,0,none⟩) 4 4,.slice (some ⟨gn,0,none⟩) 4 cn,.slice A n cap] 22)) (.slice (some ⟨aM.heap.size,0,none⟩) 3 3) [a6,big 4 (nm d),raw]):=mZ bP.out bY.out (HV.out.below hC)
   replace hC:=hC.trans (hb.mono hC.size)
   replace bP:=ae (bP.out.below hb)
   replace bY:=ae (bY.out.below hb)
   refine hK.out _ _ (ai.out _ hC) (fun aa=>?_)
   clear hK K hb
   generalize (aM.alloc (.cells #[.slice (some ⟨aV,0,none⟩) 4 4,.slice (some ⟨gn,0,none⟩) 4 cn,.slice A n cap] 22))=gQ at *
   rw[← cO.out] at iL ⊢
   rw[← cO.out] at cR
   clear cO
   try go_frame
   refine rdq 11 18 fun K hK=>?_
   go_simp
   go_at_call 42
   refine(Hm.gp _ _ _ _ (lL (nm d) raw HR.out) gQ cR.out).mono ?_
   rintro e iE ⟨jv,rfl,hown,hb⟩
   have qP:Hid (Arg iE jv J):=(by show Arg _ _ _;rw[HJ.out];exact iK.1 (Hm.Own.arg hown))
   replace hC:=hC.trans (hb.mono hC.size)
   replace bP:=ae (bP.out.below hb)
   replace bY:=ae (bY.out.below hb)
   replace cR:=ae (cR.out.below hb)
   refine hK.out _ _ (ai.out _ hC) (fun aa=>?_)
   clear hK K hb 
   clear hown cR bP bY
   try go_frame
   refine rdq 12 19 fun K hK=>?_
   go_simp
   go_at_call 41
   refine(Hm.jF _ mk _ J HJl.out iE (HKM.out.below hC) qP.out).mono ?_
   rintro e kg ⟨kv,rfl,hown,hb⟩
   have xk:Hid (Arg kg kv (tg mk (nm d) raw)):=(by show Arg _ _ _;rw[tg,← HJ.out];exact iK.1 (Hm.Own.arg hown))
   replace hC:=hC.trans (hb.mono hC.size)
   replace qP:=ae (qP.out.below hb)
   refine hK.out _ _ (ai.out _ hC) (fun aa=>?_)
   clear hK K hb 
   clear hown
   try go_frame
   refine rdq 13 20 fun K hK=>?_
   have hcv:=bS xk.out
   go_simp
   clear hcv
   refine hK.out _ _ (ai.out _ hC) (fun aa=>?_)
   clear hK K
   try go_frame
   refine tkq 14 6 aa ?_
   try go_frame
   refine wpAnyH_done (by kernel_rfl) ?_ _
   clear ai aa xk
   go_wp2
   go_ret
   exact⟨rfl,hC⟩
  refine AllReadyH.cons (o:=⟨some 15,_,_,_,_,_⟩) rfl (fun K hK=>?_) ?_
  ·skip
   go_simp
   go_at_call 95
   refine(nT (nm d) _ (kU d) (si d) dI).mono ?_
   rintro e bZ ⟨gn,cn,rfl,qX,hb⟩
   have bY:Hid (Arg bZ (.slice (some ⟨gn,0,none⟩) 4 cn) (big 4 (nm d))):=qX.out
   replace hC:=hC.trans (hb.mono hC.size)
   replace dP:=ae (dP.out.below hb dP.out.lt)
   refine hK.out _ _ (ai.out _ hC) (fun aa=>?_)
   clear hK K hb 
   clear qX
   try go_frame
   refine rdq 5 12 fun K hK=>?_
   have hcv:=run_mark aV 4 4 a6 bZ dP.out
   go_simp
   clear hcv
   have hb0:=hC.trans (dW bZ _ aV (List.length a6) fH)
   have bP:Hid (Arg (bZ.freeze ⟨aV,List.length a6,none⟩ 1) (.slice (some ⟨aV,0,none⟩) 4 4) (a6)):=fG bZ aV _ dP.out 4 rfl
   clear dP
   replace bY:=ae (bY.out.mark aV (List.length a6))
   replace hC:=hb0
   refine hK.out _ _ (ai.out _ hC) (fun aa=>?_)
   clear hK K hb0
   generalize (bZ.freeze ⟨aV,List.length a6,none⟩ 1)=aZ at *
   try go_frame
   refine rdq 10 17 fun K hK=>?_
   go_simp
   have hb:Below aZ.heap.size aZ (aZ.alloc (.cells #[.slice (some ⟨aV,0,none⟩) 4 4,.slice (some ⟨gn,0,none⟩) 4 cn,.slice A n cap] 22)):=Joins.below_alloc1 _ _
   have iL:=hC.size
   obtain ⟨yu,cO⟩:∃ g,Hid (g=aZ.heap.size):=⟨_,rfl⟩
   have cR:Hid (Hm.dz (aZ.alloc (.cells #[.slice (some ⟨aV,0,none⟩) 4 4,.slice (some ⟨gn,0,none⟩) 4 cn,.slice A n cap] 22)) (.slice (some ⟨aZ.heap.size,0,none⟩) 3 3) [a6,big 4 (nm d),raw]):=mZ bP.out bY.out (HV.out.below hC)
   replace hC:=hC.trans (hb.mono hC.size)
   replace bY:=ae (bY.out.below hb)
   replace bP:=ae (bP.out.below hb)
   refine hK.out _ _ (ai.out _ hC) (fun aa=>?_)
   clear hK K hb
   generalize (aZ.alloc (.cells #[.slice (some ⟨aV,0,none⟩) 4 4,.slice (some ⟨gn,0,none⟩) 4 cn,.slice A n cap] 22))=gP at *
   rw[← cO.out] at iL ⊢
   rw[← cO.out] at cR
   clear cO
   try go_frame
   refine rdq 11 18 fun K hK=>?_
   go_simp
   go_at_call 42
   refine(Hm.gp _ _ _ _ (lL (nm d) raw HR.out) gP cR.out).mono ?_
   rintro e iD ⟨jv,rfl,hown,hb⟩
   have qP:Hid (Arg iD jv J):=(by show Arg _ _ _;rw[HJ.out];exact iK.1 (Hm.Own.arg hown))
   replace hC:=hC.trans (hb.mono hC.size)
   replace bY:=ae (bY.out.below hb)
   replace bP:=ae (bP.out.below hb)
   replace cR:=ae (cR.out.below hb)
   refine hK.out _ _ (ai.out _ hC) (fun aa=>?_)
   clear hK K hb 
   clear hown cR bP bY
   try go_frame
   refine rdq 12 19 fun K hK=>?_
   go_simp
   go_at_call 41
   refine(Hm.jF _ mk _ J HJl.out iD (HKM.out.below hC) qP.out).mono ?_
   rintro e kf ⟨kv,rfl,hown,hb⟩
   have xk:Hid (Arg kf kv (tg mk (nm d) raw)):=(by show Arg _ _ _;rw[tg,← HJ.out];exact iK.1 (Hm.Own.arg hown))
   replace hC:=hC.trans (hb.mono hC.size)
   replace qP:=ae (qP.out.below hb)
   refine hK.out _ _ (ai.out _ hC) (fun aa=>?_)
   clear hK K hb 
   clear hown
   try go_frame
   refine rdq 13 20 fun K hK=>?_
   have hcv:=bS xk.out
   go_simp
   clear hcv
   refine hK.out _ _ (ai.out _ hC) (fun aa=>?_)
   clear hK K
   try go_frame
   refine tkq 14 6 aa ?_
   try go_frame
   refine wpAnyH_done (by kernel_rfl) ?_ _
   clear ai aa xk
   go_wp2
   go_ret
   exact⟨rfl,hC⟩
  exact AllReadyH.nil
 refine AllReadyH.cons (o:=⟨some 15,_,_,_,_,_⟩) rfl (fun K hK=>?_) ?_
 ·skip
  go_simp
  go_at_call 95
  refine(nT (nm d) _ (kU d) (si d) w0d).mono ?_
  rintro e bT ⟨gn,cn,rfl,qX,hb⟩
  have bY:Hid (Arg bT (.slice (some ⟨gn,0,none⟩) 4 cn) (big 4 (nm d))):=qX.out
  replace hC:=hC.trans (hb.mono hC.size)
  refine hK.out _ _ (ai.out _ hC) (fun aa=>?_)
  clear hK K hb 
  clear qX
  try go_frame
  refine rdq 4 11 fun K hK=>?_
  go_simp
  have hb:Below bT.heap.size bT (bT.alloc (.cells #[.int .u8 108,.int .u8 101,.int .u8 97,.int .u8 102] 5)):=Joins.below_alloc1 _ _
  have fH:=hC.size
  obtain ⟨aV,eL⟩:∃ g,Hid (g=bT.heap.size):=⟨_,rfl⟩
  have dP:Hid (Row (bT.alloc (.cells #[.int .u8 108,.int .u8 101,.int .u8 97,.int .u8 102] 5)) bT.heap.size 5 (a6.map V8)):=Row.new bT 5 (a6.map V8)
  replace hC:=hC.trans (hb.mono hC.size)
  replace bY:=ae (bY.out.below hb)
  refine hK.out _ _ (ai.out _ hC) (fun aa=>?_)
  clear hK K hb
  generalize (bT.alloc (.cells #[.int .u8 108,.int .u8 101,.int .u8 97,.int .u8 102] 5))=dH at *
  rw[← eL.out] at fH ⊢
  rw[← eL.out] at dP
  clear eL
  try go_frame
  refine rdq 5 12 fun K hK=>?_
  have hcv:=run_mark aV 4 4 a6 dH dP.out
  go_simp
  clear hcv
  have hb0:=hC.trans (dW dH _ aV (List.length a6) fH)
  have bP:Hid (Arg (dH.freeze ⟨aV,List.length a6,none⟩ 1) (.slice (some ⟨aV,0,none⟩) 4 4) (a6)):=fG dH aV _ dP.out 4 rfl
  clear dP
  replace bY:=ae (bY.out.mark aV (List.length a6))
  replace hC:=hb0
  refine hK.out _ _ (ai.out _ hC) (fun aa=>?_)
  clear hK K hb0
  generalize (dH.freeze ⟨aV,List.length a6,none⟩ 1)=aY at *
  try go_frame
  refine rdq 10 17 fun K hK=>?_
  go_simp
  have hb:Below aY.heap.size aY (aY.alloc (.cells #[.slice (some ⟨aV,0,none⟩) 4 4,.slice (some ⟨gn,0,none⟩) 4 cn,.slice A n cap] 22)):=Joins.below_alloc1 _ _
  have iL:=hC.size
  obtain ⟨yu,cO⟩:∃ g,Hid (g=aY.heap.size):=⟨_,rfl⟩
  have cR:Hid (Hm.dz (aY.alloc (.cells #[.slice (some ⟨aV,0,none⟩) 4 4,.slice (some ⟨gn,0,none⟩) 4 cn,.slice A n cap] 22)) (.slice (some ⟨aY.heap.size,0,none⟩) 3 3) [a6,big 4 (nm d),raw]):=mZ bP.out bY.out (HV.out.below hC)
  replace hC:=hC.trans (hb.mono hC.size)
  replace bY:=ae (bY.out.below hb)
  replace bP:=ae (bP.out.below hb)
  refine hK.out _ _ (ai.out _ hC) (fun aa=>?_)
  clear hK K hb
  generalize (aY.alloc (.cells #[.slice (some ⟨aV,0,none⟩) 4 4,.slice (some ⟨gn,0,none⟩) 4 cn,.slice A n cap] 22))=gO at *
  rw[← cO.out] at iL ⊢
  rw[← cO.out] at cR
  clear cO
  try go_frame
  refine rdq 11 18 fun K hK=>?_
  go_simp
  go_at_call 42
  refine(Hm.gp _ _ _ _ (lL (nm d) raw HR.out) gO cR.out).mono ?_
  rintro e iC ⟨jv,rfl,hown,hb⟩
  have qP:Hid (Arg iC jv J):=(by show Arg _ _ _;rw[HJ.out];exact iK.1 (Hm.Own.arg hown))
  replace hC:=hC.trans (hb.mono hC.size)
  replace bY:=ae (bY.out.below hb)
  replace bP:=ae (bP.out.below hb)
  replace cR:=ae (cR.out.below hb)
  refine hK.out _ _ (ai.out _ hC) (fun aa=>?_)
  clear hK K hb 
  clear hown cR bP bY
  try go_frame
  refine rdq 12 19 fun K hK=>?_
  go_simp
  go_at_call 41
  refine(Hm.jF _ mk _ J HJl.out iC (HKM.out.below hC) qP.out).mono ?_
  rintro e j9 ⟨kv,rfl,hown,hb⟩
  have xk:Hid (Arg j9 kv (tg mk (nm d) raw)):=(by show Arg _ _ _;rw[tg,← HJ.out];exact iK.1 (Hm.Own.arg hown))
  replace hC:=hC.trans (hb.mono hC.size)
  replace qP:=ae (qP.out.below hb)
  refine hK.out _ _ (ai.out _ hC) (fun aa=>?_)
  clear hK K hb 
  clear hown
  try go_frame
  refine rdq 13 20 fun K hK=>?_
  have hcv:=bS xk.out
  go_simp
  clear hcv
  refine hK.out _ _ (ai.out _ hC) (fun aa=>?_)
  clear hK K
  try go_frame
  refine tkq 14 6 aa ?_
  try go_frame
  refine wpAnyH_done (by kernel_rfl) ?_ _
  clear ai aa xk
  go_wp2
  go_ret
  exact⟨rfl,hC⟩
 exact AllReadyH.nil
theorem mM (ek mk:List UInt8) (ks:List Value) (hk:cz ek mk ks) (d:Int) (raw:List UInt8) (hr:raw.length≤1000) (v:Value) (w:World) (hT:Hm.Tab w) (h:Arg w v raw) :
  Calls Tryz.prog 36 #[.agg ks.toArray,.int .i64 d,v] w fun e w'=>∃ rs:List Value,Hid (Vec 32 (tg mk (nm d) raw) rs)∧e=.returned (.agg rs.toArray)∧Below w.heap.size w w':=by
 obtain ⟨A,cap,rfl⟩:=h.form
 obtain ⟨n,hnl⟩:∃ n,n=raw.length:=⟨_,rfl⟩
 rw[← hnl] at h ⊢
 have HK:=ae hk
 have HR:=ae hr
 have Hzk:Hid (ks.toArray.size=48):=hk.size
 have hz:=Hm.eM
 obtain ⟨w0,hw0⟩:∃ w0,w0=(w.alloc (.cells ks.toArray 29)).alloc (.cells Hm.Z32.toArray 27):=⟨_,rfl⟩
 have HBL:Hid (Below w.heap.size w w0):=by rw[hw0];exact((Below.refl _ _).alloc (Nat.le_refl _) _).alloc (by simp) _
 have HBX:Hid (Row w0 w.heap.size 29 ks):=by rw[hw0];exact(Row.new w 29 ks).alloc _
 have HZ0:Hid (Row w0 (w.heap.size+1) 27 Hm.Z32):=by rw[hw0];exact Row.newAt 27 Hm.Z32 (by simp)
 have HT:Hid (Hm.Tab w0):=hT.below HBL.out
 have HV:Hid (Arg w0 (.slice A n cap) raw):=h.below HBL.out
 have ai:Hid (∀ W,Below w0.heap.size w0 W→Below w.heap.size w W):=fun W hW=>HBL.out.trans (hW.mono HBL.out.size)
 clear h hT hk hr hnl
 go_enter Tryz.func36,Tryz.ntmps36
 go_wp2
 rw[← hw0]
 clear hw0 hz
 have hC:Below w0.heap.size w0 w0.drew:=below_drewN (Below.refl _ _) 1
 refine wp_region_held_drew (S:=(fun W=>Below w.heap.size w W)) (by kernel_rfl) (ai.out _ hC) (fun aa=>?_)
 generalize w0.drew=w0d at *
 refine tkq 0 7 aa ?_
 try go_frame
 refine tkq 1 8 aa ?_
 try go_frame
 refine tkq 4 11 aa ?_
 try go_frame
 refine tkq 5 12 aa ?_
 try go_frame
 refine tkq 7 14 aa ?_
 try go_frame
 refine wpAnyH_ready (rs:=[2,6]) (by kernel_rfl) (by simp) ?_
 refine AllReadyH.cons (o:=⟨some 9,_,_,_,_,_⟩) rfl (fun K hK=>?_) ?_
 ·skip
  go_simp
  have hb:Below w0d.heap.size w0d (w0d.alloc (.cells #[.int .u8 108,.int .u8 101,.int .u8 97,.int .u8 102] 5)):=Joins.below_alloc1 _ _
  have fH:=hC.size
  obtain ⟨aV,eL⟩:∃ g,Hid (g=w0d.heap.size):=⟨_,rfl⟩
  have dP:Hid (Row (w0d.alloc (.cells #[.int .u8 108,.int .u8 101,.int .u8 97,.int .u8 102] 5)) w0d.heap.size 5 (a6.map V8)):=Row.new w0d 5 (a6.map V8)
  replace hC:=hC.trans (hb.mono hC.size)
  refine hK.out _ _ (ai.out _ hC) (fun aa=>?_)
  clear hK K hb
  generalize (w0d.alloc (.cells #[.int .u8 108,.int .u8 101,.int .u8 97,.int .u8 102] 5))=dI at *
  rw[← eL.out] at fH ⊢
  rw[← eL.out] at dP
  clear eL
  try go_frame
  refine wpAnyH_ready (rs:=[3,6]) (by kernel_rfl) (by simp) ?_
  refine AllReadyH.cons (o:=⟨some 10,_,_,_,_,_⟩) rfl (fun K hK=>?_) ?_
  ·skip
   have hcv:=run_mark aV 4 4 a6 dI dP.out
   go_simp
   clear hcv
   have hb0:=hC.trans (dW dI _ aV (List.length a6) fH)
   have bP:Hid (Arg (dI.freeze ⟨aV,List.length a6,none⟩ 1) (.slice (some ⟨aV,0,none⟩) 4 4) (a6)):=fG dI aV _ dP.out 4 rfl
   clear dP
   replace hC:=hb0
   refine hK.out _ _ (ai.out _ hC) (fun aa=>?_)
   clear hK K hb0
   generalize (dI.freeze ⟨aV,List.length a6,none⟩ 1)=df at *
   try go_frame
   refine rdq 6 13 fun K hK=>?_
   go_simp
   go_at_call 73
   obtain ⟨jh,ib⟩:∃ g,Hid (g=df.heap.size):=⟨_,rfl⟩
   refine(uE (nm d) _ (kU d) (si d) df).mono ?_
   rintro e aM ⟨rfl,qF,hb⟩
   have bY:Hid (Arg aM (.slice (some ⟨jh,0,none⟩) 4 4) (big 4 (nm d))):=(ib.out ▸ qF.out:Row aM jh _ _).arg 4 (aU _ _)
   replace hC:=hC.trans (hb.mono hC.size)
   replace bP:=ae (bP.out.below hb)
   refine hK.out _ _ (ai.out _ hC) (fun aa=>?_)
   clear hK K hb 
   rw[← ib.out]
   clear ib qF
   try go_frame
   refine rdq 8 15 fun K hK=>?_
   go_simp
   have hb:Below aM.heap.size aM (aM.alloc (.cells #[.slice (some ⟨aV,0,none⟩) 4 4,.slice (some ⟨jh,0,none⟩) 4 4,.slice A n cap] 22)):=Joins.below_alloc1 _ _
   have iL:=hC.size
   obtain ⟨yu,cO⟩:∃ g,Hid (g=aM.heap.size):=⟨_,rfl⟩
   have cR:Hid (Hm.dz (aM.alloc (.cells #[.slice (some ⟨aV,0,none⟩) 4 4,.slice (some ⟨jh,0,none⟩) 4 4,.slice A n cap] 22)) (.slice (some ⟨aM.heap.size,0,none⟩) 3 3) [a6,big 4 (nm d),raw]):=mZ bP.out bY.out (HV.out.below hC)
   replace hC:=hC.trans (hb.mono hC.size)
   replace bP:=ae (bP.out.below hb)
   replace bY:=ae (bY.out.below hb)
   refine hK.out _ _ (ai.out _ hC) (fun aa=>?_)
   clear hK K hb
   generalize (aM.alloc (.cells #[.slice (some ⟨aV,0,none⟩) 4 4,.slice (some ⟨jh,0,none⟩) 4 4,.slice A n cap] 22))=gQ at *
   rw[← cO.out] at iL ⊢
   rw[← cO.out] at cR
   clear cO
   try go_frame
   refine rdq 9 16 fun K hK=>?_
   go_simp
   go_at_call 31
   refine(Hm.jG _ mk (by rw[HK.out.2.2];omega) _ _ _ _ (lL (nm d) raw HR.out) gQ (HT.out.below hC) (HK.out.mac (HBX.out.below hC HBX.out.lt)) cR.out).mono ?_
   rintro e lJ ⟨rs,Hrs,rfl,hb⟩
   replace hC:=hC.trans (hb.mono hC.size)
   replace bP:=ae (bP.out.below hb)
   replace bY:=ae (bY.out.below hb)
   replace cR:=ae (cR.out.below hb)
   refine hK.out _ _ (ai.out _ hC) (fun aa=>?_)
   clear hK K hb 
   have Hsz:Hid (rs.toArray.size=32):=Hrs.out.size
   have aN:Hid (rs.toArray.all (·.oneCell')=true):=Hrs.out.one
   clear bP bY cR
   try go_frame
   refine rdn 10 fun K hK=>?_
   rw[if_pos (by rfl)]
   refine Go.wp_store_row 27 (.tmp 6) (.tmp 16) rfl (w.heap.size+1) rs.toArray rfl rfl 27 _ (HZ0.out.below hC HZ0.out.lt) (by rw[Hsz.out];kernel_rfl) (by rw[Hsz.out];rfl) aN.out ?_
   have HF:=ae (((HZ0.out.below hC HZ0.out.lt)).whole rs)
   have HBF:=ae (ag (HBL.out.trans (hC.mono HBL.out.size)) (k:=w.heap.size+1) (by omega) rs.toArray)
   refine hK.out _ _ HBF.out (fun aa=>?_)
   clear hK K
   generalize (lJ.setRow (w.heap.size+1) rs.toArray)=uS at *
   try go_frame
   refine wpAnyH_done (by kernel_rfl) ?_ _
   clear hC
   have hinfo:(Tryz.prog.info? 27).map (·.size)=some rs.toArray.size:=by rw[Hsz.out];kernel_rfl
   go_wp2
   refine bodyPost_ret (v:=.agg rs.toArray) (results_cell_row rfl _ _ (w.heap.size+1) 27 rs.toArray (0,0) _ rfl HF.out Tryz.underlying27 rfl hinfo) rfl ?_
   exact⟨rs,Hrs,rfl,HBF.out⟩
  refine AllReadyH.cons (o:=⟨some 13,_,_,_,_,_⟩) rfl (fun K hK=>?_) ?_
  ·skip
   go_simp
   go_at_call 73
   obtain ⟨jh,ib⟩:∃ g,Hid (g=dI.heap.size):=⟨_,rfl⟩
   refine(uE (nm d) _ (kU d) (si d) dI).mono ?_
   rintro e bZ ⟨rfl,qF,hb⟩
   have bY:Hid (Arg bZ (.slice (some ⟨jh,0,none⟩) 4 4) (big 4 (nm d))):=(ib.out ▸ qF.out:Row bZ jh _ _).arg 4 (aU _ _)
   replace hC:=hC.trans (hb.mono hC.size)
   replace dP:=ae (dP.out.below hb dP.out.lt)
   refine hK.out _ _ (ai.out _ hC) (fun aa=>?_)
   clear hK K hb 
   rw[← ib.out]
   clear ib qF
   try go_frame
   refine rdq 3 10 fun K hK=>?_
   have hcv:=run_mark aV 4 4 a6 bZ dP.out
   go_simp
   clear hcv
   have hb0:=hC.trans (dW bZ _ aV (List.length a6) fH)
   have bP:Hid (Arg (bZ.freeze ⟨aV,List.length a6,none⟩ 1) (.slice (some ⟨aV,0,none⟩) 4 4) (a6)):=fG bZ aV _ dP.out 4 rfl
   clear dP
   replace bY:=ae (bY.out.mark aV (List.length a6))
   replace hC:=hb0
   refine hK.out _ _ (ai.out _ hC) (fun aa=>?_)
   clear hK K hb0
   generalize (bZ.freeze ⟨aV,List.length a6,none⟩ 1)=aZ at *
   try go_frame
   refine rdq 8 15 fun K hK=>?_
   go_simp
   have hb:Below aZ.heap.size aZ (aZ.alloc (.cells #[.slice (some ⟨aV,0,none⟩) 4 4,.slice (some ⟨jh,0,none⟩) 4 4,.slice A n cap] 22)):=Joins.below_alloc1 _ _
   have iL:=hC.size
   obtain ⟨yu,cO⟩:∃ g,Hid (g=aZ.heap.size):=⟨_,rfl⟩
   have cR:Hid (Hm.dz (aZ.alloc (.cells #[.slice (some ⟨aV,0,none⟩) 4 4,.slice (some ⟨jh,0,none⟩) 4 4,.slice A n cap] 22)) (.slice (some ⟨aZ.heap.size,0,none⟩) 3 3) [a6,big 4 (nm d),raw]):=mZ bP.out bY.out (HV.out.below hC)
   replace hC:=hC.trans (hb.mono hC.size)
   replace bY:=ae (bY.out.below hb)
   replace bP:=ae (bP.out.below hb)
   refine hK.out _ _ (ai.out _ hC) (fun aa=>?_)
   clear hK K hb
   generalize (aZ.alloc (.cells #[.slice (some ⟨aV,0,none⟩) 4 4,.slice (some ⟨jh,0,none⟩) 4 4,.slice A n cap] 22))=gP at *
   rw[← cO.out] at iL ⊢
   rw[← cO.out] at cR
   clear cO
   try go_frame
   refine rdq 9 16 fun K hK=>?_
   go_simp
   go_at_call 31
   refine(Hm.jG _ mk (by rw[HK.out.2.2];omega) _ _ _ _ (lL (nm d) raw HR.out) gP (HT.out.below hC) (HK.out.mac (HBX.out.below hC HBX.out.lt)) cR.out).mono ?_
   rintro e lI ⟨rs,Hrs,rfl,hb⟩
   replace hC:=hC.trans (hb.mono hC.size)
   replace bY:=ae (bY.out.below hb)
   replace bP:=ae (bP.out.below hb)
   replace cR:=ae (cR.out.below hb)
   refine hK.out _ _ (ai.out _ hC) (fun aa=>?_)
   clear hK K hb 
   have Hsz:Hid (rs.toArray.size=32):=Hrs.out.size
   have aN:Hid (rs.toArray.all (·.oneCell')=true):=Hrs.out.one
   clear bP bY cR
   try go_frame
   refine rdn 10 fun K hK=>?_
   rw[if_pos (by rfl)]
   refine Go.wp_store_row 27 (.tmp 6) (.tmp 16) rfl (w.heap.size+1) rs.toArray rfl rfl 27 _ (HZ0.out.below hC HZ0.out.lt) (by rw[Hsz.out];kernel_rfl) (by rw[Hsz.out];rfl) aN.out ?_
   have HF:=ae (((HZ0.out.below hC HZ0.out.lt)).whole rs)
   have HBF:=ae (ag (HBL.out.trans (hC.mono HBL.out.size)) (k:=w.heap.size+1) (by omega) rs.toArray)
   refine hK.out _ _ HBF.out (fun aa=>?_)
   clear hK K
   generalize (lI.setRow (w.heap.size+1) rs.toArray)=uR at *
   try go_frame
   refine wpAnyH_done (by kernel_rfl) ?_ _
   clear hC
   have hinfo:(Tryz.prog.info? 27).map (·.size)=some rs.toArray.size:=by rw[Hsz.out];kernel_rfl
   go_wp2
   refine bodyPost_ret (v:=.agg rs.toArray) (results_cell_row rfl _ _ (w.heap.size+1) 27 rs.toArray (0,0) _ rfl HF.out Tryz.underlying27 rfl hinfo) rfl ?_
   exact⟨rs,Hrs,rfl,HBF.out⟩
  exact AllReadyH.nil
 refine AllReadyH.cons (o:=⟨some 13,_,_,_,_,_⟩) rfl (fun K hK=>?_) ?_
 ·skip
  go_simp
  go_at_call 73
  obtain ⟨jh,ib⟩:∃ g,Hid (g=w0d.heap.size):=⟨_,rfl⟩
  refine(uE (nm d) _ (kU d) (si d) w0d).mono ?_
  rintro e bT ⟨rfl,qF,hb⟩
  have bY:Hid (Arg bT (.slice (some ⟨jh,0,none⟩) 4 4) (big 4 (nm d))):=(ib.out ▸ qF.out:Row bT jh _ _).arg 4 (aU _ _)
  replace hC:=hC.trans (hb.mono hC.size)
  refine hK.out _ _ (ai.out _ hC) (fun aa=>?_)
  clear hK K hb 
  rw[← ib.out]
  clear ib qF
  try go_frame
  refine rdq 2 9 fun K hK=>?_
  go_simp
  have hb:Below bT.heap.size bT (bT.alloc (.cells #[.int .u8 108,.int .u8 101,.int .u8 97,.int .u8 102] 5)):=Joins.below_alloc1 _ _
  have fH:=hC.size
  obtain ⟨aV,eL⟩:∃ g,Hid (g=bT.heap.size):=⟨_,rfl⟩
  have dP:Hid (Row (bT.alloc (.cells #[.int .u8 108,.int .u8 101,.int .u8 97,.int .u8 102] 5)) bT.heap.size 5 (a6.map V8)):=Row.new bT 5 (a6.map V8)
  replace hC:=hC.trans (hb.mono hC.size)
  replace bY:=ae (bY.out.below hb)
  refine hK.out _ _ (ai.out _ hC) (fun aa=>?_)
  clear hK K hb
  generalize (bT.alloc (.cells #[.int .u8 108,.int .u8 101,.int .u8 97,.int .u8 102] 5))=dH at *
  rw[← eL.out] at fH ⊢
  rw[← eL.out] at dP
  clear eL
  try go_frame
  refine rdq 3 10 fun K hK=>?_
  have hcv:=run_mark aV 4 4 a6 dH dP.out
  go_simp
  clear hcv
  have hb0:=hC.trans (dW dH _ aV (List.length a6) fH)
  have bP:Hid (Arg (dH.freeze ⟨aV,List.length a6,none⟩ 1) (.slice (some ⟨aV,0,none⟩) 4 4) (a6)):=fG dH aV _ dP.out 4 rfl
  clear dP
  replace bY:=ae (bY.out.mark aV (List.length a6))
  replace hC:=hb0
  refine hK.out _ _ (ai.out _ hC) (fun aa=>?_)
  clear hK K hb0
  generalize (dH.freeze ⟨aV,List.length a6,none⟩ 1)=aY at *
  try go_frame
  refine rdq 8 15 fun K hK=>?_
  go_simp
  have hb:Below aY.heap.size aY (aY.alloc (.cells #[.slice (some ⟨aV,0,none⟩) 4 4,.slice (some ⟨jh,0,none⟩) 4 4,.slice A n cap] 22)):=Joins.below_alloc1 _ _
  have iL:=hC.size
  obtain ⟨yu,cO⟩:∃ g,Hid (g=aY.heap.size):=⟨_,rfl⟩
  have cR:Hid (Hm.dz (aY.alloc (.cells #[.slice (some ⟨aV,0,none⟩) 4 4,.slice (some ⟨jh,0,none⟩) 4 4,.slice A n cap] 22)) (.slice (some ⟨aY.heap.size,0,none⟩) 3 3) [a6,big 4 (nm d),raw]):=mZ bP.out bY.out (HV.out.below hC)
  replace hC:=hC.trans (hb.mono hC.size)
  replace bY:=ae (bY.out.below hb)
  replace bP:=ae (bP.out.below hb)
  refine hK.out _ _ (ai.out _ hC) (fun aa=>?_)
  clear hK K hb
  generalize (aY.alloc (.cells #[.slice (some ⟨aV,0,none⟩) 4 4,.slice (some ⟨jh,0,none⟩) 4 4,.slice A n cap] 22))=gO at *
  rw[← cO.out] at iL ⊢
  rw[← cO.out] at cR
  clear cO
  try go_frame
  refine rdq 9 16 fun K hK=>?_
  go_simp
  go_at_call 31
  refine(Hm.jG _ mk (by rw[HK.out.2.2];omega) _ _ _ _ (lL (nm d) raw HR.out) gO (HT.out.below hC) (HK.out.mac (HBX.out.below hC HBX.out.lt)) cR.out).mono ?_
  rintro e lH ⟨rs,Hrs,rfl,hb⟩
  replace hC:=hC.trans (hb.mono hC.size)
  replace bY:=ae (bY.out.below hb)
  replace bP:=ae (bP.out.below hb)
  replace cR:=ae (cR.out.below hb)
  refine hK.out _ _ (ai.out _ hC) (fun aa=>?_)
  clear hK K hb 
  have Hsz:Hid (rs.toArray.size=32):=Hrs.out.size
  have aN:Hid (rs.toArray.all (·.oneCell')=true):=Hrs.out.one
  clear bP bY cR
  try go_frame
  refine rdn 10 fun K hK=>?_
  rw[if_pos (by rfl)]
  refine Go.wp_store_row 27 (.tmp 6) (.tmp 16) rfl (w.heap.size+1) rs.toArray rfl rfl 27 _ (HZ0.out.below hC HZ0.out.lt) (by rw[Hsz.out];kernel_rfl) (by rw[Hsz.out];rfl) aN.out ?_
  have HF:=ae (((HZ0.out.below hC HZ0.out.lt)).whole rs)
  have HBF:=ae (ag (HBL.out.trans (hC.mono HBL.out.size)) (k:=w.heap.size+1) (by omega) rs.toArray)
  refine hK.out _ _ HBF.out (fun aa=>?_)
  clear hK K
  generalize (lH.setRow (w.heap.size+1) rs.toArray)=uQ at *
  try go_frame
  refine wpAnyH_done (by kernel_rfl) ?_ _
  clear hC
  have hinfo:(Tryz.prog.info? 27).map (·.size)=some rs.toArray.size:=by rw[Hsz.out];kernel_rfl
  go_wp2
  refine bodyPost_ret (v:=.agg rs.toArray) (results_cell_row rfl _ _ (w.heap.size+1) 27 rs.toArray (0,0) _ rfl HF.out Tryz.underlying27 rfl hinfo) rfl ?_
  exact⟨rs,Hrs,rfl,HBF.out⟩
 exact AllReadyH.nil
set_option maxRecDepth 512
theorem FB (d:Int) (v:Nat) (hv:v<2 ^ 64) (w:World) :
  Calls Tryz.prog 126 #[.int .i64 d,.int .u64 v] w fun e w'=>∃ ts:List Value,Hid (Vec 12 (nnc (nm d) v) ts)∧e=.returned (.agg ts.toArray)∧Below w.heap.size w w':=by
 have h:(((d % 4294967296).toNat:Nat):Int)=d % 4294967296:=by omega
 have:=CC d _ h v hv w
 rwa [GU d _ v h] at this
theorem By {ek mk:List UInt8} {ks:List Value} {w:World} {g:Nat} {t:TypeId} (h:cz ek mk ks) (hr:Row w g t ks):w.rangeAt g 0 (ek.map V8):=by
 rcases h.enc hr with ⟨A,e,hn⟩ | ⟨b,o,c,e,_,_,hs⟩
 ·rw[hn] at h;exact absurd h.2.1 (by decide)
 ·injection e with e1 _ _
  injection e1 with e1
  injection e1 with e1 e2 _
  subst e1 e2
  exact hs
theorem dn {w:World} {g:Nat} {t:TypeId} {cs:List Value} (h:Row w g t cs):w.rangeAt g 0 cs:=h.sees
set_option maxRecDepth 100000
theorem sI (ek mk:List UInt8) (ks:List Value) (hk:cz ek mk ks) (d:Int) (v:Nat) (hv:v<2 ^ 64) (b:List UInt8) (x:Value) (hbl:b.length≤100000) (w:World) (h:Arg w x b) :
  Calls Tryz.prog 94 #[.agg ks.toArray,.int .i64 d,.int .u64 v,x] w fun e w'=>∃ g,e=.returned (.slice (some ⟨g,0,none⟩) b.length b.length)∧w.heap.size≤g∧Hid (Row w' g 5 ((code ek (nnc (nm d) v) b).map V8))∧Below w.heap.size w w':=by
 obtain ⟨A,cap,rfl⟩:=h.form
 obtain ⟨n,hnl⟩:∃ n,n=b.length:=⟨_,rfl⟩
 rw[← hnl] at h hbl ⊢
 have HNl:=ae hnl
 have HK:=ae hk
 have Hzk:Hid (ks.toArray.size=48):=hk.size
 obtain ⟨w0,hw0⟩:∃ w0,w0=w.alloc (.cells ks.toArray 29):=⟨_,rfl⟩
 have HBL:Hid (Below w.heap.size w w0):=by rw[hw0];exact(Below.refl _ _).alloc (Nat.le_refl _) _
 have HBX:Hid (Row w0 w.heap.size 29 ks):=by rw[hw0];exact Row.new w 29 ks
 have HA:Hid (Arg w0 (.slice A n cap) b):=h.below HBL.out
 have Kv:=HBL.out.size
 have ai:Hid (∀ W,Below w0.heap.size w0 W→W.rangeAt w.heap.size 0 (ek.map V8)):=fun W hW=>By HK.out (HBX.out.below hW HBX.out.lt)
 have hi1:(Tryz.prog.info? 25).map (·.size)=some (ek.map V8).length:=by rw[List.length_map,HK.out.2.1];kernel_rfl
 clear h hk hnl
 go_enter Tryz.func94,Tryz.ntmps94
 go_wp2
 rw[← hw0]
 clear hw0
 have hC:Below w0.heap.size w0 w0.drew:=below_drewN (Below.refl _ _) 1
 refine wp_region_held_drew (S:=(fun W=>W.rangeAt w.heap.size 0 (ek.map V8))) (by kernel_rfl) (ai.out _ hC) (fun aa=>?_)
 generalize w0.drew=w0d at *
 refine tkq 0 9 aa ?_
 try go_frame
 refine tkh 1 10 (v:=.agg (ek.map V8).toArray) rfl aa ?_ (yieldsIf_load_mid (by rfl) 25 (.tmp 9) rfl (w.heap.size) 0 rfl (ek.map V8) _ (fun W h=>h) Tryz.underlying25 rfl hi1)
 try go_frame
 refine tkq 2 11 aa ?_
 try go_frame
 refine tkq 3 12 aa ?_
 try go_frame
 refine tkq 5 14 aa ?_
 try go_frame
 refine rdq 4 13 fun K hK=>?_
 go_simp
 go_at_call 126
 refine(FB d v hv w0d).mono ?_
 rintro e s4 ⟨ts,Hts,rfl,hb⟩
 replace hC:=hC.trans (hb.mono hC.size)
 refine hK.out _ _ (ai.out _ hC) (fun aa=>?_)
 clear hK K hb 
 have Hzt:Hid (ts.toArray.size=12):=Hts.out.size
 try go_frame
 refine rdq 6 15 fun K hK=>?_
 go_simp
 go_at_call 125
 have hzc:=hC.size
 refine(Gj ek (nnc (nm d) v) b (ek.map V8) ts (Vec.mk 16 ek HK.out.2.1) Hts.out _ (by rw[← HNl.out];exact hbl) s4 (HA.out.below hC)).mono ?_
 rintro e AW ⟨g,rfl,hg,HR,hb⟩
 replace hC:=hC.trans (hb.mono hC.size)
 refine hK.out _ _ (ai.out _ hC) (fun aa=>?_)
 clear hK K hb 
 try go_frame
 refine tkq 7 8 aa ?_
 try go_frame
 refine wpAnyH_done (by kernel_rfl) ?_ _
 clear ai aa
 rw[← HNl.out]
 go_wp2
 go_ret
 exact⟨g,rfl,by omega,HR,HBL.out.trans (hC.mono HBL.out.size)⟩
end Go.Proofs.YthbmknpbcgnabaaGreatDoor
