/- Of the walk. -/
import Derived.Test.YthbmknpbcgnabaaGreatDoorB22
set_option maxHeartbeats 40000000
namespace Go.Proofs.YthbmknpbcgnabaaGreatDoor
open Go.RowKit Dsk
def rp (m:Nat) (v:Value):List Value:=List.replicate m v
theorem vH (m:Nat) (v:Value):rp m v++[v]=rp (m+1) v:=by rw[rp,rp,List.replicate_succ']
theorem fT (m:Nat) (v:Value):(rp m v).length=m:=by simp [rp]
set_option maxRecDepth 100000
theorem Cz (n:Nat) (h1:1≤n) (h2:n≤512) (w0:World) :
  Calls Tryz.prog 11 #[.int .i64 n] w0 fun e w'=>∃ M G,e=.returned (.pointer (some ⟨M,0,none⟩))∧bL w' G M (List.replicate n Blk.zero)∧(∀ k,G k→w0.heap.size≤k)∧Below w0.heap.size w0 w':=by
 obtain ⟨M,hM⟩:∃ M,M=w0.heap.size:=⟨_,rfl⟩
 obtain ⟨B,hB⟩:∃ B,B=w0.heap.size+1:=⟨_,rfl⟩
 have HT0:Hid (Tri (w0.alloc (.cells #[.slice none 0 0,.slice none 0 0,.slice none 0 0] 98)) M B (.slice none 0 0) (.slice none 0 0) (.slice none 0 0) (rp 0 (VS z72)) (rp 0 (VS [])) (rp 0 (VS z72))):=by
  refine⟨?_,Own.nil _ _ _,Own.nil _ _ _,Own.nil _ _ _,fun k hk=>(by cases hk),fun k hk=>(by cases hk),fun k hk=>(by cases hk),by omega,by simp;omega⟩
  rw[hM]
  exact Row.new w0 98 [.slice none 0 0,.slice none 0 0,.slice none 0 0]
 have HB0:Hid (Below w0.heap.size w0 (w0.alloc (.cells #[.slice none 0 0,.slice none 0 0,.slice none 0 0] 98))):=(Below.refl _ _).alloc (Nat.le_refl _) _
 have HMB:Hid (B=M+1∧M=w0.heap.size):=by show _∧_;omega
 clear hM hB
 go_enter Tryz.func11,Tryz.ntmps11
 go_wp2
 rw[← HMB.out.2]
 go_loopw [4] (fun i wr=>∃ (m:Nat) (va vb vc:Value),m≤n∧i=.int .i64 m∧Hid (Tri wr M B va vb vc (rp m (VS z72)) (rp m (VS [])) (rp m (VS z72)))∧Hid (Below w0.heap.size w0 wr)) (fun i _=>n - (intOf i).toNat)
 case atStart=>exact⟨0,_,_,_,by omega,rfl,HT0,HB0⟩
 case round =>
  obtain ⟨m,va,vb,vc,hm,rfl,HT,HB⟩:=hrel
  clear HT0 HB0
  by_cases hlt:m<n
  ·have HLa:Hid ((rp m (VS z72)).length+[VS z72].length≤1000000):=by show _≤_;rw[fT];simp;omega
   have HLb:Hid ((rp m (VS [])).length+[VS []].length≤1000000):=by show _≤_;rw[fT];simp;omega
   have HLc:Hid ((rp m (VS z72)).length+[VS z72].length≤1000000):=HLa
   have HN:Hid (∀ (W:World) (a b c:Value),Tri W M B a b c (rp m (VS z72)++[VS z72]) (rp m (VS [])++[VS []]) (rp m (VS z72)++[VS z72])→Hid (Tri W M B a b c (rp (m+1) (VS z72)) (rp (m+1) (VS [])) (rp (m+1) (VS z72)))):=fun W a b c h=>by rw[vH,vH] at h;exact h
   generalize rp m (VS z72)=ys at *
   generalize rp m (VS [])=us at *
   go_wp2
   refine wp_region_held_drew (S:=fun _=>True) (by kernel_rfl) trivial (fun aa=>?_)
   refine tkq 0 12 aa ?_
   try go_frame
   refine tkq 1 13 aa ?_
   try go_frame
   refine tkq 2 14 aa ?_
   try go_frame
   refine tkq 3 15 aa ?_
   try go_frame
   refine wpAnyH_ready (rs:=[4,5]) (by kernel_rfl) (by simp) ?_
   refine AllReadyH.cons (o:=⟨some 16,_,_,_,_,_⟩) rfl (fun K hK=>?_) ?_
   ·skip
    have cL:=(HT.out.drew).row.cell 0
    simp only [List.getElem?_cons_zero] at cL
    go_simp
    refine hK.out _ _ trivial (fun aa=>?_)
    clear hK K
    try go_frame
    clear cL
    refine rdq 5 17 fun K hK=>?_
    go_simp
    refine(dU _).mono ?_
    rintro e w2 ⟨rfl,hb2⟩
    have HT2:Hid (Tri w2 M B va vb vc ys us ys):=(HT.out).drew.below hb2
    have HB2:Hid (Below w0.heap.size w0 w2):=(below_drewN HB.out 1).trans (hb2.mono HB.out.size)
    clear hb2
    refine hK.out _ _ trivial (fun aa=>?_)
    clear hK K
    try go_frame
    refine rdq 6 18 fun K hK=>?_
    go_simp
    refine hK.out _ _ trivial (fun aa=>?_)
    clear hK K
    try go_frame
    refine rdq 7 19 fun K hK=>?_
    have hz2:=HT2.out.hB
    refine dh rfl (.tmp 16) (.tmp 18) 58 rfl B 9 Tryz.underlying58 aQ rfl (by decide) _ ys rfl (HT2.out.oa.alloc _) _ [VS z72] rfl (az w2 9 [VS z72]) fe HLa.out (by simp;omega) ?_
    intro v3 w3 aF hg3 hv3
    obtain ⟨Av3,nv3,kv3,rfl⟩:=ay aF
    have HT3:Hid (Tri (w3.setCell ⟨M,0,none⟩ (Value.slice Av3 nv3 kv3)) M B (Value.slice Av3 nv3 kv3) vb vc (ys++[VS z72]) us ys):=(HT2.out.alloc _).Lu aF hg3 hv3
    have HB3:Hid (Below w0.heap.size w0 (w3.setCell ⟨M,0,none⟩ (Value.slice Av3 nv3 kv3))):=HT2.out.bH HB2.out HT2.out.oa hg3 (Nat.le_of_eq HMB.out.2.symm) 0
    obtain ⟨c3,f3⟩:=(HT2.out.alloc _).cell (HT2.out.alloc _).oa hg3 0 (by omega)
    obtain ⟨u3,hu3⟩:=Option.isSome_iff_exists.1 c3
    clear aF hg3 hv3 c3 hz2 HT2 HB2
    refine hK.out _ _ trivial (fun aa=>?_)
    clear hK K
    try go_frame
    refine tkq 8 20 aa ?_
    try go_frame
    refine tkq 9 21 aa ?_
    try go_frame
    refine rdn 10 fun K hK=>?_
    go_simp
    refine hK.out _ _ trivial (fun aa=>?_)
    clear hK K
    try go_frame
    refine wpAnyH_done (by kernel_rfl) ?_ _
    clear hu3 f3
    have HT4:=HT3
    have HB4:=HB3
    clear HT3 HB3
    generalize (w3.setCell ⟨M,0,none⟩ (Value.slice Av3 nv3 kv3))=w4 at *
    have hz4:=HT4.out.hB
    have cL:=HT4.out.row.cell 1
    simp only [List.getElem?_cons_zero,List.getElem?_cons_succ] at cL
    go_wp2_with (at_builtin;refine cE rfl (.tmp 26) (.tmp 27) 58 rfl B 9 Tryz.underlying58 aQ rfl (by decide) _ us rfl (HT4.out.ob.alloc _) _ [VS []] rfl (az w4 9 [VS []]) (jd [[]]) HLb.out (by simp;omega) ?_;intro v5 w5 cT hg5 hv5;obtain ⟨A5,n5,k5,rfl⟩:=ay cT;have HT5:Hid (Tri (w5.setCell ⟨M,1,none⟩ (Value.slice A5 n5 k5)) M B (Value.slice Av3 nv3 kv3) (Value.slice A5 n5 k5) vc (ys++[VS z72]) (us++[VS []]) ys):=(HT4.out.alloc _).Lt cT hg5 hv5;have HB5:Hid (Below w0.heap.size w0 (w5.setCell ⟨M,1,none⟩ (Value.slice A5 n5 k5))):=HT4.out.bH HB4.out HT4.out.ob hg5 (Nat.le_of_eq HMB.out.2.symm) 1;obtain ⟨c5,f5⟩:=(HT4.out.alloc _).cell (HT4.out.alloc _).ob hg5 1 (by omega);obtain ⟨u5,hu5⟩:=Option.isSome_iff_exists.1 c5;clear cT hg5 hv5 c5 hz4 HT4 HB4 cL)
    clear hu5 f5
    generalize (w5.setCell ⟨M,1,none⟩ (Value.slice A5 n5 k5))=w6 at *
    refine wp_region_held_drew (S:=fun _=>True) (by kernel_rfl) trivial (fun aa=>?_)
    refine tkq 0 31 aa ?_
    try go_frame
    refine tkq 1 32 aa ?_
    try go_frame
    refine tkq 2 33 aa ?_
    try go_frame
    refine tkq 3 34 aa ?_
    try go_frame
    refine wpAnyH_ready (rs:=[4,5]) (by kernel_rfl) (by simp) ?_
    refine AllReadyH.cons (o:=⟨some 35,_,_,_,_,_⟩) rfl (fun K hK=>?_) ?_
    ·skip
     have cL:=(HT5.out.drew).row.cell 2
     simp only [List.getElem?_cons_zero,List.getElem?_cons_succ] at cL
     go_simp
     refine hK.out _ _ trivial (fun aa=>?_)
     clear hK K
     try go_frame
     clear cL
     refine rdq 5 36 fun K hK=>?_
     go_simp
     refine(dU _).mono ?_
     rintro e w7 ⟨rfl,hb2⟩
     have HT2:Hid (Tri w7 M B (Value.slice Av3 nv3 kv3) (Value.slice A5 n5 k5) vc (ys++[VS z72]) (us++[VS []]) ys):=(HT5.out).drew.below hb2
     have HB2:Hid (Below w0.heap.size w0 w7):=(below_drewN HB5.out 1).trans (hb2.mono HB5.out.size)
     clear hb2
     refine hK.out _ _ trivial (fun aa=>?_)
     clear hK K
     try go_frame
     refine rdq 6 37 fun K hK=>?_
     go_simp
     refine hK.out _ _ trivial (fun aa=>?_)
     clear hK K
     try go_frame
     refine rdq 7 38 fun K hK=>?_
     have hz2:=HT2.out.hB
     refine dh rfl (.tmp 35) (.tmp 37) 58 rfl B 9 Tryz.underlying58 aQ rfl (by decide) _ ys rfl (HT2.out.oc.alloc _) _ [VS z72] rfl (az w7 9 [VS z72]) fe HLc.out (by simp;omega) ?_
     intro v8 w8 aF hg3 hv3
     obtain ⟨Av8,nv8,kv8,rfl⟩:=ay aF
     have HT3:Hid (Tri (w8.setCell ⟨M,2,none⟩ (Value.slice Av8 nv8 kv8)) M B (Value.slice Av3 nv3 kv3) (Value.slice A5 n5 k5) (Value.slice Av8 nv8 kv8) (ys++[VS z72]) (us++[VS []]) (ys++[VS z72])):=(HT2.out.alloc _).uD aF hg3 hv3
     have HB3:Hid (Below w0.heap.size w0 (w8.setCell ⟨M,2,none⟩ (Value.slice Av8 nv8 kv8))):=HT2.out.bH HB2.out HT2.out.oc hg3 (Nat.le_of_eq HMB.out.2.symm) 2
     obtain ⟨c3,f3⟩:=(HT2.out.alloc _).cell (HT2.out.alloc _).oc hg3 2 (by omega)
     obtain ⟨u3,hu3⟩:=Option.isSome_iff_exists.1 c3
     clear aF hg3 hv3 c3 hz2 HT2 HB2
     refine hK.out _ _ trivial (fun aa=>?_)
     clear hK K
     try go_frame
     refine tkq 8 39 aa ?_
     try go_frame
     refine tkq 9 40 aa ?_
     try go_frame
     refine rdn 10 fun K hK=>?_
     go_simp
     refine hK.out _ _ trivial (fun aa=>?_)
     clear hK K
     try go_frame
     refine wpAnyH_done (by kernel_rfl) ?_ _
     clear hu3 f3
     go_wp2
     go_roundw
     case rel=>exact⟨m+1,(Value.slice Av3 nv3 kv3),(Value.slice A5 n5 k5),(Value.slice Av8 nv8 kv8),by omega,by go_num,HN.out _ _ _ _ HT3.out,HB3⟩
     case measure=>simp [intOf];omega
    refine AllReadyH.cons (o:=⟨some 36,_,_,_,_,_⟩) rfl (fun K hK=>?_) ?_
    ·skip
     go_simp
     refine(dU _).mono ?_
     rintro e w7 ⟨rfl,hb2⟩
     have HT2:Hid (Tri w7 M B (Value.slice Av3 nv3 kv3) (Value.slice A5 n5 k5) vc (ys++[VS z72]) (us++[VS []]) ys):=(HT5.out).drew.below hb2
     have HB2:Hid (Below w0.heap.size w0 w7):=(below_drewN HB5.out 1).trans (hb2.mono HB5.out.size)
     clear hb2
     refine hK.out _ _ trivial (fun aa=>?_)
     clear hK K
     try go_frame
     refine wpAnyH_ready (rs:=[4,6]) (by kernel_rfl) (by simp) ?_
     refine AllReadyH.cons (o:=⟨some 35,_,_,_,_,_⟩) rfl (fun K hK=>?_) ?_
     ·skip
      have cL:=(HT2.out).row.cell 2
      simp only [List.getElem?_cons_zero,List.getElem?_cons_succ] at cL
      go_simp
      refine hK.out _ _ trivial (fun aa=>?_)
      clear hK K
      try go_frame
      clear cL
      refine rdq 6 37 fun K hK=>?_
      go_simp
      refine hK.out _ _ trivial (fun aa=>?_)
      clear hK K
      try go_frame
      refine rdq 7 38 fun K hK=>?_
      have hz2:=HT2.out.hB
      refine dh rfl (.tmp 35) (.tmp 37) 58 rfl B 9 Tryz.underlying58 aQ rfl (by decide) _ ys rfl (HT2.out.oc.alloc _) _ [VS z72] rfl (az w7 9 [VS z72]) fe HLc.out (by simp;omega) ?_
      intro v8 w8 aF hg3 hv3
      obtain ⟨Av8,nv8,kv8,rfl⟩:=ay aF
      have HT3:Hid (Tri (w8.setCell ⟨M,2,none⟩ (Value.slice Av8 nv8 kv8)) M B (Value.slice Av3 nv3 kv3) (Value.slice A5 n5 k5) (Value.slice Av8 nv8 kv8) (ys++[VS z72]) (us++[VS []]) (ys++[VS z72])):=(HT2.out.alloc _).uD aF hg3 hv3
      have HB3:Hid (Below w0.heap.size w0 (w8.setCell ⟨M,2,none⟩ (Value.slice Av8 nv8 kv8))):=HT2.out.bH HB2.out HT2.out.oc hg3 (Nat.le_of_eq HMB.out.2.symm) 2
      obtain ⟨c3,f3⟩:=(HT2.out.alloc _).cell (HT2.out.alloc _).oc hg3 2 (by omega)
      obtain ⟨u3,hu3⟩:=Option.isSome_iff_exists.1 c3
      clear aF hg3 hv3 c3 hz2 HT2 HB2
      refine hK.out _ _ trivial (fun aa=>?_)
      clear hK K
      try go_frame
      refine tkq 8 39 aa ?_
      try go_frame
      refine tkq 9 40 aa ?_
      try go_frame
      refine rdn 10 fun K hK=>?_
      go_simp
      refine hK.out _ _ trivial (fun aa=>?_)
      clear hK K
      try go_frame
      refine wpAnyH_done (by kernel_rfl) ?_ _
      clear hu3 f3
      go_wp2
      go_roundw
      case rel=>exact⟨m+1,(Value.slice Av3 nv3 kv3),(Value.slice A5 n5 k5),(Value.slice Av8 nv8 kv8),by omega,by go_num,HN.out _ _ _ _ HT3.out,HB3⟩
      case measure=>simp [intOf];omega
     refine AllReadyH.cons (o:=⟨some 37,_,_,_,_,_⟩) rfl (fun K hK=>?_) ?_
     ·skip
      go_simp
      refine hK.out _ _ trivial (fun aa=>?_)
      clear hK K
      try go_frame
      refine rdq 4 35 fun K hK=>?_
      have cL:=((HT2.out.alloc (.cells #[VS z72] 9))).row.cell 2
      simp only [List.getElem?_cons_zero,List.getElem?_cons_succ] at cL
      go_simp
      refine hK.out _ _ trivial (fun aa=>?_)
      clear hK K
      try go_frame
      clear cL
      refine rdq 7 38 fun K hK=>?_
      have hz2:=HT2.out.hB
      refine dh rfl (.tmp 35) (.tmp 37) 58 rfl B 9 Tryz.underlying58 aQ rfl (by decide) _ ys rfl (HT2.out.oc.alloc _) _ [VS z72] rfl (az w7 9 [VS z72]) fe HLc.out (by simp;omega) ?_
      intro v8 w8 aF hg3 hv3
      obtain ⟨Av8,nv8,kv8,rfl⟩:=ay aF
      have HT3:Hid (Tri (w8.setCell ⟨M,2,none⟩ (Value.slice Av8 nv8 kv8)) M B (Value.slice Av3 nv3 kv3) (Value.slice A5 n5 k5) (Value.slice Av8 nv8 kv8) (ys++[VS z72]) (us++[VS []]) (ys++[VS z72])):=(HT2.out.alloc _).uD aF hg3 hv3
      have HB3:Hid (Below w0.heap.size w0 (w8.setCell ⟨M,2,none⟩ (Value.slice Av8 nv8 kv8))):=HT2.out.bH HB2.out HT2.out.oc hg3 (Nat.le_of_eq HMB.out.2.symm) 2
      obtain ⟨c3,f3⟩:=(HT2.out.alloc _).cell (HT2.out.alloc _).oc hg3 2 (by omega)
      obtain ⟨u3,hu3⟩:=Option.isSome_iff_exists.1 c3
      clear aF hg3 hv3 c3 hz2 HT2 HB2
      refine hK.out _ _ trivial (fun aa=>?_)
      clear hK K
      try go_frame
      refine tkq 8 39 aa ?_
      try go_frame
      refine tkq 9 40 aa ?_
      try go_frame
      refine rdn 10 fun K hK=>?_
      go_simp
      refine hK.out _ _ trivial (fun aa=>?_)
      clear hK K
      try go_frame
      refine wpAnyH_done (by kernel_rfl) ?_ _
      clear hu3 f3
      go_wp2
      go_roundw
      case rel=>exact⟨m+1,(Value.slice Av3 nv3 kv3),(Value.slice A5 n5 k5),(Value.slice Av8 nv8 kv8),by omega,by go_num,HN.out _ _ _ _ HT3.out,HB3⟩
      case measure=>simp [intOf];omega
     exact AllReadyH.nil
    exact AllReadyH.nil
   refine AllReadyH.cons (o:=⟨some 17,_,_,_,_,_⟩) rfl (fun K hK=>?_) ?_
   ·skip
    go_simp
    refine(dU _).mono ?_
    rintro e w2 ⟨rfl,hb2⟩
    have HT2:Hid (Tri w2 M B va vb vc ys us ys):=(HT.out).drew.below hb2
    have HB2:Hid (Below w0.heap.size w0 w2):=(below_drewN HB.out 1).trans (hb2.mono HB.out.size)
    clear hb2
    refine hK.out _ _ trivial (fun aa=>?_)
    clear hK K
    try go_frame
    refine wpAnyH_ready (rs:=[4,6]) (by kernel_rfl) (by simp) ?_
    refine AllReadyH.cons (o:=⟨some 16,_,_,_,_,_⟩) rfl (fun K hK=>?_) ?_
    ·skip
     have cL:=(HT2.out).row.cell 0
     simp only [List.getElem?_cons_zero] at cL
     go_simp
     refine hK.out _ _ trivial (fun aa=>?_)
     clear hK K
     try go_frame
     clear cL
     refine rdq 6 18 fun K hK=>?_
     go_simp
     refine hK.out _ _ trivial (fun aa=>?_)
     clear hK K
     try go_frame
     refine rdq 7 19 fun K hK=>?_
     have hz2:=HT2.out.hB
     refine dh rfl (.tmp 16) (.tmp 18) 58 rfl B 9 Tryz.underlying58 aQ rfl (by decide) _ ys rfl (HT2.out.oa.alloc _) _ [VS z72] rfl (az w2 9 [VS z72]) fe HLa.out (by simp;omega) ?_
     intro v3 w3 aF hg3 hv3
     obtain ⟨Av3,nv3,kv3,rfl⟩:=ay aF
     have HT3:Hid (Tri (w3.setCell ⟨M,0,none⟩ (Value.slice Av3 nv3 kv3)) M B (Value.slice Av3 nv3 kv3) vb vc (ys++[VS z72]) us ys):=(HT2.out.alloc _).Lu aF hg3 hv3
     have HB3:Hid (Below w0.heap.size w0 (w3.setCell ⟨M,0,none⟩ (Value.slice Av3 nv3 kv3))):=HT2.out.bH HB2.out HT2.out.oa hg3 (Nat.le_of_eq HMB.out.2.symm) 0
     obtain ⟨c3,f3⟩:=(HT2.out.alloc _).cell (HT2.out.alloc _).oa hg3 0 (by omega)
     obtain ⟨u3,hu3⟩:=Option.isSome_iff_exists.1 c3
     clear aF hg3 hv3 c3 hz2 HT2 HB2
     refine hK.out _ _ trivial (fun aa=>?_)
     clear hK K
     try go_frame
     refine tkq 8 20 aa ?_
     try go_frame
     refine tkq 9 21 aa ?_
     try go_frame
     refine rdn 10 fun K hK=>?_
     go_simp
     refine hK.out _ _ trivial (fun aa=>?_)
     clear hK K
     try go_frame
     refine wpAnyH_done (by kernel_rfl) ?_ _
     clear hu3 f3
     have HT4:=HT3
     have HB4:=HB3
     clear HT3 HB3
     generalize (w3.setCell ⟨M,0,none⟩ (Value.slice Av3 nv3 kv3))=w4 at *
     have hz4:=HT4.out.hB
     have cL:=HT4.out.row.cell 1
     simp only [List.getElem?_cons_zero,List.getElem?_cons_succ] at cL
     go_wp2_with (at_builtin;refine cE rfl (.tmp 26) (.tmp 27) 58 rfl B 9 Tryz.underlying58 aQ rfl (by decide) _ us rfl (HT4.out.ob.alloc _) _ [VS []] rfl (az w4 9 [VS []]) (jd [[]]) HLb.out (by simp;omega) ?_;intro v5 w5 cT hg5 hv5;obtain ⟨A5,n5,k5,rfl⟩:=ay cT;have HT5:Hid (Tri (w5.setCell ⟨M,1,none⟩ (Value.slice A5 n5 k5)) M B (Value.slice Av3 nv3 kv3) (Value.slice A5 n5 k5) vc (ys++[VS z72]) (us++[VS []]) ys):=(HT4.out.alloc _).Lt cT hg5 hv5;have HB5:Hid (Below w0.heap.size w0 (w5.setCell ⟨M,1,none⟩ (Value.slice A5 n5 k5))):=HT4.out.bH HB4.out HT4.out.ob hg5 (Nat.le_of_eq HMB.out.2.symm) 1;obtain ⟨c5,f5⟩:=(HT4.out.alloc _).cell (HT4.out.alloc _).ob hg5 1 (by omega);obtain ⟨u5,hu5⟩:=Option.isSome_iff_exists.1 c5;clear cT hg5 hv5 c5 hz4 HT4 HB4 cL)
     clear hu5 f5
     generalize (w5.setCell ⟨M,1,none⟩ (Value.slice A5 n5 k5))=w6 at *
     refine wp_region_held_drew (S:=fun _=>True) (by kernel_rfl) trivial (fun aa=>?_)
     refine tkq 0 31 aa ?_
     try go_frame
     refine tkq 1 32 aa ?_
     try go_frame
     refine tkq 2 33 aa ?_
     try go_frame
     refine tkq 3 34 aa ?_
     try go_frame
     refine wpAnyH_ready (rs:=[4,5]) (by kernel_rfl) (by simp) ?_
     refine AllReadyH.cons (o:=⟨some 35,_,_,_,_,_⟩) rfl (fun K hK=>?_) ?_
     ·skip
      have cL:=(HT5.out.drew).row.cell 2
      simp only [List.getElem?_cons_zero,List.getElem?_cons_succ] at cL
      go_simp
      refine hK.out _ _ trivial (fun aa=>?_)
      clear hK K
      try go_frame
      clear cL
      refine rdq 5 36 fun K hK=>?_
      go_simp
      refine(dU _).mono ?_
      rintro e w7 ⟨rfl,hb2⟩
      have HT2:Hid (Tri w7 M B (Value.slice Av3 nv3 kv3) (Value.slice A5 n5 k5) vc (ys++[VS z72]) (us++[VS []]) ys):=(HT5.out).drew.below hb2
      have HB2:Hid (Below w0.heap.size w0 w7):=(below_drewN HB5.out 1).trans (hb2.mono HB5.out.size)
      clear hb2
      refine hK.out _ _ trivial (fun aa=>?_)
      clear hK K
      try go_frame
      refine rdq 6 37 fun K hK=>?_
      go_simp
      refine hK.out _ _ trivial (fun aa=>?_)
      clear hK K
      try go_frame
      refine rdq 7 38 fun K hK=>?_
      have hz2:=HT2.out.hB
      refine dh rfl (.tmp 35) (.tmp 37) 58 rfl B 9 Tryz.underlying58 aQ rfl (by decide) _ ys rfl (HT2.out.oc.alloc _) _ [VS z72] rfl (az w7 9 [VS z72]) fe HLc.out (by simp;omega) ?_
      intro v8 w8 aF hg3 hv3
      obtain ⟨Av8,nv8,kv8,rfl⟩:=ay aF
      have HT3:Hid (Tri (w8.setCell ⟨M,2,none⟩ (Value.slice Av8 nv8 kv8)) M B (Value.slice Av3 nv3 kv3) (Value.slice A5 n5 k5) (Value.slice Av8 nv8 kv8) (ys++[VS z72]) (us++[VS []]) (ys++[VS z72])):=(HT2.out.alloc _).uD aF hg3 hv3
      have HB3:Hid (Below w0.heap.size w0 (w8.setCell ⟨M,2,none⟩ (Value.slice Av8 nv8 kv8))):=HT2.out.bH HB2.out HT2.out.oc hg3 (Nat.le_of_eq HMB.out.2.symm) 2
      obtain ⟨c3,f3⟩:=(HT2.out.alloc _).cell (HT2.out.alloc _).oc hg3 2 (by omega)
      obtain ⟨u3,hu3⟩:=Option.isSome_iff_exists.1 c3
      clear aF hg3 hv3 c3 hz2 HT2 HB2
      refine hK.out _ _ trivial (fun aa=>?_)
      clear hK K
      try go_frame
      refine tkq 8 39 aa ?_
      try go_frame
      refine tkq 9 40 aa ?_
      try go_frame
      refine rdn 10 fun K hK=>?_
      go_simp
      refine hK.out _ _ trivial (fun aa=>?_)
      clear hK K
      try go_frame
      refine wpAnyH_done (by kernel_rfl) ?_ _
      clear hu3 f3
      go_wp2
      go_roundw
      case rel=>exact⟨m+1,(Value.slice Av3 nv3 kv3),(Value.slice A5 n5 k5),(Value.slice Av8 nv8 kv8),by omega,by go_num,HN.out _ _ _ _ HT3.out,HB3⟩
      case measure=>simp [intOf];omega
     refine AllReadyH.cons (o:=⟨some 36,_,_,_,_,_⟩) rfl (fun K hK=>?_) ?_
     ·skip
      go_simp
      refine(dU _).mono ?_
      rintro e w7 ⟨rfl,hb2⟩
      have HT2:Hid (Tri w7 M B (Value.slice Av3 nv3 kv3) (Value.slice A5 n5 k5) vc (ys++[VS z72]) (us++[VS []]) ys):=(HT5.out).drew.below hb2
      have HB2:Hid (Below w0.heap.size w0 w7):=(below_drewN HB5.out 1).trans (hb2.mono HB5.out.size)
      clear hb2
      refine hK.out _ _ trivial (fun aa=>?_)
      clear hK K
      try go_frame
      refine wpAnyH_ready (rs:=[4,6]) (by kernel_rfl) (by simp) ?_
      refine AllReadyH.cons (o:=⟨some 35,_,_,_,_,_⟩) rfl (fun K hK=>?_) ?_
      ·skip
       have cL:=(HT2.out).row.cell 2
       simp only [List.getElem?_cons_zero,List.getElem?_cons_succ] at cL
       go_simp
       refine hK.out _ _ trivial (fun aa=>?_)
       clear hK K
       try go_frame
       clear cL
       refine rdq 6 37 fun K hK=>?_
       go_simp
       refine hK.out _ _ trivial (fun aa=>?_)
       clear hK K
       try go_frame
       refine rdq 7 38 fun K hK=>?_
       have hz2:=HT2.out.hB
       refine dh rfl (.tmp 35) (.tmp 37) 58 rfl B 9 Tryz.underlying58 aQ rfl (by decide) _ ys rfl (HT2.out.oc.alloc _) _ [VS z72] rfl (az w7 9 [VS z72]) fe HLc.out (by simp;omega) ?_
       intro v8 w8 aF hg3 hv3
       obtain ⟨Av8,nv8,kv8,rfl⟩:=ay aF
       have HT3:Hid (Tri (w8.setCell ⟨M,2,none⟩ (Value.slice Av8 nv8 kv8)) M B (Value.slice Av3 nv3 kv3) (Value.slice A5 n5 k5) (Value.slice Av8 nv8 kv8) (ys++[VS z72]) (us++[VS []]) (ys++[VS z72])):=(HT2.out.alloc _).uD aF hg3 hv3
       have HB3:Hid (Below w0.heap.size w0 (w8.setCell ⟨M,2,none⟩ (Value.slice Av8 nv8 kv8))):=HT2.out.bH HB2.out HT2.out.oc hg3 (Nat.le_of_eq HMB.out.2.symm) 2
       obtain ⟨c3,f3⟩:=(HT2.out.alloc _).cell (HT2.out.alloc _).oc hg3 2 (by omega)
       obtain ⟨u3,hu3⟩:=Option.isSome_iff_exists.1 c3
       clear aF hg3 hv3 c3 hz2 HT2 HB2
       refine hK.out _ _ trivial (fun aa=>?_)
       clear hK K
       try go_frame
       refine tkq 8 39 aa ?_
       try go_frame
       refine tkq 9 40 aa ?_
       try go_frame
       refine rdn 10 fun K hK=>?_
       go_simp
       refine hK.out _ _ trivial (fun aa=>?_)
       clear hK K
       try go_frame
       refine wpAnyH_done (by kernel_rfl) ?_ _
       clear hu3 f3
       go_wp2
       go_roundw
       case rel=>exact⟨m+1,(Value.slice Av3 nv3 kv3),(Value.slice A5 n5 k5),(Value.slice Av8 nv8 kv8),by omega,by go_num,HN.out _ _ _ _ HT3.out,HB3⟩
       case measure=>simp [intOf];omega
      refine AllReadyH.cons (o:=⟨some 37,_,_,_,_,_⟩) rfl (fun K hK=>?_) ?_
      ·skip
       go_simp
       refine hK.out _ _ trivial (fun aa=>?_)
       clear hK K
       try go_frame
       refine rdq 4 35 fun K hK=>?_
       have cL:=((HT2.out.alloc (.cells #[VS z72] 9))).row.cell 2
       simp only [List.getElem?_cons_zero,List.getElem?_cons_succ] at cL
       go_simp
       refine hK.out _ _ trivial (fun aa=>?_)
       clear hK K
       try go_frame
       clear cL
       refine rdq 7 38 fun K hK=>?_
       have hz2:=HT2.out.hB
       refine dh rfl (.tmp 35) (.tmp 37) 58 rfl B 9 Tryz.underlying58 aQ rfl (by decide) _ ys rfl (HT2.out.oc.alloc _) _ [VS z72] rfl (az w7 9 [VS z72]) fe HLc.out (by simp;omega) ?_
       intro v8 w8 aF hg3 hv3
       obtain ⟨Av8,nv8,kv8,rfl⟩:=ay aF
       have HT3:Hid (Tri (w8.setCell ⟨M,2,none⟩ (Value.slice Av8 nv8 kv8)) M B (Value.slice Av3 nv3 kv3) (Value.slice A5 n5 k5) (Value.slice Av8 nv8 kv8) (ys++[VS z72]) (us++[VS []]) (ys++[VS z72])):=(HT2.out.alloc _).uD aF hg3 hv3
       have HB3:Hid (Below w0.heap.size w0 (w8.setCell ⟨M,2,none⟩ (Value.slice Av8 nv8 kv8))):=HT2.out.bH HB2.out HT2.out.oc hg3 (Nat.le_of_eq HMB.out.2.symm) 2
       obtain ⟨c3,f3⟩:=(HT2.out.alloc _).cell (HT2.out.alloc _).oc hg3 2 (by omega)
       obtain ⟨u3,hu3⟩:=Option.isSome_iff_exists.1 c3
       clear aF hg3 hv3 c3 hz2 HT2 HB2
       refine hK.out _ _ trivial (fun aa=>?_)
       clear hK K
       try go_frame
       refine tkq 8 39 aa ?_
       try go_frame
       refine tkq 9 40 aa ?_
       try go_frame
       refine rdn 10 fun K hK=>?_
       go_simp
       refine hK.out _ _ trivial (fun aa=>?_)
       clear hK K
       try go_frame
       refine wpAnyH_done (by kernel_rfl) ?_ _
       clear hu3 f3
       go_wp2
       go_roundw
       case rel=>exact⟨m+1,(Value.slice Av3 nv3 kv3),(Value.slice A5 n5 k5),(Value.slice Av8 nv8 kv8),by omega,by go_num,HN.out _ _ _ _ HT3.out,HB3⟩
       case measure=>simp [intOf];omega
      exact AllReadyH.nil
     exact AllReadyH.nil
    refine AllReadyH.cons (o:=⟨some 18,_,_,_,_,_⟩) rfl (fun K hK=>?_) ?_
    ·skip
     go_simp
     refine hK.out _ _ trivial (fun aa=>?_)
     clear hK K
     try go_frame
     refine rdq 4 16 fun K hK=>?_
     have cL:=((HT2.out.alloc (.cells #[VS z72] 9))).row.cell 0
     simp only [List.getElem?_cons_zero] at cL
     go_simp
     refine hK.out _ _ trivial (fun aa=>?_)
     clear hK K
     try go_frame
     clear cL
     refine rdq 7 19 fun K hK=>?_
     have hz2:=HT2.out.hB
     refine dh rfl (.tmp 16) (.tmp 18) 58 rfl B 9 Tryz.underlying58 aQ rfl (by decide) _ ys rfl (HT2.out.oa.alloc _) _ [VS z72] rfl (az w2 9 [VS z72]) fe HLa.out (by simp;omega) ?_
     intro v3 w3 aF hg3 hv3
     obtain ⟨Av3,nv3,kv3,rfl⟩:=ay aF
     have HT3:Hid (Tri (w3.setCell ⟨M,0,none⟩ (Value.slice Av3 nv3 kv3)) M B (Value.slice Av3 nv3 kv3) vb vc (ys++[VS z72]) us ys):=(HT2.out.alloc _).Lu aF hg3 hv3
     have HB3:Hid (Below w0.heap.size w0 (w3.setCell ⟨M,0,none⟩ (Value.slice Av3 nv3 kv3))):=HT2.out.bH HB2.out HT2.out.oa hg3 (Nat.le_of_eq HMB.out.2.symm) 0
     obtain ⟨c3,f3⟩:=(HT2.out.alloc _).cell (HT2.out.alloc _).oa hg3 0 (by omega)
     obtain ⟨u3,hu3⟩:=Option.isSome_iff_exists.1 c3
     clear aF hg3 hv3 c3 hz2 HT2 HB2
     refine hK.out _ _ trivial (fun aa=>?_)
     clear hK K
     try go_frame
     refine tkq 8 20 aa ?_
     try go_frame
     refine tkq 9 21 aa ?_
     try go_frame
     refine rdn 10 fun K hK=>?_
     go_simp
     refine hK.out _ _ trivial (fun aa=>?_)
     clear hK K
     try go_frame
     refine wpAnyH_done (by kernel_rfl) ?_ _
     clear hu3 f3
     have HT4:=HT3
     have HB4:=HB3
     clear HT3 HB3
     generalize (w3.setCell ⟨M,0,none⟩ (Value.slice Av3 nv3 kv3))=w4 at *
     have hz4:=HT4.out.hB
     have cL:=HT4.out.row.cell 1
     simp only [List.getElem?_cons_zero,List.getElem?_cons_succ] at cL
     go_wp2_with (at_builtin;refine cE rfl (.tmp 26) (.tmp 27) 58 rfl B 9 Tryz.underlying58 aQ rfl (by decide) _ us rfl (HT4.out.ob.alloc _) _ [VS []] rfl (az w4 9 [VS []]) (jd [[]]) HLb.out (by simp;omega) ?_;intro v5 w5 cT hg5 hv5;obtain ⟨A5,n5,k5,rfl⟩:=ay cT;have HT5:Hid (Tri (w5.setCell ⟨M,1,none⟩ (Value.slice A5 n5 k5)) M B (Value.slice Av3 nv3 kv3) (Value.slice A5 n5 k5) vc (ys++[VS z72]) (us++[VS []]) ys):=(HT4.out.alloc _).Lt cT hg5 hv5;have HB5:Hid (Below w0.heap.size w0 (w5.setCell ⟨M,1,none⟩ (Value.slice A5 n5 k5))):=HT4.out.bH HB4.out HT4.out.ob hg5 (Nat.le_of_eq HMB.out.2.symm) 1;obtain ⟨c5,f5⟩:=(HT4.out.alloc _).cell (HT4.out.alloc _).ob hg5 1 (by omega);obtain ⟨u5,hu5⟩:=Option.isSome_iff_exists.1 c5;clear cT hg5 hv5 c5 hz4 HT4 HB4 cL)
     clear hu5 f5
     generalize (w5.setCell ⟨M,1,none⟩ (Value.slice A5 n5 k5))=w6 at *
     refine wp_region_held_drew (S:=fun _=>True) (by kernel_rfl) trivial (fun aa=>?_)
     refine tkq 0 31 aa ?_
     try go_frame
     refine tkq 1 32 aa ?_
     try go_frame
     refine tkq 2 33 aa ?_
     try go_frame
     refine tkq 3 34 aa ?_
     try go_frame
     refine wpAnyH_ready (rs:=[4,5]) (by kernel_rfl) (by simp) ?_
     refine AllReadyH.cons (o:=⟨some 35,_,_,_,_,_⟩) rfl (fun K hK=>?_) ?_
     ·skip
      have cL:=(HT5.out.drew).row.cell 2
      simp only [List.getElem?_cons_zero,List.getElem?_cons_succ] at cL
      go_simp
      refine hK.out _ _ trivial (fun aa=>?_)
      clear hK K
      try go_frame
      clear cL
      refine rdq 5 36 fun K hK=>?_
      go_simp
      refine(dU _).mono ?_
      rintro e w7 ⟨rfl,hb2⟩
      have HT2:Hid (Tri w7 M B (Value.slice Av3 nv3 kv3) (Value.slice A5 n5 k5) vc (ys++[VS z72]) (us++[VS []]) ys):=(HT5.out).drew.below hb2
      have HB2:Hid (Below w0.heap.size w0 w7):=(below_drewN HB5.out 1).trans (hb2.mono HB5.out.size)
      clear hb2
      refine hK.out _ _ trivial (fun aa=>?_)
      clear hK K
      try go_frame
      refine rdq 6 37 fun K hK=>?_
      go_simp
      refine hK.out _ _ trivial (fun aa=>?_)
      clear hK K
      try go_frame
      refine rdq 7 38 fun K hK=>?_
      have hz2:=HT2.out.hB
      refine dh rfl (.tmp 35) (.tmp 37) 58 rfl B 9 Tryz.underlying58 aQ rfl (by decide) _ ys rfl (HT2.out.oc.alloc _) _ [VS z72] rfl (az w7 9 [VS z72]) fe HLc.out (by simp;omega) ?_
      intro v8 w8 aF hg3 hv3
      obtain ⟨Av8,nv8,kv8,rfl⟩:=ay aF
      have HT3:Hid (Tri (w8.setCell ⟨M,2,none⟩ (Value.slice Av8 nv8 kv8)) M B (Value.slice Av3 nv3 kv3) (Value.slice A5 n5 k5) (Value.slice Av8 nv8 kv8) (ys++[VS z72]) (us++[VS []]) (ys++[VS z72])):=(HT2.out.alloc _).uD aF hg3 hv3
      have HB3:Hid (Below w0.heap.size w0 (w8.setCell ⟨M,2,none⟩ (Value.slice Av8 nv8 kv8))):=HT2.out.bH HB2.out HT2.out.oc hg3 (Nat.le_of_eq HMB.out.2.symm) 2
      obtain ⟨c3,f3⟩:=(HT2.out.alloc _).cell (HT2.out.alloc _).oc hg3 2 (by omega)
      obtain ⟨u3,hu3⟩:=Option.isSome_iff_exists.1 c3
      clear aF hg3 hv3 c3 hz2 HT2 HB2
      refine hK.out _ _ trivial (fun aa=>?_)
      clear hK K
      try go_frame
      refine tkq 8 39 aa ?_
      try go_frame
      refine tkq 9 40 aa ?_
      try go_frame
      refine rdn 10 fun K hK=>?_
      go_simp
      refine hK.out _ _ trivial (fun aa=>?_)
      clear hK K
      try go_frame
      refine wpAnyH_done (by kernel_rfl) ?_ _
      clear hu3 f3
      go_wp2
      go_roundw
      case rel=>exact⟨m+1,(Value.slice Av3 nv3 kv3),(Value.slice A5 n5 k5),(Value.slice Av8 nv8 kv8),by omega,by go_num,HN.out _ _ _ _ HT3.out,HB3⟩
      case measure=>simp [intOf];omega
     refine AllReadyH.cons (o:=⟨some 36,_,_,_,_,_⟩) rfl (fun K hK=>?_) ?_
     ·skip
      go_simp
      refine(dU _).mono ?_
      rintro e w7 ⟨rfl,hb2⟩
      have HT2:Hid (Tri w7 M B (Value.slice Av3 nv3 kv3) (Value.slice A5 n5 k5) vc (ys++[VS z72]) (us++[VS []]) ys):=(HT5.out).drew.below hb2
      have HB2:Hid (Below w0.heap.size w0 w7):=(below_drewN HB5.out 1).trans (hb2.mono HB5.out.size)
      clear hb2
      refine hK.out _ _ trivial (fun aa=>?_)
      clear hK K
      try go_frame
      refine wpAnyH_ready (rs:=[4,6]) (by kernel_rfl) (by simp) ?_
      refine AllReadyH.cons (o:=⟨some 35,_,_,_,_,_⟩) rfl (fun K hK=>?_) ?_
      ·skip
       have cL:=(HT2.out).row.cell 2
       simp only [List.getElem?_cons_zero,List.getElem?_cons_succ] at cL
       go_simp
       refine hK.out _ _ trivial (fun aa=>?_)
       clear hK K
       try go_frame
       clear cL
       refine rdq 6 37 fun K hK=>?_
       go_simp
       refine hK.out _ _ trivial (fun aa=>?_)
       clear hK K
       try go_frame
       refine rdq 7 38 fun K hK=>?_
       have hz2:=HT2.out.hB
       refine dh rfl (.tmp 35) (.tmp 37) 58 rfl B 9 Tryz.underlying58 aQ rfl (by decide) _ ys rfl (HT2.out.oc.alloc _) _ [VS z72] rfl (az w7 9 [VS z72]) fe HLc.out (by simp;omega) ?_
       intro v8 w8 aF hg3 hv3
       obtain ⟨Av8,nv8,kv8,rfl⟩:=ay aF
       have HT3:Hid (Tri (w8.setCell ⟨M,2,none⟩ (Value.slice Av8 nv8 kv8)) M B (Value.slice Av3 nv3 kv3) (Value.slice A5 n5 k5) (Value.slice Av8 nv8 kv8) (ys++[VS z72]) (us++[VS []]) (ys++[VS z72])):=(HT2.out.alloc _).uD aF hg3 hv3
       have HB3:Hid (Below w0.heap.size w0 (w8.setCell ⟨M,2,none⟩ (Value.slice Av8 nv8 kv8))):=HT2.out.bH HB2.out HT2.out.oc hg3 (Nat.le_of_eq HMB.out.2.symm) 2
       obtain ⟨c3,f3⟩:=(HT2.out.alloc _).cell (HT2.out.alloc _).oc hg3 2 (by omega)
       obtain ⟨u3,hu3⟩:=Option.isSome_iff_exists.1 c3
       clear aF hg3 hv3 c3 hz2 HT2 HB2
       refine hK.out _ _ trivial (fun aa=>?_)
       clear hK K
       try go_frame
       refine tkq 8 39 aa ?_
       try go_frame
       refine tkq 9 40 aa ?_
       try go_frame
       refine rdn 10 fun K hK=>?_
       go_simp
       refine hK.out _ _ trivial (fun aa=>?_)
       clear hK K
       try go_frame
       refine wpAnyH_done (by kernel_rfl) ?_ _
       clear hu3 f3
       go_wp2
       go_roundw
       case rel=>exact⟨m+1,(Value.slice Av3 nv3 kv3),(Value.slice A5 n5 k5),(Value.slice Av8 nv8 kv8),by omega,by go_num,HN.out _ _ _ _ HT3.out,HB3⟩
       case measure=>simp [intOf];omega
      refine AllReadyH.cons (o:=⟨some 37,_,_,_,_,_⟩) rfl (fun K hK=>?_) ?_
      ·skip
       go_simp
       refine hK.out _ _ trivial (fun aa=>?_)
       clear hK K
       try go_frame
       refine rdq 4 35 fun K hK=>?_
       have cL:=((HT2.out.alloc (.cells #[VS z72] 9))).row.cell 2
       simp only [List.getElem?_cons_zero,List.getElem?_cons_succ] at cL
       go_simp
       refine hK.out _ _ trivial (fun aa=>?_)
       clear hK K
       try go_frame
       clear cL
       refine rdq 7 38 fun K hK=>?_
       have hz2:=HT2.out.hB
       refine dh rfl (.tmp 35) (.tmp 37) 58 rfl B 9 Tryz.underlying58 aQ rfl (by decide) _ ys rfl (HT2.out.oc.alloc _) _ [VS z72] rfl (az w7 9 [VS z72]) fe HLc.out (by simp;omega) ?_
       intro v8 w8 aF hg3 hv3
       obtain ⟨Av8,nv8,kv8,rfl⟩:=ay aF
       have HT3:Hid (Tri (w8.setCell ⟨M,2,none⟩ (Value.slice Av8 nv8 kv8)) M B (Value.slice Av3 nv3 kv3) (Value.slice A5 n5 k5) (Value.slice Av8 nv8 kv8) (ys++[VS z72]) (us++[VS []]) (ys++[VS z72])):=(HT2.out.alloc _).uD aF hg3 hv3
       have HB3:Hid (Below w0.heap.size w0 (w8.setCell ⟨M,2,none⟩ (Value.slice Av8 nv8 kv8))):=HT2.out.bH HB2.out HT2.out.oc hg3 (Nat.le_of_eq HMB.out.2.symm) 2
       obtain ⟨c3,f3⟩:=(HT2.out.alloc _).cell (HT2.out.alloc _).oc hg3 2 (by omega)
       obtain ⟨u3,hu3⟩:=Option.isSome_iff_exists.1 c3
       clear aF hg3 hv3 c3 hz2 HT2 HB2
       refine hK.out _ _ trivial (fun aa=>?_)
       clear hK K
       try go_frame
       refine tkq 8 39 aa ?_
       try go_frame
       refine tkq 9 40 aa ?_
       try go_frame
       refine rdn 10 fun K hK=>?_
       go_simp
       refine hK.out _ _ trivial (fun aa=>?_)
       clear hK K
       try go_frame
       refine wpAnyH_done (by kernel_rfl) ?_ _
       clear hu3 f3
       go_wp2
       go_roundw
       case rel=>exact⟨m+1,(Value.slice Av3 nv3 kv3),(Value.slice A5 n5 k5),(Value.slice Av8 nv8 kv8),by omega,by go_num,HN.out _ _ _ _ HT3.out,HB3⟩
       case measure=>simp [intOf];omega
      exact AllReadyH.nil
     exact AllReadyH.nil
    exact AllReadyH.nil
   exact AllReadyH.nil
  ·obtain rfl:m=n:=by omega
   have HE:Hid (bL wr (fun k=>w0.heap.size≤k∧k<wr.heap.size) M (List.replicate m Blk.zero)):=by
    obtain ⟨a,ca,rfl,ha,ha',hsa⟩:=mC HT.out.oa (by rw[fT];omega)
    obtain ⟨b,cb,rfl,hb,hb',hsb⟩:=mC HT.out.ob (by rw[fT];omega)
    obtain ⟨c,cc,rfl,hc,hc',hsc⟩:=mC HT.out.oc (by rw[fT];omega)
    have hh:=HT.out.row.here
    have hMB:=HMB.out.1
    have hM:=HMB.out.2
    rw[fT,fT] at hh
    refine⟨a,b,c,ca,cb,cc,by rw[List.length_replicate];exact hh,by rw[List.map_replicate];exact hsa,by rw[List.map_replicate];exact hsb,by rw[List.map_replicate];exact hsc,fun i x hx=>?_,by omega,by omega,by omega,fun e=>HT.out.ab a rfl (by rw[e];rfl),fun e=>HT.out.ac a rfl (by rw[e];rfl),fun e=>HT.out.bc b rfl (by rw[e];rfl),⟨by omega,by have:=HT.out.row.lt;omega⟩,⟨by omega,ha'⟩,⟨by omega,hb'⟩,⟨by omega,hc'⟩,fun k hk=>hk.2,by simp;omega,by simp;omega⟩
    rw[List.getElem?_replicate] at hx
    split at hx
    ·injection hx with hx;rw[← hx];exact Blk.zz
    ·cases hx
   clear HT
   go_wp2
   go_ret
   exact⟨M,_,rfl,HE.out,fun k hk=>hk.1,HB.out⟩
end Go.Proofs.YthbmknpbcgnabaaGreatDoor
