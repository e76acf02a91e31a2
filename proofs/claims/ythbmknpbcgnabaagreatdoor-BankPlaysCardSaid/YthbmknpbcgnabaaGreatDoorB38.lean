/- Of the walk. -/
import Derived.Test.YthbmknpbcgnabaaGreatDoorB37
set_option maxHeartbeats 40000000
namespace Go.Proofs.YthbmknpbcgnabaaGreatDoor
open Go.RowKit Aes Ctr Sl Dsk
namespace Bk
def gY (mk:List UInt8) (n af:Nat) (D:List Blk) (k:Nat):List (List UInt8):=((List.range k).map fun i=>tg mk i (aq D (af*n+i)))++List.replicate (n - k) Mr.Mk.zero
section
variable {mk:List UInt8} {n af:Nat} {D:List Blk}
theorem xG:gY mk n af D 0=List.replicate n Mr.Mk.zero:=by simp [gY]
theorem A4:gY mk n af D n=b9 mk n af D:=by simp [gY,b9]
theorem mh (k:Nat) (hk:k≤n):(gY mk n af D k).length=n:=by simp [gY];omega
theorem xH (k:Nat) (hk:k<n):(gY mk n af D k).set k (tg mk k (aq D (af*n+k)))=gY mk n af D (k+1):=by
 unfold gY
 rw[List.range_succ,List.map_append,show n - k=(n - (k+1))+1 by omega,List.replicate_succ,List.set_append_right _ _ (by simp),List.append_assoc]
 simp
theorem lr:(b9 mk n af D).length=n:=by simp [b9]
end
end Bk
set_option maxRecDepth 100000
theorem mO {w:World} {G:Nat→Prop} {d:Nat} {D:List Blk} (ks:List Value) (hks:ks.length=48) (n:Int) (rs:List Value) (hrs:rs.length=34) (hD:aG w G d D) (hr:-9223372036854775808≤n∧n≤9223372036854775807) (hn:n<8∨128<n∨(D.length:Int)≠2*n) :
  Calls Tryz.prog 10 #[PT d,.agg ks.toArray,.int .i64 n,.agg rs.toArray] w fun e w'=>e=.returned (.tuple #[.pointer none,.int .i64 1])∧Below w.heap.size w w':=by
 obtain ⟨w0,hw0⟩:∃ w0,w0=(w.alloc (.cells ks.toArray 29)).alloc (.cells rs.toArray 41):=⟨_,rfl⟩
 have HB0:Hid (Below w.heap.size w w0):=by rw[hw0];exact((Below.refl _ _).alloc (Nat.le_refl _) _).alloc (by simp) _
 have HF:=ae (jH (hD.below HB0.out) n hr.1 hr.2)
 rw[decide_eq_false (show ¬ (8≤n∧n≤128∧(D.length:Int)=2*n) by omega)] at HF
 have Hzk:Hid (ks.toArray.size=48):=hks
 have Hzr:Hid (rs.toArray.size=34):=hrs
 clear hD hn hr hks hrs
 go_enter Tryz.func10,Tryz.ntmps10
 go_wp2_with fail
 rw[← hw0]
 clear hw0
 refine HF.out.mono ?_
 rintro e w1 ⟨rfl,hb⟩
 have HB1:=ae (HB0.out.trans (hb.mono HB0.out.size))
 clear hb HF
 go_wp2
 go_ret2
 exact⟨rfl,HB1.out⟩
theorem oz {w:World} {G:Nat→Prop} {d:Nat} {D:List Blk} (ks:List Value) (hks:ks.length=48) (n:Int) (af:Nat) (root:List UInt8) (rs:List Value) (hroot:root.length=32) (hrs:Hid (rs=dL 0 af root)) (hb1:af≤1) (hD:aG w G d D) (hr:-9223372036854775808≤n∧n≤9223372036854775807) (hn:8≤n∧n≤128∧(D.length:Int)=2*n) :
  Calls Tryz.prog 10 #[PT d,.agg ks.toArray,.int .i64 n,.agg rs.toArray] w fun e w'=>e=.returned (.tuple #[.pointer none,.int .i64 1])∧Below w.heap.size w w':=by
 obtain ⟨w0,hw0⟩:∃ w0,w0=(w.alloc (.cells ks.toArray 29)).alloc (.cells rs.toArray 41):=⟨_,rfl⟩
 have HB0:Hid (Below w.heap.size w w0):=by rw[hw0];exact((Below.refl _ _).alloc (Nat.le_refl _) _).alloc (by simp) _
 have HY:Hid (Row w0 (w.heap.size+1) 41 rs):=by rw[hw0];exact Row.newAt 41 rs (by simp)
 have HF:=ae (jH (hD.below HB0.out) n hr.1 hr.2)
 rw[decide_eq_true hn] at HF
 have Hzk:Hid (ks.toArray.size=48):=hks
 have Hzr:Hid (rs.toArray.size=34):=by show _=_;rw[hrs.out];exact aW hroot
 have HC:Hid (∀ W,Below w0.heap.size w0 W→W.cell? ⟨w.heap.size+1,0,none⟩=some (.int .u64 0)∧W.cell? ⟨w.heap.size+1,1,none⟩=some (IV af)):=fun W hW=>by
  have:=(HY.out.below hW HY.out.lt)
  rw[hrs.out] at this
  exact⟨(this.cell 0).trans rfl,(this.cell 1).trans rfl⟩
 have Hb0:Hid (¬ (af:Int)<0∧¬ 1<(af:Int)):=by show _∧_;omega
 clear hD hn hr hks hrs hroot hb1 HY
 go_enter Tryz.func10,Tryz.ntmps10
 go_wp2_with fail
 rw[← hw0]
 clear hw0
 refine HF.out.mono ?_
 rintro e w1 ⟨rfl,hb⟩
 have HB1:=ae (HB0.out.trans (hb.mono HB0.out.size))
 obtain ⟨hc0,hc1⟩:=HC.out _ hb
 obtain ⟨hb0,hb1⟩:=Hb0.out
 clear hb HF HC Hb0
 go_wp2
 go_ret2
 exact⟨rfl,HB1.out⟩
theorem sO {w:World} {G:Nat→Prop} {d:Nat} {D:List Blk} (ek mk:List UInt8) (ks:List Value) (n ep af:Nat) (root:List UInt8) (rs:List Value) (hD:aG w G d D) (hk:cz ek mk ks) (hn:8≤n∧n≤100) (hl:D.length=2*n) (hT:Hm.Tab w) (hb1:af≤1) (hep:1≤ep∧ep≤1000000) (hroot:root.length=32) (hrs:Hid (rs=dL ep af root)) :
  Calls Tryz.prog 10 #[PT d,.agg ks.toArray,IV n,.agg rs.toArray] w fun e w' =>
   match Bk.cH mk n ep af root D with
   | some s=>∃ P F,e=.returned (.tuple #[PT P,.int .i64 0])∧BL w' F P d ek mk s∧(∀ k,F k→w.heap.size≤k)∧Below w.heap.size w w'
   | none=>e=.returned (.tuple #[.pointer none,.int .i64 10])∧Below w.heap.size w w':=by
 obtain ⟨m,hm⟩:∃ m,m=Bk.cH mk n ep af root D:=⟨_,rfl⟩
 rw[← hm]
 have HM:=ae hm
 clear hm
 obtain ⟨w0,hw0⟩:∃ w0,w0=(w.alloc (.cells ks.toArray 29)).alloc (.cells rs.toArray 41):=⟨_,rfl⟩
 have HB0:Hid (Below w.heap.size w w0):=by rw[hw0];exact((Below.refl _ _).alloc (Nat.le_refl _) _).alloc (by simp) _
 have HS0:Hid (w.heap.size+1<w0.heap.size):=by show _<_;rw[hw0];simp
 have HX:Hid (Row w0 w.heap.size 29 ks):=by rw[hw0];exact(Row.new w 29 ks).alloc _
 have HY:Hid (Row w0 (w.heap.size+1) 41 rs):=by rw[hw0];exact Row.newAt 41 rs (by simp)
 have HF:=ae (jH (hD.below HB0.out) (n:Int) (by omega) (by omega))
 rw[decide_eq_true (show (8≤(n:Int)∧(n:Int)≤128∧(D.length:Int)=2*(n:Int)) by omega)] at HF
 have Hzk:Hid (ks.toArray.size=48):=hk.size
 have Hzr:Hid (rs.toArray.size=34):=by show _=_;rw[hrs.out];exact aW hroot
 have HC:Hid (∀ W,Below w0.heap.size w0 W→W.cell? ⟨w.heap.size+1,0,none⟩=some (.int .u64 (ep:Int))∧W.cell? ⟨w.heap.size+1,1,none⟩=some (IV af)∧W.rangeAt w.heap.size 0 ks∧W.rangeAt (w.heap.size+1) 2 (root.map V8)):=fun W hW=>by
  have:=(HY.out.below hW HY.out.lt)
  rw[hrs.out] at this
  have h2:aj W (w.heap.size+1) 0 ([Value.int .u64 (ep:Int),.int .i64 (af:Int)]++root.map V8):=this.here
  exact⟨(this.cell 0).trans rfl,(this.cell 1).trans rfl,dn (HX.out.below hW HX.out.lt),h2.right.1⟩
 have Hb0:Hid (¬ (af:Int)<0∧¬ 1<(af:Int)∧((ep:Int) == 0)=false):=⟨by omega,by omega,beq_false_of_ne (by omega)⟩
 have HNb:=ae (fun W (hW:Below w.heap.size w W)=>mN d ek mk ks hk n hn.1 hn.2 ep af hb1 root hroot rs hrs W (hT.below hW))
 have HD:=ae hD
 have HT:=ae hT
 have Hn:=ae hn
 have HDl:=ae hl
 have HKv:=ae hk
 have HRv:Hid (Vec 32 root (root.map V8)):=Vec.mk 32 root hroot
 have hi1:(Tryz.prog.info? 29).map (·.size)=some ks.length:=by rw[hk.vec.len];kernel_rfl
 have hi2:(Tryz.prog.info? 27).map (·.size)=some (root.map V8).length:=by rw[List.length_map,hroot];kernel_rfl
 have HTl:Hid (0<w.heap.size):=HT.out.1
 clear hD hk hn hl hT hb1 hep hroot hrs
 go_enter Tryz.func10,Tryz.ntmps10
 go_wp2_with fail
 rw[← hw0]
 clear hw0
 refine HF.out.mono ?_
 rintro e w1 ⟨rfl,hb⟩
 have HB1:=ae hb
 obtain ⟨hc0,hc1,hcx,hcy⟩:=HC.out _ hb
 clear hcx hcy
 have hx1:Hid (Row w1 w.heap.size 29 ks∧Row w1 (w.heap.size+1) 41 rs):=⟨HX.out.below hb HX.out.lt,HY.out.below hb HY.out.lt⟩
 obtain ⟨hb0,hb2,hb3⟩:=Hb0.out
 clear hb HF Hb0 HX HY
 go_wp2_with (first
  | (refine wpList_load_row rfl 29 (.tmp 5) rfl w.heap.size rfl 29 ks.toArray (0,0) _ hx1.out.1 Tryz.underlying29 rfl (by rw[Hzk.out];kernel_rfl) ?_)
  | (refine wpList_load_row rfl 41 (.tmp 7) rfl (w.heap.size+1) rfl 41 rs.toArray (0,0) _ hx1.out.2 Tryz.underlying41 rfl (by rw[Hzr.out];kernel_rfl) ?_))
 refine(HNb.out w1 (HB0.out.trans (HB1.out.mono HB0.out.size))).mono ?_
 rintro e w2 ⟨P,T,FT,rfl,hH,hFT,hP,hPl,hb⟩
 have HB2:Hid (Below w0.heap.size w0 w2):=HB1.out.trans (hb.mono HB1.out.size)
 have HH2:Hid (∃ FT S,cQ w2 P d ek mk ⟨n,ep,af,root,Bk.gY mk n af D 0,[],0,[]⟩ ks T FT .nilFunc S 0∧∀ k,FT k→w0.heap.size≤k):=⟨FT,_,by rw[Bk.xG];exact hH,fun k hk=>Nat.le_trans HB1.out.size (hFT k hk)⟩
 have HP2:Hid (w0.heap.size≤P):=Nat.le_trans HB1.out.size hP
 clear hH hFT hP hPl hb HNb hx1 HB1 hc0 hc1 hb0 hb2 hb3 w1
 go_wp2
 go_loopw [11,37] (fun _ i wr=>∃ k:Nat,k≤n∧i=.int .i64 k∧Hid (Below w0.heap.size w0 wr)∧Hid (∃ FT S,cQ wr P d ek mk ⟨n,ep,af,root,Bk.gY mk n af D k,[],0,[]⟩ ks T FT .nilFunc S 0∧∀ k,FT k→w0.heap.size≤k)) (fun _ i _=>n - (RowKit.intOf i).toNat)
 case atStart=>exact⟨0,by omega,rfl,HB2,HH2⟩
 case round =>
  obtain ⟨k,hkn,rfl,HB,HHk⟩:=hrel
  rename World=>w3
  clear HB2 HH2
  by_cases hlt:k<n
  ·obtain ⟨FTk,Sk,hH,ui⟩:=HHk.out
   have HFT:=ae ui
   have HH:=ae hH
   have HBw:Hid (Below w.heap.size w w3):=HB0.out.trans (HB.out.mono HB0.out.size)
   have hcl:(Bk.aq D (af*n+k)).length=72:=qo HD.out (by
    have:=HDl.out
    have:=Nat.mul_le_mul_right n (show af≤1 from hH.b1)
    omega)
   have HRw:=ae (fun W (hW:Below w3.heap.size w3 W)=>qI (hH.below hW) (HD.out.below (HBw.out.trans (hW.mono HBw.out.size))) k hlt HDl.out)
   dsimp only at HRw
   have HTk:Hid (tg mk k (Bk.aq D (af*n+k))=tg mk k (Bk.aq D (af*n+k))):=rfl
   have CN:Hid ((Bk.gY mk n af D k).set k (tg mk k (Bk.aq D (af*n+k)))=Bk.gY mk n af D (k+1)):=Bk.xH k hlt
   have HLk:Hid (k<(Bk.gY mk n af D k).length):=by show _<_;rw[Bk.mh k (by omega)];exact hlt
   have HTg:Hid (∀ (W:World) (v:Value),Below w3.heap.size w3 W→Arg W v (Bk.aq D (af*n+k))→Calls Tryz.prog 36 #[.agg ks.toArray,IV k,v] W fun e w'=>∃ rs:List Value,Hid (Vec 32 (tg mk k (Bk.aq D (af*n+k))) rs)∧e=.returned (.agg rs.toArray)∧Below W.heap.size W w'):=fun W v hW hv=>by
    have:=mM ek mk ks HKv.out (k:Int) _ (by rw[hcl];omega) v W (HT.out.below (HBw.out.trans (hW.mono HBw.out.size))) hv
    rw[nmN k (by have:=Hn.out;omega)] at this
    exact this
   have qM:=ae hcl
   generalize tg mk k (Bk.aq D (af*n+k))=tag at *
   generalize Bk.aq D (af*n+k)=cur at *
   have ai:Hid (∀ W,Below w3.heap.size w3 W→W.cell? ⟨P,83,none⟩=some (PT T)∧W.rangeAt w.heap.size 0 ks):=fun W hW=>⟨(HH.out.below hW).at_.cells.2.2.2.1,(HC.out W (HB.out.trans (hW.mono HB.out.size))).2.2.1⟩
   have HKc:Hid (∀ W,Chg (fun k _=>FTk k) w3 W→W.cell? ⟨P,83,none⟩=some (PT T)∧W.rangeAt w.heap.size 0 ks):=fun W hW=>by
    have hW0:Below w0.heap.size w0 W:=Mr.kZ HB.out HB.out.size hW fun k _ hk=>HFT.out k hk
    exact⟨(HH.out.at_.chg hW fun _=>HH.out.PF).cells.2.2.2.1,(HC.out W hW0).2.2.1⟩
   have eT:Hid (∀ W,(∃ F',Mr.T9 W F' T mk ((Bk.gY mk n af D k).set k tag) (Sk.set k true) 0∧(∀ k,F' k→FTk k∨w3.heap.size≤k))→Chg (fun k _=>FTk k) w3 W→Below w0.heap.size w0 W∧∃ FT S,cQ W P d ek mk ⟨n,ep,af,root,Bk.gY mk n af D (k+1),[],0,[]⟩ ks T FT .nilFunc S 0∧∀ k,FT k→w0.heap.size≤k):=fun W ⟨F',hT',hF'⟩ hC=>by
    rw[CN.out] at hT'
    have hPl:=HH.out.at_.c0.lt (by simp)
    refine⟨Mr.kZ HB.out HB.out.size hC fun k _ hk=>HFT.out k hk,F',_,⟨HH.out.at_.chg hC fun _=>HH.out.PF,HH.out.keys,hT',Bk.mh _ (by omega),HH.out.n8,HH.out.r32,HH.out.b1,fun hk=>(hF' P hk).elim HH.out.PF fun h=>by omega⟩,fun k hk=>(hF' k hk).elim (HFT.out k) fun h=>Nat.le_trans HB.out.size h⟩
   clear hH ui hcl HHk HTk HBw
   go_wp2_with fail
   have hC:Below w3.heap.size w3 w3.drew:=below_drewN (Below.refl _ _) 1
   refine wp_region_held_drew (S:=(fun W=>W.cell? ⟨P,83,none⟩=some (PT T)∧W.rangeAt w.heap.size 0 ks)) (by kernel_rfl) (ai.out _ hC) (fun aa=>?_)
   generalize w3.drew=w3d at *
   refine tkq 0 40 aa ?_
   try go_frame
   refine tkq 1 41 aa ?_
   try go_frame
   refine tkq 2 42 aa ?_
   try go_frame
   refine tkh 3 43 rfl aa ?_ (Or.inl ⟨by rfl,by intro w hSw;have hc:=hSw.1;go_simp;with_reducible rfl⟩)
   try go_frame
   refine tkq 4 44 aa ?_
   try go_frame
   refine tkh 5 45 (v:=.agg (ks).toArray) rfl aa ?_ (yieldsIf_load_mid (by rfl) 29 (.tmp 5) rfl (w.heap.size) 0 rfl (ks) _ (fun W h=>h.2) Tryz.underlying29 rfl hi1)
   try go_frame
   refine tkq 6 46 aa ?_
   try go_frame
   refine tkq 7 47 aa ?_
   try go_frame
   refine tkq 8 48 aa ?_
   try go_frame
   refine rdq 9 49 fun K hK=>?_
   go_simp
   go_at_call 37
   refine(HRw.out w3d hC).mono ?_
   rintro e Db ⟨oO,rfl,_,hR,hb⟩
   have qO:Hid (Arg Db (.slice (some ⟨oO,0,none⟩) 72 72) cur):=.inr ⟨oO,0,72,by rw[qM.out],hR.out.lt (by rw[List.length_map,qM.out];omega),by rw[qM.out];omega,hR.out.1⟩
   replace hC:=hC.trans (hb.mono hC.size)
   refine hK.out _ _ (ai.out _ hC) (fun aa=>?_)
   clear hK K hb 
   clear hR
   try go_frame
   refine rdq 10 50 fun K hK=>?_
   go_simp
   go_at_call 36
   refine(HTg.out Db _ hC qO.out).mono ?_
   rintro e L3 ⟨ts,Hts,rfl,hb⟩
   replace hC:=hC.trans (hb.mono hC.size)
   replace qO:=ae (qO.out.below hb)
   refine hK.out _ _ (ai.out _ hC) (fun aa=>?_)
   clear hK K hb 
   try go_frame
   refine rdq 11 51 fun K hK=>?_
   go_simp
   go_at_call 35
   have HTr:=(HH.out.below hC).tree
   have hsC:=hC.size
   refine(Mr.aL.zL HTr k tag ts HLk.out Hts.out).mono ?_
   rintro e w7 ⟨rfl,F',hT7,hF7,hC7⟩
   have HC7:Hid (Chg (fun k _=>FTk k) w3 w7):=(Chg.below hC _).then hC7
   have HE7:=ae (eT.out w7 ⟨F',hT7,fun k hk=>(hF7 k hk).imp id fun h=>Nat.le_trans hsC h⟩ HC7.out)
   clear hT7 hF7 hC7 HTr hsC
   refine hK.out _ _ (HKc.out _ HC7.out) (fun aa=>?_)
   clear hK K
   try go_frame
   refine wpAnyH_done (by kernel_rfl) ?_ _
   clear ai aa HKc HRw HTg eT HH HFT hC
   have eU:=Hn.out.2
   go_wp2
   go_roundw
   case rel=>exact⟨k+1,by omega,by go_num,HE7.out.1,HE7.out.2⟩
   case measure=>simp [RowKit.intOf];omega
  ·obtain rfl:k=n:=by omega
   rw[Bk.A4] at HHk
   obtain ⟨FTk,Sk,hH,ui⟩:=HHk.out
   have hBw:Below w.heap.size w w3:=HB0.out.trans (HB.out.mono HB0.out.size)
   have HRt:=ae (fun W (hW:Below w3.heap.size w3 W)=>Mr.aL.root (hH.below hW).tree (HT.out.below (hBw.trans (hW.mono hBw.size))) (fun k hk e=>by have:=ui k hk;have:=HTl.out;have:=HB0.out.size;omega) (by omega) (Bk.hB (Bk.b9 mk k af D).length) (Bk.sD _ (by rw[Bk.lr];exact Hn.out.2)))
   have ai:Hid (∀ W,Below w3.heap.size w3 W→W.cell? ⟨P,83,none⟩=some (PT T)∧W.rangeAt (w.heap.size+1) 2 (root.map V8)):=fun W hW=>⟨(hH.below hW).at_.cells.2.2.2.1,(HC.out W (HB.out.trans (hW.mono HB.out.size))).2.2.2⟩
   have HKc:Hid (∀ W,Chg (fun k _=>FTk k) w3 W→W.cell? ⟨P,83,none⟩=some (PT T)∧W.rangeAt (w.heap.size+1) 2 (root.map V8)):=fun W hW=>by
    have hW0:Below w0.heap.size w0 W:=Mr.kZ HB.out HB.out.size hW fun k _ hk=>ui k hk
    exact⟨(hH.at_.chg hW fun _=>hH.PF).cells.2.2.2.1,(HC.out W hW0).2.2.2⟩
   have eT:Hid (∀ W V',(∃ F' S',Mr.T9 W F' T mk (Bk.b9 mk k af D) S' V'∧(∀ k,F' k→FTk k∨w3.heap.size≤k))→Chg (fun k _=>FTk k) w3 W→Below w.heap.size w W∧∃ F,BL W F P d ek mk ⟨k,ep,af,root,Bk.b9 mk k af D,[],0,[]⟩∧(∀ k,F k→w.heap.size≤k)):=fun W V' ⟨F',S',hT',hF'⟩ hC=>by
    have hPl:=hH.at_.c0.lt (by simp)
    have hb:Below w0.heap.size w0 W:=Mr.kZ HB.out HB.out.size hC fun k _ hk=>ui k hk
    have hw0:=HB0.out.size
    refine⟨HB0.out.trans (hb.mono HB0.out.size),fun k=>k=P∨F' k,⟨ks,T,F',.nilFunc,S',V',⟨hH.at_.chg hC fun _=>hH.PF,hH.keys,hT',Bk.lr,hH.n8,hH.r32,hH.b1,fun hk=>(hF' P hk).elim hH.PF fun h=>by omega⟩,.inl rfl,fun _ hk=>.inr hk,fun k hk=>hk.elim (fun e=>by rw[e];exact Nat.lt_of_lt_of_le hPl hC.size) (Mr.aL.lt hT' k),.inl ⟨rfl,rfl⟩⟩,fun k hk=>?_⟩
    rcases hk with e | hk
    ·rw[e];have:=HP2.out;omega
    ·have h3:=HB.out.size
     exact(hF' k hk).elim (fun h=>by have:=ui k h;omega) fun h=>by omega
   have HBk:Hid ((Bk.b7 mk (Bk.b9 mk k af D)=root→Bk.cH mk k ep af root D=some ⟨k,ep,af,root,Bk.b9 mk k af D,[],0,[]⟩)∧(Bk.b7 mk (Bk.b9 mk k af D)≠root→Bk.cH mk k ep af root D=none)):=⟨fun h=>by unfold Bk.cH;rw[if_pos h],fun h=>by unfold Bk.cH;rw[if_neg h]⟩
   have HRB:Hid (Bk.b7 mk (Bk.b9 mk k af D)=Mr.Mk.root mk (Bk.b9 mk k af D) (Bk.hB (Bk.b9 mk k af D).length)):=rfl
   rw[← HRB.out] at HRt
   generalize Bk.b7 mk (Bk.b9 mk k af D)=rt at *
   by_cases hrt:rt=root
   ·have hm2:=HM.out.trans (HBk.out.1 hrt)
    subst hm2
    subst hrt
    clear HM
    clear HBk hH ui hBw HHk HRB hi1
    go_wp2_with fail
    have hC:Below w3.heap.size w3 w3.drew:=below_drewN (Below.refl _ _) 1
    refine wp_region_held_drew (S:=(fun W=>W.cell? ⟨P,83,none⟩=some (PT T)∧W.rangeAt (w.heap.size+1) 2 (rt.map V8))) (by kernel_rfl) (ai.out _ hC) (fun aa=>?_)
    generalize w3.drew=w3d at *
    refine tkq 0 53 aa ?_
    try go_frame
    refine tkq 1 54 aa ?_
    try go_frame
    refine tkq 2 55 aa ?_
    try go_frame
    refine tkh 3 56 rfl aa ?_ (Or.inl ⟨by rfl,by intro w hSw;have hc:=hSw.1;go_simp;with_reducible rfl⟩)
    try go_frame
    refine tkq 5 58 aa ?_
    try go_frame
    refine tkh 6 59 (v:=.agg (rt.map V8).toArray) rfl aa ?_ (yieldsIf_load_mid (by rfl) 27 (.tmp 58) rfl ((w.heap.size+1)) 2 rfl (rt.map V8) _ (fun W h=>h.2) Tryz.underlying27 rfl hi2)
    try go_frame
    refine rdq 4 57 fun K hK=>?_
    go_simp
    go_at_call 38
    have hsC:=hC.size
    refine(HRt.out _ hC).mono ?_
    rintro e w7 ⟨rs7,⟨LH,rfl⟩,F',hT7,hF7,hC7⟩
    have HC7:Hid (Chg (fun k _=>FTk k) w3 w7):=(Chg.below hC _).then hC7
    have HE7:=ae (eT.out w7 _ ⟨F',_,hT7,fun k hk=>(hF7 k hk).imp id fun h=>Nat.le_trans hsC h⟩ HC7.out)
    clear hT7 hF7 hC7 hsC
    have HEq:Hid (∀ W,(Op.equalIn 10000 27 (.agg rs7.toArray) (.agg (rt.map V8).toArray)).run Tryz.prog W=.ok true W):=fun W=>by
     have:=qz 27 32 Tryz.underlying27 rt rt rs7 (rt.map V8) LH.out HRv.out W
     rwa [decide_eq_true rfl] at this
    refine hK.out _ _ (HKc.out _ HC7.out) (fun aa=>?_)
    clear hK K
    try go_frame
    refine tkh 7 60 rfl aa ?_ (Or.inl ⟨by rfl,by intro w hSw;have hc:=HEq.out w;go_simp;with_reducible rfl⟩)
    try go_frame
    refine wpAnyH_done (by kernel_rfl) ?_ _
    clear ai aa HKc HRt eT hC HEq
    go_wp2
    go_ret2
    exact⟨P,rfl,HE7.out.2.choose,HE7.out.2.choose_spec.1,HE7.out.2.choose_spec.2,HE7.out.1⟩
   ·have hm2:=HM.out.trans (HBk.out.2 hrt)
    subst hm2
    clear HM
    have HNE:=ae hrt
    clear HBk hH ui hBw HHk HRB hi1 hrt
    go_wp2_with fail
    have hC:Below w3.heap.size w3 w3.drew:=below_drewN (Below.refl _ _) 1
    refine wp_region_held_drew (S:=(fun W=>W.cell? ⟨P,83,none⟩=some (PT T)∧W.rangeAt (w.heap.size+1) 2 (root.map V8))) (by kernel_rfl) (ai.out _ hC) (fun aa=>?_)
    generalize w3.drew=w3d at *
    refine tkq 0 53 aa ?_
    try go_frame
    refine tkq 1 54 aa ?_
    try go_frame
    refine tkq 2 55 aa ?_
    try go_frame
    refine tkh 3 56 rfl aa ?_ (Or.inl ⟨by rfl,by intro w hSw;have hc:=hSw.1;go_simp;with_reducible rfl⟩)
    try go_frame
    refine tkq 5 58 aa ?_
    try go_frame
    refine tkh 6 59 (v:=.agg (root.map V8).toArray) rfl aa ?_ (yieldsIf_load_mid (by rfl) 27 (.tmp 58) rfl ((w.heap.size+1)) 2 rfl (root.map V8) _ (fun W h=>h.2) Tryz.underlying27 rfl hi2)
    try go_frame
    refine rdq 4 57 fun K hK=>?_
    go_simp
    go_at_call 38
    have hsC:=hC.size
    refine(HRt.out _ hC).mono ?_
    rintro e w7 ⟨rs7,⟨LH,rfl⟩,F',hT7,hF7,hC7⟩
    have HC7:Hid (Chg (fun k _=>FTk k) w3 w7):=(Chg.below hC _).then hC7
    have HE7:=ae (eT.out w7 _ ⟨F',_,hT7,fun k hk=>(hF7 k hk).imp id fun h=>Nat.le_trans hsC h⟩ HC7.out)
    clear hT7 hF7 hC7 hsC
    have HEq:Hid (∀ W,(Op.equalIn 10000 27 (.agg rs7.toArray) (.agg (root.map V8).toArray)).run Tryz.prog W=.ok false W):=fun W=>by
     have:=qz 27 32 Tryz.underlying27 rt root rs7 (root.map V8) LH.out HRv.out W
     rwa [decide_eq_false HNE.out] at this
    refine hK.out _ _ (HKc.out _ HC7.out) (fun aa=>?_)
    clear hK K
    try go_frame
    refine tkh 7 60 rfl aa ?_ (Or.inl ⟨by rfl,by intro w hSw;have hc:=HEq.out w;go_simp;with_reducible rfl⟩)
    try go_frame
    refine wpAnyH_done (by kernel_rfl) ?_ _
    clear ai aa HKc HRt eT hC HEq
    go_wp2
    go_ret2
    exact⟨rfl,HE7.out.1⟩
set_option maxRecDepth 512
theorem k6:Pk BL where
 lt:=fun⟨_,_,_,_,_,_,_,_,_,h,_⟩=>h
 stay:=fun h hc hn=>h.stay hc hn
 nA:=fun ek mk ks n hD hk hr hn=>kO ek mk ks n hD hk hr hn
 E6:=fun ek mk ks n hD hk hn hl hT hG=>qJ ek mk ks n hD hk hn hl hT hG
 En:=fun {_ _ _ D} ek mk ks n ep af root rs hD hk hr hroot hrs hb1 hep hn=>by
  by_cases h:n<8∨128<n∨(D.length:Int)≠2*n
  ·exact mO ks hk.vec.len n rs (by rw[hrs.out,aW hroot]) hD hr h
  ·obtain rfl:ep=0:=by omega
   exact oz ks hk.vec.len n af root rs hroot hrs hb1 hD hr (by omega)
 GX:=fun ek mk ks n ep af root rs hD hk hn hl hT _ hb1 hep hroot hrs=>sO ek mk ks n ep af root rs hD hk hn hl hT hb1 hep hroot hrs
 reg:=fun⟨_,_,_,_,_,_,hH,_⟩ rs hrs=>FP hH.at_ hH.r32 rs hrs
 busy:=fun h=>jI h
 zO:=fun⟨_,_,_,_,_,_,hH,_⟩ i _ hi=>(CI hH i hi).mono fun e w' ⟨he,hb⟩=>⟨_,he,Own.nil _ _ _,hb⟩
 J1:=fun h hD hl _ hT i hi=>sN h hD hl hT i hi
 bA:=fun h K v l hP _ hep hT hl _=>l4 h K v l hP hep hT hl
 step:=fun h hD hFG hl _ hep hT hF _=>nQ h hD hFG hl hep hT hF
namespace Bk
theorem tM (mk:List UInt8) (l:List (List UInt8)) (h32:∀ t∈l,t.length=32) (h:l.length≤100):(b7 mk l).length=32:=by
 unfold b7
 rw[Mr.Mt.oW mk l _ (sD _ h)]
 exact Mr.Mt.zD mk l h32 _ _
section
variable {ek mk:List UInt8} {n:Nat} {D:List Blk}
theorem oP.t32 {af ep:Nat} {tags:List (List UInt8)} {want:Nat→List UInt8} (h:oP ek mk D n af ep tags want):∀ t∈tags,t.length=32:=fun t ht=>by
 obtain ⟨i,hi,e⟩:=List.getElem_of_mem ht
 have:=h.tag i (by rw[← h.GB];exact hi)
 rw[List.getD_eq_getElem?_getD,List.getElem?_eq_getElem hi] at this
 rw[← e]
 show (tags[i]).length=32
 rw[show tags[i]=_ from this,jk]
theorem BX (hl:D.length=2*n) (mI:n≤100):∃ tags D1,format ek mk n D=(⟨n,1,0,b7 mk tags,tags,[],0,[]⟩,D1)∧D1.length=2*n∧oP ek mk D1 n 0 1 tags (fun _=>z64)∧(b7 mk tags).length=32:=by
 have hL:oP ek mk (flush (bw ek mk n 0 1 (fun _=>z64) n D).1) n 0 1 (bw ek mk n 0 1 (fun _=>z64) n D).2 (fun _=>z64):=yx (by omega) fun _ _=>jJ
 exact⟨_,_,rfl,by rw[fI,(cC _).1,hl],hL,tM mk _ hL.t32 (by rw[hL.GB];exact mI)⟩
end
end Bk
def Duo (w0 W:World) (X:Nat→Prop) (P d:Nat) (ek mk:List UInt8) (s:Bk.Bn) (D:List Blk):Prop :=
 ∃ F G,BL W F P d ek mk s∧aG W G d D∧(∀ k,F k→¬ G k)∧(∀ k,F k→w0.heap.size≤k∧¬ X k)∧(∀ k,G k→w0.heap.size≤k∧¬ X k)∧(∀ k,X k→k<W.heap.size)∧Below w0.heap.size w0 W
def FrX (w0:World) (X:Nat→Prop):Nat→Nat→Prop:=fun k _=>w0.heap.size≤k∧¬ X k
theorem nC {w0 W W':World} {S:Nat→Nat→Prop} (hb:Below w0.heap.size w0 W) (hc:Chg S W W') (hS:∀ k o,k<W.heap.size→S k o→w0.heap.size≤k):Below w0.heap.size w0 W' :=
 hb.trans ⟨hc.os,hc.tape,hc.output,hc.size,fun k hk=>hc.block k (Nat.lt_of_lt_of_le hk hb.size) fun o ho=>by have:=hS k o (Nat.lt_of_lt_of_le hk hb.size) ho;omega⟩
section
variable {w0 W W':World} {X:Nat→Prop} {P d:Nat} {ek mk:List UInt8} {s s':Bk.Bn} {D D':List Blk}
theorem Duo.below (h:Duo w0 W X P d ek mk s D):Below w0.heap.size w0 W:=by
 obtain ⟨_,_,_,_,_,_,_,_,hb⟩:=h
 exact hb
theorem Duo.tab (h:Duo w0 W X P d ek mk s D) (hT:Hm.Tab w0):Hm.Tab W:=hT.stay hT.1 h.below
theorem Duo.chg {S:Nat→Nat→Prop} (h:Duo w0 W X P d ek mk s D) (hc:Chg S W W') (hS:∀ k o,k<W.heap.size→S k o→X k∧w0.heap.size≤k):Duo w0 W' X P d ek mk s D:=by
 obtain ⟨F,G,hL,hD,hFG,hF,hG,hX,hb⟩:=h
 have hc':Chg (fun k _=>X k∧w0.heap.size≤k) W W':=hc.mono fun k o hk hs=>hS k o hk hs
 exact⟨F,G,hL.stay hc' fun k _ hf hs=>(hF k hf).2 hs.1,hD.stay hc' fun k _ hg hs=>(hG k hg).2 hs.1,hFG,hF,hG,fun k hk=>Nat.lt_of_lt_of_le (hX k hk) hc.size,nC hb hc' fun k _ _ hs=>hs.2⟩
theorem Duo.stay (h:Duo w0 W X P d ek mk s D) (hb:Below W.heap.size W W'):Duo w0 W' X P d ek mk s D:=h.chg (Chg.below hb fun _ _=>False) fun _ _ _ x=>x.elim
theorem Duo.lt (h:Duo w0 W X P d ek mk s D):∀ k,X k→k<W.heap.size:=by
 obtain ⟨_,_,_,_,_,_,_,hX,_⟩:=h
 exact hX
theorem Duo.nE (h:Duo w0 W X P d ek mk s D) (hb:Below W.heap.size W W') (Y:Nat→Prop) (hY:∀ k,Y k→X k∨(W.heap.size≤k∧k<W'.heap.size)):Duo w0 W' Y P d ek mk s D:=by
 obtain ⟨F,G,hL,hD,hFG,hF,hG,hX,hb0⟩:=h
 have hFl:∀ k,F k→k<W.heap.size:=k6.lt hL
 have hGl:∀ k,G k→k<W.heap.size:=hD.lt
 refine⟨F,G,hL.stay (Chg.below hb fun _ _=>False) (fun _ _ _ x=>x),hD.below hb,hFG,fun k hk=>⟨(hF k hk).1,fun hy=>?_⟩,fun k hk=>⟨(hG k hk).1,fun hy=>?_⟩,fun k hk=>?_,hb0.trans (hb.mono hb0.size)⟩
 ·rcases hY k hy with h | h
  ·exact(hF k hk).2 h
  ·have:=hFl k hk;omega
 ·rcases hY k hy with h | h
  ·exact(hG k hk).2 h
  ·have:=hGl k hk;omega
 ·rcases hY k hk with h | h
  ·exact Nat.lt_of_lt_of_le (hX k h) hb.size
  ·exact h.2
theorem Duo.after {F G:Nat→Prop} (hF:∀ k,F k→w0.heap.size≤k∧¬ X k) (hG:∀ k,G k→w0.heap.size≤k∧¬ X k) (hX:∀ k,X k→k<W.heap.size) (hb:Below w0.heap.size w0 W) (h:ji BL W F G W' P d ek mk s' D'):Duo w0 W' X P d ek mk s' D'∧Chg (FrX w0 X) W W':=by
 obtain ⟨F',G',hL,hD,hFG,hF',hG',hC⟩:=h
 have hs:=hb.size
 have nw:∀ k,W.heap.size≤k→w0.heap.size≤k∧¬ X k:=fun k hk=>⟨by omega,fun hx=>by have:=hX k hx;omega⟩
 exact⟨⟨F',G',hL,hD,hFG,fun k hk=>(hF' k hk).elim (hF k) (nw k),fun k hk=>(hG' k hk).elim (hG k) (nw k),fun k hk=>Nat.lt_of_lt_of_le (hX k hk) hC.size,nC hb hC fun k _ _ hk=>hk.elim (fun h=>(hF k h).1) fun h=>(hG k h).1⟩,hC.mono fun k _ _ hk=>hk.elim (hF k) (hG k)⟩
theorem Duo.step (h:Duo w0 W X P d ek mk s D) (hT:Hm.Tab w0) (hl:D.length=2*s.n) (hep:s.ep≤1000000):Calls Tryz.prog 19 #[PT P] W fun e w'=>e=.returned (.tuple #[.bool (Bk.step ek mk s D).2.1,.int .i64 ((Bk.step ek mk s D).2.2:Int)])∧Duo w0 w' X P d ek mk (Bk.step ek mk s D).1.1 (Bk.step ek mk s D).1.2∧Chg (FrX w0 X) W w':=by
 have hTW:=h.tab hT
 obtain ⟨F,G,hL,hD,hFG,hF,hG,hX,hb⟩:=h
 refine(nQ hL hD hFG hl hep hTW fun k hk e=>by have:=(hF k hk).1;have:=hT.1;omega).mono ?_
 rintro e w' ⟨rfl,hA⟩
 exact⟨rfl,Duo.after hF hG hX hb hA⟩
theorem Duo.bA (h:Duo w0 W X P d ek mk s D) (hT:Hm.Tab w0) {K:Nat→Prop} {v:Value} {l:List (List UInt8)} (hP:aI W K v l) (hep:s.ep≤1000000) (hl:l.length≤1000):Calls Tryz.prog 16 #[PT P,v] W fun e w'=>e=.returned (.int .i64 ((Bk.bA s l).2:Int))∧Duo w0 w' X P d ek mk (Bk.bA s l).1 D∧Chg (FrX w0 X) W w':=by
 have hTW:=h.tab hT
 obtain ⟨F,G,hL,hD,hFG,hF,hG,hX,hb⟩:=h
 refine(l4 hL K v l hP hep hTW hl).mono ?_
 rintro e w' ⟨rfl,F',hL',hF',hC⟩
 refine⟨rfl,Duo.after hF hG hX hb ⟨F',G,hL',hD.stay hC fun k _ hg hf=>hFG k hf hg,fun k hk hg=>(hF' k hk).elim (fun h=>hFG k h hg) fun h=>by have:=hD.lt k hg;omega,hF',fun _ hg=>.inl hg,hC.mono fun _ _ _ h=>.inl h⟩⟩
theorem Duo.busy (h:Duo w0 W X P d ek mk s D):Calls Tryz.prog 29 #[PT P] W fun e w'=>e=.returned (.bool (decide (s.L≠[])))∧Below W.heap.size W w':=by
 obtain ⟨F,G,hL,_⟩:=h
 exact jI hL
theorem Duo.reg (h:Duo w0 W X P d ek mk s D) (rs:List Value) (hrs:Hid (rs=dL s.ep s.af s.root)):Calls Tryz.prog 24 #[PT P] W fun e w'=>e=.returned (.agg rs.toArray)∧Below W.heap.size W w':=by
 obtain ⟨F,G,hL,_⟩:=h
 exact k6.reg hL rs hrs
theorem Duo.read (h:Duo w0 W X P d ek mk s D) (hT:Hm.Tab w0) (hl:D.length=2*s.n) (i:Nat) (hi:i<s.n):Calls Tryz.prog 21 #[PT P,IV i] W fun e w'=>∃ v,e=.returned (.tuple #[v,.int .i64 (if (Bk.read ek mk s D i).isSome then 0 else 10)])∧Hid (Own w' W.heap.size 5 v (((Bk.read ek mk s D i).getD []).map V8))∧Below W.heap.size W w':=by
 have hTW:=h.tab hT
 obtain ⟨F,G,hL,hD,_⟩:=h
 exact sN hL hD hl hTW i hi
theorem Duo.n100 (h:Duo w0 W X P d ek mk s D):8≤s.n∧s.n≤100∧s.af≤1∧s.root.length=32∧s.tags.length=s.n:=by
 obtain ⟨F,G,⟨_,_,_,_,_,_,hH,_⟩,_⟩:=h
 exact⟨hH.n8,hH.n100,hH.b1,hH.r32,hH.tl⟩
end
theorem Duo.format {w0 W:World} {X G:Nat→Prop} {d:Nat} {D:List Blk} (ek mk:List UInt8) (ks:List Value) (n:Nat) (hD:aG W G d D) (hG:∀ k,G k→w0.heap.size≤k∧¬ X k) (hX:∀ k,X k→k<W.heap.size) (hb:Below w0.heap.size w0 W) (hk:cz ek mk ks) (hn:8≤n∧n≤100) (hl:D.length=2*n) (hT:Hm.Tab w0) :
  Calls Tryz.prog 9 #[PT d,.agg ks.toArray,IV n] W fun e w'=>∃ P,e=.returned (.tuple #[PT P,.int .i64 0])∧Duo w0 w' X P d ek mk (Bk.format ek mk n D).1 (Bk.format ek mk n D).2∧Chg (FrX w0 X) W w':=by
 refine(qJ ek mk ks n hD hk hn hl (hT.stay hT.1 hb) fun k hk e=>by have:=(hG k hk).1;have:=hT.1;omega).mono ?_
 rintro e w' ⟨P,rfl,hA⟩
 exact⟨P,rfl,Duo.after (fun k h=>h.elim) hG hX hb hA⟩
theorem Duo.nA {w0 W:World} {X:Nat→Prop} {P d:Nat} {ek mk ek' mk':List UInt8} {s:Bk.Bn} {D:List Blk} (h:Duo w0 W X P d ek mk s D) (ks:List Value) (n:Int) (hk:cz ek' mk' ks) (hr:-9223372036854775808≤n∧n≤9223372036854775807) (hn:n<8∨128<n∨(D.length:Int)≠2*n) :
  Calls Tryz.prog 9 #[PT d,.agg ks.toArray,.int .i64 n] W fun e w'=>e=.returned (.tuple #[.pointer none,.int .i64 1])∧Below W.heap.size W w':=by
 obtain ⟨F,G,hL,hD,_⟩:=h
 exact kO ek' mk' ks n hD hk hr hn
theorem Duo.BJ {w0 W:World} {X:Nat→Prop} {P d:Nat} {ek mk:List UInt8} {s:Bk.Bn} {D:List Blk} (h:Duo w0 W X P d ek mk s D) (ks:List Value) (hks:ks.length=48) (n:Int) (af:Nat) (root:List UInt8) (rs:List Value) (hroot:root.length=32) (hrs:Hid (rs=dL 0 af root)) (hb1:af≤1) (hr:-9223372036854775808≤n∧n≤9223372036854775807) (hn:8≤n∧n≤128∧(D.length:Int)=2*n) :
  Calls Tryz.prog 10 #[PT d,.agg ks.toArray,.int .i64 n,.agg rs.toArray] W fun e w'=>e=.returned (.tuple #[.pointer none,.int .i64 1])∧Below W.heap.size W w':=by
 obtain ⟨F,G,hL,hD,_⟩:=h
 exact oz ks hks n af root rs hroot hrs hb1 hD hr hn
theorem zN {w w':World} {S:Nat→Nat→Prop} {g:Nat} {t:TypeId} {cs:List Value} (h:Row w g t cs) (hc:Chg S w w') (hn:∀ o,¬ S g o):Row w' g t cs:=h.same (hc.block g h.lt hn)
theorem gR {w0 w w':World} {X:Nat→Prop} {g:Nat} {t:TypeId} {cs:List Value} (h:Row w g t cs) (hc:Chg (FrX w0 X) w w') (hX:X g):Row w' g t cs:=zN h hc fun _ hs=>hs.2 hX
theorem Duo.cH {w0 W:World} {X:Nat→Prop} {P d:Nat} {ek mk:List UInt8} {s:Bk.Bn} {D:List Blk} (h:Duo w0 W X P d ek mk s D) (hT:Hm.Tab w0) (ks:List Value) (hk:cz ek mk ks) (ep af:Nat) (root:List UInt8) (rs:List Value) (hl:D.length=2*s.n) (hb1:af≤1) (hep:1≤ep∧ep≤1000000) (hroot:root.length=32) (hrs:Hid (rs=dL ep af root)) :
  Calls Tryz.prog 10 #[PT d,.agg ks.toArray,IV s.n,.agg rs.toArray] W fun e w' =>
   match Bk.cH mk s.n ep af root D with
   | some s'=>∃ P',e=.returned (.tuple #[PT P',.int .i64 0])∧Duo w0 w' X P' d ek mk s' D∧Duo w0 w' X P d ek mk s D∧Below W.heap.size W w'
   | none=>e=.returned (.tuple #[.pointer none,.int .i64 10])∧Duo w0 w' X P d ek mk s D∧Below W.heap.size W w':=by
 have hn:=h.n100
 have hTW:=h.tab hT
 have h0:=h
 obtain ⟨F,G,hL,hD,hFG,hF,hG,hX,hb⟩:=h
 refine(sO ek mk ks s.n ep af root rs hD hk ⟨hn.1,hn.2.1⟩ hl hTW hb1 hep hroot hrs).mono ?_
 intro e w' hR
 cases hm:Bk.cH mk s.n ep af root D with
 | none =>
  rw[hm] at hR
  exact⟨hR.1,h0.stay hR.2,hR.2⟩
 | some s' =>
  rw[hm] at hR
  obtain ⟨P',F',rfl,hL',hF',hb'⟩:=hR
  have hs:=hb.size
  exact⟨P',rfl,⟨F',G,hL',hD.below hb',fun k hk hg=>by have:=hF' k hk;have:=hD.lt k hg;omega,fun k hk=>⟨by have:=hF' k hk;omega,fun hx=>by have:=hF' k hk;have:=hX k hx;omega⟩,hG,fun k hk=>Nat.lt_of_lt_of_le (hX k hk) hb'.size,hb.trans (hb'.mono hb.size)⟩,h0.stay hb',hb'⟩
end Go.Proofs.YthbmknpbcgnabaaGreatDoor
