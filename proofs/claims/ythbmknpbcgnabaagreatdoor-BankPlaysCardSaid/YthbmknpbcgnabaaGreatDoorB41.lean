/- Of the walk. -/
import Derived.Test.YthbmknpbcgnabaaGreatDoorB40
set_option maxHeartbeats 40000000
namespace Go.Proofs.YthbmknpbcgnabaaGreatDoor
open Go.RowKit Aes Ctr Sl Dsk
structure TD where
 what:Int
 i:Int
 k:Int
 x:UInt8
 vb:Value
 vk:Value
 keep:List Bool
def TD.cells (d:TD):List Value:=[.int .i64 d.what,.int .i64 d.i,.int .i64 d.k,.int .u8 d.x.toNat,d.vb,d.vk]
structure TD.ok (w:World) (d:TD):Prop where
 form:∃ A n c,d.vb=.slice A n c
 keeps:bq w d.vk (d.keep.map Value.bool)
 lo:-9223372036854775808≤d.what
 hi:d.what≤9223372036854775807
theorem vP {w:World} {A:Option Addr} {n cap:Nat} {bs:List Bool} (h:bq w (.slice A n cap) (bs.map Value.bool)) (hn:bs.length=n) {F:Nat→Prop} (hF:∀ k,F k→w.heap.size≤k) :
  ∀ b o,A=some ⟨b,o,none⟩→0<n→¬ F b:=fun b o e hp hf=>by
 rcases h with ⟨A',e',e2⟩ | ⟨b',o',c',e',hl,_⟩
 ·have:bs.length=0:=by have:=congrArg List.length e2;simpa using this
  omega
 ·injection e' with e1 _ _
  rw[e] at e1
  injection e1 with e1
  injection e1 with e1 _
  have:=hF b hf
  omega
theorem yK (L:List Blk) (i j:Int) (x:UInt8):(bR L i j x).length=L.length:=by
 unfold bR
 split
 ·exact gv _ _ _
 ·rfl
theorem Co (L:List Blk) (i:Int):(fK L i).length=L.length:=gv _ _ _
theorem Ba (L:List Blk) (i k:Int):(cF L i k).length=L.length:=by
 unfold cF
 split
 ·split <;> simp
 ·rfl
set_option maxRecDepth 100000
theorem CH {w0 W:World} {Y:Nat→Prop} {P d Q M kp wb:Nat} {ek mk:List UInt8} {s:Bk.Bn} {D:List Blk} {ws:List (List UInt8)} (h:aJ w0 W Y P d Q M kp wb ek mk s D s D ws) (t:TD) (ht:t.ok w0) :
  Calls Tryz.prog 23 #[PT d,PT M,.agg t.cells.toArray] W fun e w'=>e=.returned (.bool true)∧Chg (FrX w0 Y) W w'∧∃ D',D'.length=D.length∧aJ w0 w' Y P d Q M kp wb ek mk s D' s D' ws:=by
 obtain ⟨dw,di,dk,dx,vb,vk,ks⟩:=t
 obtain ⟨Ak,ck,hvk,-⟩:=ht.keeps.parts
 rw[List.length_map] at hvk
 dsimp only at hvk
 obtain ⟨nk,hnk⟩:∃ nk,nk=ks.length:=⟨_,rfl⟩
 rw[← hnk] at hvk
 subst hvk
 have hk:bq w0 (.slice Ak nk ck) (ks.map Value.bool):=ht.keeps
 have hlo:=ht.lo
 have hhi:=ht.hi
 obtain ⟨Ab,nb,cb,hvb⟩:=ht.form
 dsimp only at hlo hhi hvb
 subst hvb
 obtain ⟨r,hr⟩:∃ r,r=W.heap.size:=⟨_,rfl⟩
 obtain ⟨w1,hw1⟩:∃ X,X=W.alloc (.cells #[.int .i64 dw,.int .i64 di,.int .i64 dk,.int .u8 dx.toNat,.slice Ab nb cb,.slice Ak nk ck] 51):=⟨_,rfl⟩
 have HX:Hid (aj w1 r 0 [.int .i64 dw,.int .i64 di,.int .i64 dk,.int .u8 dx.toNat,.slice Ab nb cb,.slice Ak nk ck]):=by rw[hw1,hr];exact(Row.new W 51 [.int .i64 dw,.int .i64 di,.int .i64 dk,.int .u8 dx.toNat,.slice Ab nb cb,.slice Ak nk ck]).here
 have hb1:Below W.heap.size W w1:=by rw[hw1];exact(Below.refl _ _).alloc (Nat.le_refl _) _
 have hrl:r<w1.heap.size:=by rw[hw1,hr];simp
 have HQ:Hid (aJ w0 w1 (fun k=>Y k∨k=r) P d Q M kp wb ek mk s D s D ws):=h.nE hb1 _ fun k hk=>hk.imp id fun e=>by rw[e];exact⟨by omega,hrl⟩
 have HCc:Hid (Chg (FrX w0 Y) W w1):=Chg.below hb1 _
 have HFr:Hid (∀ a b,Chg (FrX w0 (fun k=>Y k∨k=r)) a b→Chg (FrX w0 Y) a b):=fun _ _ hc=>hc.mono fun _ _ _ hs=>⟨hs.1,fun hy=>hs.2 (.inl hy)⟩
 have eT:Hid (∀ w' D',D'.length=D.length→aJ w0 w' (fun k=>Y k∨k=r) P d Q M kp wb ek mk s D' s D' ws→∃ D',D'.length=D.length∧aJ w0 w' Y P d Q M kp wb ek mk s D' s D' ws):=fun w' D' hl hq=>⟨D',hl,hq.nE (Below.refl _ _) _ fun k hk=>.inl (.inl hk)⟩
 have HKp:Hid (bq w0 (.slice Ak nk ck) (ks.map Value.bool)∧ks.length=nk):=⟨hk,hnk.symm⟩
 have h4:pkN 4 dw<4:=Nat.mod_lt _ (by omega)
 have HPk:=ae (LB dw hlo hhi w1)
 show Calls _ _ #[PT d,PT M,.agg #[.int .i64 dw,.int .i64 di,.int .i64 dk,.int .u8 dx.toNat,.slice Ab nb cb,.slice Ak nk ck]] _ _
 clear h ht hk hnk hb1 hrl hlo hhi
 have q0:=HX.out.head (j:=0) rfl
 rcases(show pkN 4 dw=0∨pkN 4 dw=1∨pkN 4 dw=2∨pkN 4 dw=3 by omega) with hp | hp | hp | hp
 ·rw[hp] at HPk
  clear hp h4
  have HC1:=ae (HQ.out.prog (P':=P) (sp':=s) (Dp':=cV (fun n=>ks.getD n false) D) (Qe:=fun e=>e=.returned (.tuple #[])) fun X hd=>hd.cV Ak nk ck ks HKp.out.2 HKp.out.1)
  have HC2:Hid (∀ w',aJ w0 w' (fun k=>Y k∨k=r) P d Q M kp wb ek mk s (cV (fun n=>ks.getD n false) D) s D ws→Calls Tryz.prog 45 #[PT M,.slice Ak nk ck,.bool false] w' fun e w2=>e=.returned (.tuple #[])∧aJ w0 w2 (fun k=>Y k∨k=r) P d Q M kp wb ek mk s (cV (fun n=>ks.getD n false) D) s (cV (fun n=>ks.getD n false) D) ws∧Chg (FrX w0 (fun k=>Y k∨k=r)) w' w2):=fun w' hw'=>hw'.zP (Qe:=fun e=>e=.returned (.tuple #[])) fun G hG hk=>kN hG false Ak nk ck ks HKp.out.2 (HKp.out.1.below hw'.below) (vP HKp.out.1 HKp.out.2 hk)
  have HLn:Hid ((cV (fun n=>ks.getD n false) D).length=D.length):=Bk.uv _ _
  have HCt:Hid (cnt (cV (fun n=>ks.getD n false) D)=0):=Cc _ _
  generalize cV (fun n=>ks.getD n false) D=D2 at *
  go_enter Tryz.func23,Tryz.ntmps23
  go_wp2_with fail
  rw[← hw1,← hr]
  refine HPk.out.mono ?_
  rintro e w2 ⟨rfl,rfl⟩
  clear HPk hw1 hr
  have q5:=HX.out.head (j:=5) rfl
  go_wp2_with fail
  refine HC1.out.mono ?_
  rintro e w3 ⟨rfl,hq3,hc3⟩
  have HX3:Hid (aj w3 r 0 [.int .i64 dw,.int .i64 di,.int .i64 dk,.int .u8 dx.toNat,.slice Ab nb cb,.slice Ak nk ck]):=HX.out.chg hc3 fun j _ hs=>hs.2 (.inr rfl)
  have HC3:=ae (HC2.out w3 hq3)
  replace HCc:=ae (HCc.out.then (HFr.out _ _ hc3))
  clear HC1 HC2 hq3 hc3 q0 q5 HX HQ
  have q5:=HX3.out.head (j:=5) rfl
  go_wp2_with fail
  refine HC3.out.mono ?_
  rintro e w4 ⟨rfl,hq4,hc4⟩
  have HQ4:=ae hq4
  replace HCc:=ae (HCc.out.then (HFr.out _ _ hc4))
  have HD4:Hid (Calls Tryz.prog 56 #[PT d] w4 fun e w'=>e=.returned (.int .i64 0)∧Below w4.heap.size w4 w'):=by
   obtain ⟨_,_,_,⟨_,_,_,hD,_⟩,_⟩:=hq4
   have:=zv hD
   rw[HCt.out] at this
   exact this
  clear hq4 hc4 HC3 HX3 q5
  go_wp2_with fail
  refine HD4.out.mono ?_
  rintro e w5 ⟨rfl,hb5⟩
  have HE:=eT.out w5 D2 HLn.out (HQ4.out.stay hb5)
  replace HCc:=ae (HCc.out.then (Chg.below hb5 _))
  clear HD4 HQ4 hb5 eT
  go_wp2
  go_ret
  exact⟨rfl,HCc.out,HE⟩
 ·rw[hp] at HPk
  clear hp h4
  have HC1:Hid (∀ w',aJ w0 w' (fun k=>Y k∨k=r) P d Q M kp wb ek mk s D s D ws→Calls Tryz.prog 57 #[PT d,.int .i64 di,.int .i64 dk,.int .u8 dx.toNat] w' fun e w2=>e=.returned (.bool (okA D di dk dx))∧aJ w0 w2 (fun k=>Y k∨k=r) P d Q M kp wb ek mk s (bR D di dk dx) s D ws∧Chg (FrX w0 (fun k=>Y k∨k=r)) w' w2):=fun w' hw'=>hw'.dN (Qe:=fun e=>e=.returned (.bool (okA D di dk dx))) fun G hG _=>zx hG di dk dx
  have HC2:Hid (∀ w',aJ w0 w' (fun k=>Y k∨k=r) P d Q M kp wb ek mk s (bR D di dk dx) s D ws→Calls Tryz.prog 58 #[PT M,.int .i64 di,.int .i64 dk,.int .u8 dx.toNat] w' fun e w2=>e=.returned (.bool (okA D di dk dx))∧aJ w0 w2 (fun k=>Y k∨k=r) P d Q M kp wb ek mk s (bR D di dk dx) s (bR D di dk dx) ws∧Chg (FrX w0 (fun k=>Y k∨k=r)) w' w2):=fun w' hw'=>hw'.zP (Qe:=fun e=>e=.returned (.bool (okA D di dk dx))) fun G hG _=>wT hG di dk dx
  have HLn:Hid ((bR D di dk dx).length=D.length):=yK _ _ _ _
  generalize bR D di dk dx=D2 at *
  generalize okA D di dk dx=ok at *
  go_enter Tryz.func23,Tryz.ntmps23
  go_wp2_with fail
  rw[← hw1,← hr]
  refine HPk.out.mono ?_
  rintro e w2 ⟨rfl,rfl⟩
  clear HPk hw1 hr q0
  go_wp2_with fail
  have HQd:Hid (aJ w0 w2.drew (fun k=>Y k∨k=r) P d Q M kp wb ek mk s D s D ws):=HQ.out.stay (below_drewN (Below.refl _ _) 1)
  have HXd:Hid (aj w2.drew r 0 [.int .i64 dw,.int .i64 di,.int .i64 dk,.int .u8 dx.toNat,.slice Ab nb cb,.slice Ak nk ck]):=HX.out
  replace HCc:Hid (Chg (FrX w0 Y) W w2.drew):=HCc.out.drew
  have hs0:(fun X=>X.cell? ⟨r,1,none⟩=some (.int .i64 di)∧X.cell? ⟨r,2,none⟩=some (.int .i64 dk)∧X.cell? ⟨r,3,none⟩=some (.int .u8 dx.toNat)) w2.drew:=⟨HXd.out.head (j:=1) rfl,HXd.out.head (j:=2) rfl,HXd.out.head (j:=3) rfl⟩
  clear HQ HX
  refine wp_region_held_drew (S:=(fun X=>X.cell? ⟨r,1,none⟩=some (.int .i64 di)∧X.cell? ⟨r,2,none⟩=some (.int .i64 dk)∧X.cell? ⟨r,3,none⟩=some (.int .u8 dx.toNat))) (by kernel_rfl) hs0 (fun aa=>?_)
  clear hs0
  generalize w2.drew=w2d at *
  refine tkq 0 25 aa ?_
  try go_frame
  refine tkq 1 26 aa ?_
  try go_frame
  refine tkh 2 27 rfl aa ?_ (Or.inl ⟨by rfl,by intro w hSw;obtain ⟨qs1,qs2,qs3⟩:=hSw;go_simp;with_reducible rfl⟩)
  try go_frame
  refine tkq 3 28 aa ?_
  try go_frame
  refine tkh 4 29 rfl aa ?_ (Or.inl ⟨by rfl,by intro w hSw;obtain ⟨qs1,qs2,qs3⟩:=hSw;go_simp;with_reducible rfl⟩)
  try go_frame
  refine tkq 5 30 aa ?_
  try go_frame
  refine tkh 6 31 rfl aa ?_ (Or.inl ⟨by rfl,by intro w hSw;obtain ⟨qs1,qs2,qs3⟩:=hSw;go_simp;with_reducible rfl⟩)
  try go_frame
  refine tkq 8 33 aa ?_
  try go_frame
  refine tkq 9 34 aa ?_
  try go_frame
  refine tkh 10 35 rfl aa ?_ (Or.inl ⟨by rfl,by intro w hSw;obtain ⟨qs1,qs2,qs3⟩:=hSw;go_simp;with_reducible rfl⟩)
  try go_frame
  refine tkq 11 36 aa ?_
  try go_frame
  refine tkh 12 37 rfl aa ?_ (Or.inl ⟨by rfl,by intro w hSw;obtain ⟨qs1,qs2,qs3⟩:=hSw;go_simp;with_reducible rfl⟩)
  try go_frame
  refine tkq 13 38 aa ?_
  try go_frame
  refine tkh 14 39 rfl aa ?_ (Or.inl ⟨by rfl,by intro w hSw;obtain ⟨qs1,qs2,qs3⟩:=hSw;go_simp;with_reducible rfl⟩)
  try go_frame
  refine rdq 7 32 fun K hK=>?_
  go_simp
  go_at_call 57
  refine(HC1.out w2d HQd.out).mono ?_
  rintro e vn ⟨rfl,hq,hc⟩
  replace HXd:=ae (HXd.out.chg hc fun j _ hs=>hs.2 (.inr rfl))
  replace HCc:=ae (HCc.out.then (HFr.out _ _ hc))
  replace HQd:=ae hq
  clear hq hc
  refine hK.out _ _ (⟨HXd.out.head (j:=1) rfl,HXd.out.head (j:=2) rfl,HXd.out.head (j:=3) rfl⟩) (fun aa=>?_)
  clear hK K
  try go_frame
  refine rdq 15 40 fun K hK=>?_
  go_simp
  go_at_call 58
  refine(HC2.out vn HQd.out).mono ?_
  rintro e zC ⟨rfl,hq,hc⟩
  replace HXd:=ae (HXd.out.chg hc fun j _ hs=>hs.2 (.inr rfl))
  replace HCc:=ae (HCc.out.then (HFr.out _ _ hc))
  replace HQd:=ae hq
  clear hq hc
  refine hK.out _ _ (⟨HXd.out.head (j:=1) rfl,HXd.out.head (j:=2) rfl,HXd.out.head (j:=3) rfl⟩) (fun aa=>?_)
  clear hK K
  try go_frame
  refine tkq 16 41 aa ?_
  try go_frame
  refine tkq 17 6 aa ?_
  try go_frame
  refine wpAnyH_done (by kernel_rfl) ?_ _
  have HE:=eT.out _ D2 HLn.out HQd.out
  clear aa HQd HXd HC1 HC2 eT
  go_wp2
  go_ret
  exact⟨rfl,HCc.out,HE⟩
 ·rw[hp] at HPk
  clear hp h4
  have HC1:Hid (∀ w',aJ w0 w' (fun k=>Y k∨k=r) P d Q M kp wb ek mk s D s D ws→Calls Tryz.prog 59 #[PT d,.int .i64 di,.int .i64 dk] w' fun e w2=>e=.returned (.bool (okS D di dk))∧aJ w0 w2 (fun k=>Y k∨k=r) P d Q M kp wb ek mk s (cF D di dk) s D ws∧Chg (FrX w0 (fun k=>Y k∨k=r)) w' w2):=fun w' hw'=>hw'.dN (Qe:=fun e=>e=.returned (.bool (okS D di dk))) fun G hG _=>CQ hG di dk
  have HC2:Hid (∀ w',aJ w0 w' (fun k=>Y k∨k=r) P d Q M kp wb ek mk s (cF D di dk) s D ws→Calls Tryz.prog 60 #[PT M,.int .i64 di,.int .i64 dk] w' fun e w2=>e=.returned (.bool (okS D di dk))∧aJ w0 w2 (fun k=>Y k∨k=r) P d Q M kp wb ek mk s (cF D di dk) s (cF D di dk) ws∧Chg (FrX w0 (fun k=>Y k∨k=r)) w' w2):=fun w' hw'=>hw'.zP (Qe:=fun e=>e=.returned (.bool (okS D di dk))) fun G hG _=>y5 hG di dk
  have HLn:Hid ((cF D di dk).length=D.length):=Ba _ _ _
  generalize cF D di dk=D2 at *
  generalize okS D di dk=ok at *
  go_enter Tryz.func23,Tryz.ntmps23
  go_wp2_with fail
  rw[← hw1,← hr]
  refine HPk.out.mono ?_
  rintro e w2 ⟨rfl,rfl⟩
  clear HPk hw1 hr q0
  go_wp2_with fail
  have HQd:Hid (aJ w0 w2.drew (fun k=>Y k∨k=r) P d Q M kp wb ek mk s D s D ws):=HQ.out.stay (below_drewN (Below.refl _ _) 1)
  have HXd:Hid (aj w2.drew r 0 [.int .i64 dw,.int .i64 di,.int .i64 dk,.int .u8 dx.toNat,.slice Ab nb cb,.slice Ak nk ck]):=HX.out
  replace HCc:Hid (Chg (FrX w0 Y) W w2.drew):=HCc.out.drew
  have hs0:(fun X=>X.cell? ⟨r,1,none⟩=some (.int .i64 di)∧X.cell? ⟨r,2,none⟩=some (.int .i64 dk)) w2.drew:=⟨HXd.out.head (j:=1) rfl,HXd.out.head (j:=2) rfl⟩
  clear HQ HX
  refine wp_region_held_drew (S:=(fun X=>X.cell? ⟨r,1,none⟩=some (.int .i64 di)∧X.cell? ⟨r,2,none⟩=some (.int .i64 dk))) (by kernel_rfl) hs0 (fun aa=>?_)
  clear hs0
  generalize w2.drew=w2d at *
  refine tkq 0 44 aa ?_
  try go_frame
  refine tkq 1 45 aa ?_
  try go_frame
  refine tkh 2 46 rfl aa ?_ (Or.inl ⟨by rfl,by intro w hSw;obtain ⟨qs1,qs2⟩:=hSw;go_simp;with_reducible rfl⟩)
  try go_frame
  refine tkq 3 47 aa ?_
  try go_frame
  refine tkh 4 48 rfl aa ?_ (Or.inl ⟨by rfl,by intro w hSw;obtain ⟨qs1,qs2⟩:=hSw;go_simp;with_reducible rfl⟩)
  try go_frame
  refine tkq 6 50 aa ?_
  try go_frame
  refine tkq 7 51 aa ?_
  try go_frame
  refine tkh 8 52 rfl aa ?_ (Or.inl ⟨by rfl,by intro w hSw;obtain ⟨qs1,qs2⟩:=hSw;go_simp;with_reducible rfl⟩)
  try go_frame
  refine tkq 9 53 aa ?_
  try go_frame
  refine tkh 10 54 rfl aa ?_ (Or.inl ⟨by rfl,by intro w hSw;obtain ⟨qs1,qs2⟩:=hSw;go_simp;with_reducible rfl⟩)
  try go_frame
  refine rdq 5 49 fun K hK=>?_
  go_simp
  go_at_call 59
  refine(HC1.out w2d HQd.out).mono ?_
  rintro e vn ⟨rfl,hq,hc⟩
  replace HXd:=ae (HXd.out.chg hc fun j _ hs=>hs.2 (.inr rfl))
  replace HCc:=ae (HCc.out.then (HFr.out _ _ hc))
  replace HQd:=ae hq
  clear hq hc
  refine hK.out _ _ (⟨HXd.out.head (j:=1) rfl,HXd.out.head (j:=2) rfl⟩) (fun aa=>?_)
  clear hK K
  try go_frame
  refine rdq 11 55 fun K hK=>?_
  go_simp
  go_at_call 60
  refine(HC2.out vn HQd.out).mono ?_
  rintro e zC ⟨rfl,hq,hc⟩
  replace HXd:=ae (HXd.out.chg hc fun j _ hs=>hs.2 (.inr rfl))
  replace HCc:=ae (HCc.out.then (HFr.out _ _ hc))
  replace HQd:=ae hq
  clear hq hc
  refine hK.out _ _ (⟨HXd.out.head (j:=1) rfl,HXd.out.head (j:=2) rfl⟩) (fun aa=>?_)
  clear hK K
  try go_frame
  refine tkq 12 56 aa ?_
  try go_frame
  refine tkq 13 6 aa ?_
  try go_frame
  refine wpAnyH_done (by kernel_rfl) ?_ _
  have HE:=eT.out _ D2 HLn.out HQd.out
  clear aa HQd HXd HC1 HC2 eT
  go_wp2
  go_ret
  exact⟨rfl,HCc.out,HE⟩
 ·rw[hp] at HPk
  clear hp h4
  have HC1:Hid (∀ w',aJ w0 w' (fun k=>Y k∨k=r) P d Q M kp wb ek mk s D s D ws→Calls Tryz.prog 61 #[PT d,.int .i64 di] w' fun e w2=>e=.returned (.bool (okB D di))∧aJ w0 w2 (fun k=>Y k∨k=r) P d Q M kp wb ek mk s (fK D di) s D ws∧Chg (FrX w0 (fun k=>Y k∨k=r)) w' w2):=fun w' hw'=>hw'.dN (Qe:=fun e=>e=.returned (.bool (okB D di))) fun G hG _=>CR hG di
  have HC2:Hid (∀ w',aJ w0 w' (fun k=>Y k∨k=r) P d Q M kp wb ek mk s (fK D di) s D ws→Calls Tryz.prog 62 #[PT M,.int .i64 di] w' fun e w2=>e=.returned (.bool (okB D di))∧aJ w0 w2 (fun k=>Y k∨k=r) P d Q M kp wb ek mk s (fK D di) s (fK D di) ws∧Chg (FrX w0 (fun k=>Y k∨k=r)) w' w2):=fun w' hw'=>hw'.zP (Qe:=fun e=>e=.returned (.bool (okB D di))) fun G hG _=>y6 hG di
  have HLn:Hid ((fK D di).length=D.length):=Co _ _
  generalize fK D di=D2 at *
  generalize okB D di=ok at *
  go_enter Tryz.func23,Tryz.ntmps23
  go_wp2_with fail
  rw[← hw1,← hr]
  refine HPk.out.mono ?_
  rintro e w2 ⟨rfl,rfl⟩
  clear HPk hw1 hr q0
  go_wp2_with fail
  have HQd:Hid (aJ w0 w2.drew (fun k=>Y k∨k=r) P d Q M kp wb ek mk s D s D ws):=HQ.out.stay (below_drewN (Below.refl _ _) 1)
  have HXd:Hid (aj w2.drew r 0 [.int .i64 dw,.int .i64 di,.int .i64 dk,.int .u8 dx.toNat,.slice Ab nb cb,.slice Ak nk ck]):=HX.out
  replace HCc:Hid (Chg (FrX w0 Y) W w2.drew):=HCc.out.drew
  have hs0:(fun X=>X.cell? ⟨r,1,none⟩=some (.int .i64 di)) w2.drew:=HXd.out.head (j:=1) rfl
  clear HQ HX
  refine wp_region_held_drew (S:=(fun X=>X.cell? ⟨r,1,none⟩=some (.int .i64 di))) (by kernel_rfl) hs0 (fun aa=>?_)
  clear hs0
  generalize w2.drew=w2d at *
  refine tkq 0 57 aa ?_
  try go_frame
  refine tkq 1 58 aa ?_
  try go_frame
  refine tkh 2 59 rfl aa ?_ (Or.inl ⟨by rfl,by intro w hSw;have qs:=hSw;go_simp;with_reducible rfl⟩)
  try go_frame
  refine tkq 4 61 aa ?_
  try go_frame
  refine tkq 5 62 aa ?_
  try go_frame
  refine tkh 6 63 rfl aa ?_ (Or.inl ⟨by rfl,by intro w hSw;have qs:=hSw;go_simp;with_reducible rfl⟩)
  try go_frame
  refine rdq 3 60 fun K hK=>?_
  go_simp
  go_at_call 61
  refine(HC1.out w2d HQd.out).mono ?_
  rintro e vn ⟨rfl,hq,hc⟩
  replace HXd:=ae (HXd.out.chg hc fun j _ hs=>hs.2 (.inr rfl))
  replace HCc:=ae (HCc.out.then (HFr.out _ _ hc))
  replace HQd:=ae hq
  clear hq hc
  refine hK.out _ _ (HXd.out.head (j:=1) rfl) (fun aa=>?_)
  clear hK K
  try go_frame
  refine rdq 7 64 fun K hK=>?_
  go_simp
  go_at_call 62
  refine(HC2.out vn HQd.out).mono ?_
  rintro e zC ⟨rfl,hq,hc⟩
  replace HXd:=ae (HXd.out.chg hc fun j _ hs=>hs.2 (.inr rfl))
  replace HCc:=ae (HCc.out.then (HFr.out _ _ hc))
  replace HQd:=ae hq
  clear hq hc
  refine hK.out _ _ (HXd.out.head (j:=1) rfl) (fun aa=>?_)
  clear hK K
  try go_frame
  refine tkq 8 65 aa ?_
  try go_frame
  refine tkq 9 6 aa ?_
  try go_frame
  refine wpAnyH_done (by kernel_rfl) ?_ _
  have HE:=eT.out _ D2 HLn.out HQd.out
  clear aa HQd HXd HC1 HC2 eT
  go_wp2
  go_ret
  exact⟨rfl,HCc.out,HE⟩
end Go.Proofs.YthbmknpbcgnabaaGreatDoor
