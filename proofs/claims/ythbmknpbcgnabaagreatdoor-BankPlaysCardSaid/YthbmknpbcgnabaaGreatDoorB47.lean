/- Of the walk. -/
import Derived.Test.YthbmknpbcgnabaaGreatDoorB46
set_option maxHeartbeats 40000000
namespace Go.Proofs.YthbmknpbcgnabaaGreatDoor
open Go.RowKit Aes Ctr Sl Dsk
structure JS (w W:World) (Y:Nat→Prop) (P d Q M kp wb x0 n:Nat) (ek mk:List UInt8) (ks:List Value) (s:Bk.Bn) (D:List Blk) (ws:List (List UInt8)) (k:Nat):Prop where
 gT:aJ w W Y P d Q M kp wb ek mk s D s D ws
 x0Y:Y x0
 row:Row W x0 29 ks
 ok:Bk.Ok n s D
 pot:Bk.pot s≤k
section
variable {w W W':World} {Y Z:Nat→Prop} {P P' d Q Q' M kp wb x0 n k:Nat} {ek mk:List UInt8} {ks:List Value} {s s':Bk.Bn} {D D':List Blk} {ws ws':List (List UInt8)}
theorem JS.stay (h:JS w W Y P d Q M kp wb x0 n ek mk ks s D ws k) (hb:Below W.heap.size W W'):JS w W' Y P d Q M kp wb x0 n ek mk ks s D ws k:=⟨h.gT.stay hb,h.x0Y,h.row.below hb h.row.lt,h.ok,h.pot⟩
theorem JS.nE (h:JS w W Y P d Q M kp wb x0 n ek mk ks s D ws k) (hb:Below W.heap.size W W') (Z:Nat→Prop) (hx:Z x0) (hZ:∀ k,Z k→Y k∨(W.heap.size≤k∧k<W'.heap.size)):JS w W' Z P d Q M kp wb x0 n ek mk ks s D ws k:=⟨h.gT.nE hb Z hZ,hx,h.row.below hb h.row.lt,h.ok,h.pot⟩
theorem JS.less (h:JS w W Y P d Q M kp wb x0 n ek mk ks s D ws k):JS w W (fun j=>j=x0) P d Q M kp wb x0 n ek mk ks s D ws k:=h.nE (Below.refl _ _) _ rfl fun _ e=>.inl (e ▸ h.x0Y)
theorem JS.below (h:JS w W Y P d Q M kp wb x0 n ek mk ks s D ws k):Below w.heap.size w W:=h.gT.below
theorem JS.ep (h:JS w W Y P d Q M kp wb x0 n ek mk ks s D ws k):s.ep≤k:=Nat.le_trans (Bk.D5 s) h.pot
theorem JS.more {k':Nat} (h:JS w W Y P d Q M kp wb x0 n ek mk ks s D ws k) (hk:k≤k'):JS w W Y P d Q M kp wb x0 n ek mk ks s D ws k':=⟨h.gT,h.x0Y,h.row,h.ok,Nat.le_trans h.pot hk⟩
end
theorem Mu (a b c:Value) (l:List Value) {w:World} {r:Nat} (h:aj w r 0 (a::b::c::l)):w.rangeAt r 3 l:=fun j u hu=>by
 have:=h.1 (3+j) u (by rw[show 3+j=j+1+1+1 by omega];exact hu)
 rwa [Nat.zero_add] at this
set_option maxRecDepth 100000
theorem uL {w:World} {vs:Value} {sec:List UInt8} {n:Nat} {A2:Option Addr} {m c2:Nat} {l:List JD} (hs:Arg w vs sec) (hsl:sec.length≤100) (hn:8≤n∧n≤20) (hJ:qK w (.slice A2 m c2) l) (hm:m≤12) (hT:Hm.Tab w) :
  Calls Tryz.prog 3 #[vs,IV n,.slice A2 m c2] w fun e w'=>e=.returned (.bool true)∧Below w.heap.size w w':=by
 obtain ⟨A0,c0,rfl⟩:=hs.form
 have HDr:=ae (kM sec (by omega) _ w hT hs)
 have LW:Hid (∀ W,Below w.heap.size w W→Calls Tryz.prog 12 #[.slice A0 sec.length c0] W fun e w'=>∃ p,e=.returned (.pointer (some ⟨p,0,none⟩))∧Hid (cD w' (fun k=>W.heap.size≤k) p (kE sec) (mE sec))∧Below W.heap.size W w'):=fun W hb=>wL sec (by omega) _ W (hs.below hb)
 have HDN:=ae (fun W=>qU (2*n) (by omega) (by omega) W)
 have HRN:=ae (fun W=>Cz (2*n) (by omega) (by omega) W)
 have HKn:Hid (∀ W,Below w.heap.size w W→Calls Tryz.prog 6 #[] W fun e w'=>e=.returned (.bool true)∧Below w.heap.size w w'):=fun W hW=>(lZ W (hT.stay hT.1 hW)).mono fun e w' ⟨he,hb⟩=>⟨he,hW.trans (hb.mono hW.size)⟩
 have HJ:=ae hJ
 have HT:=ae hT
 have Hek:Hid ((kE sec).length=16):=iZ sec
 obtain ⟨sl,ny⟩:∃ x,x=sec.length:=⟨_,rfl⟩
 rw[← ny] at hsl HDr LW ⊢
 have hn8:=hn.1
 have Rt:=hn.2
 have h2n:IntKind.i64.wrap (2*(n:Int))=((2*n:Nat):Int):=by rw[IntWalk.i64_in _ (by omega)];simp
 obtain ⟨n2,hn2⟩:∃ x,x=2*n:=⟨_,rfl⟩
 rw[← hn2] at HDN HRN h2n
 have HN2:=ae hn2
 have H2n:=ae h2n
 have hzk:=mU w
 clear hs hJ hT hn ny hn2
 go_enter Tryz.func3,Tryz.ntmps3
 go_wp2_with fail
 refine HDr.out.mono ?_
 rintro e w1 ⟨ks,Hks,rfl,hb1⟩
 have hkk:cz (kE sec) (mE sec) ks:=Hks.out
 generalize kE sec=ek at *
 generalize mE sec=mk at *
 have HK:=ae hkk
 have lh:Hid (ks.toArray.size=48):=hkk.size
 have aN:Hid (ks.toArray.all (·.oneCell')=true):=hkk.vec.one
 obtain ⟨x0,hx0⟩:∃ x,x=w1.heap.size:=⟨_,rfl⟩
 obtain ⟨w2,hw2⟩:∃ W,W=w1.alloc (.cells Z48.toArray 29):=⟨_,rfl⟩
 have HZ2:Hid (Row w2 x0 29 Z48):=by rw[hw2,hx0];exact Row.new w1 29 Z48
 have hB2:Below w1.heap.size w1 w2:=by rw[hw2];exact(Below.refl _ _).alloc (Nat.le_refl _) _
 obtain ⟨w3,hw3⟩:∃ W,W=w2.setRow x0 ks.toArray:=⟨_,rfl⟩
 have HX3:Hid (Row w3 x0 29 ks):=by rw[hw3];exact HZ2.out.whole ks
 have hB3:Below w1.heap.size w1 w3:=by rw[hw3];exact ag hB2 (by omega) _
 have HB3:Hid (Below w.heap.size w w3):=hb1.trans (hB3.mono hb1.size)
 have RP:Hid (w.heap.size≤x0):=by have:=hb1.size;show _≤_;omega
 have FU:=ae hx0
 have Kq:=mU w1
 have Ge:=ae (HDN.out w3)
 clear hkk Hks hb1 hB2 hB3 HDr hx0 HDN hzk
 go_wp2_with (first
  | (rw[← hw2,← FU.out];clear hw2 Kq;refine wpList_store_row rfl 29 (.tmp 7) (.tmp 63) rfl x0 ks.toArray rfl rfl 29 _ HZ2.out (by rw[lh.out];kernel_rfl) (by rw[lh.out];rfl) aN.out ?_;rw[← hw3];clear hw3))
 refine Ge.out.mono ?_
 rintro e w4 ⟨d,G,rfl,hD,hG,hb4⟩
 have HX4:=ae (HX3.out.below hb4 HX3.out.lt)
 have HB4:=ae (HB3.out.trans (hb4.mono HB3.out.size))
 have hx3:=HX3.out.lt
 have hs3:=HB3.out.size
 have HF:=ae (Duo.format (w0:=w) (X:=fun k=>k=x0) ek mk ks n hD (fun k hk=>⟨by have:=hG k hk;omega,fun e=>by have:=hG k hk;omega⟩) (fun k e=>by rw[e];exact HX4.out.lt) HB4.out HK.out (by omega) (by rw[List.length_replicate];exact HN2.out) HT.out)
 have HRF:Hid (∀ {W:World} {G K:Nat→Prop} {M kp:Nat},bL W G M (List.replicate n2 Blk.zero)→cD W K kp ek mk→(∀ k,K k→k<W.heap.size∧¬ G k)→Calls Tryz.prog 13 #[PT M,PT kp,IV n] W fun e w'=>∃ Q wb ws F,e=.returned (PT Q)∧RB w' F G K Q M kp wb ek mk (Bk.format ek mk n (List.replicate n2 Blk.zero)).1 (Bk.format ek mk n (List.replicate n2 Blk.zero)).2 ws∧(∀ k,F k→W.heap.size≤k)∧Chg (fun k _=>G k) W w'):=fun hR hK hKl=>uH hR hK Hek.out hKl hn8 (by omega) (by rw[List.length_replicate];exact HN2.out)
 have HOk:Hid (Bk.Ok n (Bk.format ek mk n (List.replicate n2 Blk.zero)).1 (Bk.format ek mk n (List.replicate n2 Blk.zero)).2∧Bk.pot (Bk.format ek mk n (List.replicate n2 Blk.zero)).1≤1):=⟨Bk.Ok.format (by omega) (by rw[List.length_replicate];exact HN2.out),Nat.le_refl _⟩
 generalize Bk.format ek mk n (List.replicate n2 Blk.zero)=fm at *
 obtain ⟨s,D1⟩:=fm
 dsimp only at HF HRF HOk
 clear hD hG hb4 hx3 hs3 HX3 HB3 Ge HZ2
 go_wp2_with (first
  | (refine wpList_load_row rfl 29 (.tmp 7) rfl x0 rfl 29 ks.toArray (0,0) _ HX4.out Tryz.underlying29 rfl (by rw[lh.out];kernel_rfl) ?_))
 refine HF.out.mono ?_
 rintro e w5 ⟨P,rfl,hd5,hc5⟩
 have HX5:=ae (gR HX4.out hc5 rfl)
 have HD5:=ae hd5
 have O3:=ae (HRN.out w5)
 clear hd5 hc5 HF HX4 HB4 HRN
 go_wp2_with fail
 refine O3.out.mono ?_
 rintro e w6 ⟨M,G6,rfl,hR6,hG6,hb6⟩
 have HR6:=ae hR6
 have HG6:Hid (∀ k,G6 k→w5.heap.size≤k∧k<w6.heap.size):=fun k hk=>⟨hG6 k hk,by
  obtain ⟨_,_,_,_,_,_,hX⟩:=hR6
  exact hX.lt k hk⟩
 have HB6:=ae hb6
 have O5:=ae (LW.out w6 (HD5.out.below.trans (hb6.mono HD5.out.below.size)))
 clear hR6 hG6 hb6 O3 LW
 go_wp2_with fail
 refine O5.out.mono ?_
 rintro e w7 ⟨kp,rfl,HM7,hb7⟩
 have HB7:=ae hb7
 have HMK:Hid (cD w7 (fun k=>w6.heap.size≤k∧k<w7.heap.size) kp ek mk):=HM7.out.imp fun k h1 h2=>⟨h1,h2⟩
 have O4:=ae (HRF.out (HR6.out.below hb7) HMK.out fun k hk=>⟨hk.2,fun hg=>by have:=HG6.out k hg;omega⟩)
 clear hb7 O5 HM7 HRF HR6
 go_wp2_with fail
 refine O4.out.mono ?_
 rintro e w8 ⟨Q,wb,ws,F8,rfl,hr8,hF8,hc8⟩
 have HS0:Hid (JS w w8 (fun j=>j=x0) P d Q M kp wb x0 n ek mk ks s D1 ws 1):=by
  have hx5:=HX5.out.lt
  refine⟨DV HD5.out HB6.out HG6.out HB7.out (fun k hk=>hk) hr8 hF8 hc8,rfl,?_,HOk.out.1,HOk.out.2⟩
  exact zN ((HX5.out.below HB6.out hx5).below HB7.out (Nat.lt_of_lt_of_le hx5 HB6.out.size)) hc8 fun _ hg=>by have:=HG6.out x0 hg;omega
 clear hr8 hF8 hc8 O4 HMK HB7 HB6 HG6 HOk HD5 HX5
 go_wp2
 go_loopw [16,20,21] (fun b mm i wr=>∃ (k P Q:Nat) (s:Bk.Bn) (D:List Blk) (ws:List (List UInt8)),k≤m∧b=PT P∧mm=PT Q∧i=.int .i64 k∧Hid (JS w wr (fun j=>j=x0) P d Q M kp wb x0 n ek mk ks s D ws (k+1))) (fun _ _ i _=>m - (RowKit.intOf i).toNat)
 case atStart=>exact⟨0,P,Q,s,D1,ws,by omega,rfl,rfl,rfl,HS0⟩
 case round =>
  obtain ⟨k,P,Q,s,D,ws,hkm,rfl,rfl,rfl,HS⟩:=hrel
  clear HS0
  by_cases hlt:k<m
  ·obtain ⟨b0,o0,dd,rfl,hok,cd⟩:=HJ.out.at_ hlt
   obtain ⟨dw,di,bv,bl,tw,ti,tk,tx,tvb,tvk,tks⟩:=dd
   have ak:=HS.out.below
   have Af:=cd wr ak
   have hparts:aI w (fun k=>k<w.heap.size) bv bl:=hok.parts
   obtain ⟨Ab,cb,rfl⟩:=hparts.form
   obtain ⟨At,nt,ct,htv⟩:=hok.t.form
   obtain ⟨Ak,ck,hvk,-⟩:=hok.t.keeps.parts
   rw[List.length_map] at hvk
   dsimp only at htv hvk
   subst htv hvk
   have Htk:Hid (TD.ok w ⟨tw,ti,tk,tx,.slice At nt ct,.slice Ak tks.length ck,tks⟩):=hok.t
   obtain ⟨nb,hnb⟩:∃ x,x=bl.length:=⟨_,rfl⟩
   obtain ⟨nk,hnk⟩:∃ x,x=tks.length:=⟨_,rfl⟩
   have LV:wr.rangeAt b0 (o0+k*9) [.int .i64 dw,.int .i64 di,.slice Ab bl.length cb,.int .i64 tw,.int .i64 ti,.int .i64 tk,.int .u8 tx.toNat,.slice At nt ct,.slice Ak tks.length ck]:=fun j u hu=>Af j u hu
   rw[← hnb,← hnk] at LV
   rw[← hnk] at Htk
   rw[← hnb] at hparts
   have HRg:=ae LV
   have hlo:=hok.lo
   have hhi:=hok.hi
   have NK:=hok.ilo
   have NL:=hok.ihi
   dsimp only at hlo hhi NK NL
   have Hnb:=ae hnb
   have Ru:(k:Int)<(m:Int):=by omega
   obtain ⟨r,hr⟩:∃ r,r=wr.heap.size:=⟨_,rfl⟩
   obtain ⟨w5,hw5⟩:∃ w5,w5=wr.alloc (.cells #[.int .i64 dw,.int .i64 di,.slice Ab nb cb,.int .i64 tw,.int .i64 ti,.int .i64 tk,.int .u8 tx.toNat,.slice At nt ct,.slice Ak nk ck] 53):=⟨_,rfl⟩
   have HX:Hid (aj w5 r 0 [.int .i64 dw,.int .i64 di,.slice Ab nb cb,.int .i64 tw,.int .i64 ti,.int .i64 tk,.int .u8 tx.toNat,.slice At nt ct,.slice Ak nk ck]):=by rw[hw5,hr];exact(Row.new wr 53 [.int .i64 dw,.int .i64 di,.slice Ab nb cb,.int .i64 tw,.int .i64 ti,.int .i64 tk,.int .u8 tx.toNat,.slice At nt ct,.slice Ak nk ck]).here
   have hb5:Below wr.heap.size wr w5:=by rw[hw5];exact(Below.refl _ _).alloc (Nat.le_refl _) _
   have HS5:Hid (JS w w5 (fun j=>j=x0∨j=r) P d Q M kp wb x0 n ek mk ks s D ws (k+1)):=HS.out.nE hb5 _ (.inl rfl) fun j hj=>hj.imp id fun e=>by rw[e,hr];exact⟨Nat.le_refl _,by rw[hw5];simp⟩
   have HPt:Hid (aI w5 (fun k=>k<w.heap.size) (.slice Ab nb cb) bl):=hparts.chg (Chg.below (ak.trans (hb5.mono ak.size)) fun _ _=>False) fun _ _ _ x=>x
   have HW5:=ae hw5
   have Hr:=ae hr
   clear hok cd Af hparts LV ak hb5 HS hnb hnk hw5 hr
   by_cases RJ:30<nb
   ·as_aux_lemma =>
     have HK0:=ae (HKn.out w5 HS5.out.below)
     clear HKn HS5 HX HPt Htk
     go_wp2_with (refine wpList_load_mid rfl 53 (.tmp 138) rfl b0 (o0+k*9) rfl [.int .i64 dw,.int .i64 di,.slice Ab nb cb,.int .i64 tw,.int .i64 ti,.int .i64 tk,.int .u8 tx.toNat,.slice At nt ct,.slice Ak nk ck] _ HRg.out Tryz.underlying53 rfl oo ?_)
     rw[← HW5.out,← Hr.out]
     clear HW5 Hr HRg
     refine HK0.out.mono ?_
     rintro e w' ⟨rfl,hb⟩
     go_wp2
     go_ret
     exact⟨rfl,hb⟩
   ·by_cases Rw:100<nk
    ·as_aux_lemma =>
      have HK0:=ae (HKn.out w5 HS5.out.below)
      clear HKn HS5 HX HPt Htk
      go_wp2_with (refine wpList_load_mid rfl 53 (.tmp 138) rfl b0 (o0+k*9) rfl [.int .i64 dw,.int .i64 di,.slice Ab nb cb,.int .i64 tw,.int .i64 ti,.int .i64 tk,.int .u8 tx.toNat,.slice At nt ct,.slice Ak nk ck] _ HRg.out Tryz.underlying53 rfl oo ?_)
      rw[← HW5.out,← Hr.out]
      clear HW5 Hr HRg
      refine HK0.out.mono ?_
      rintro e w' ⟨rfl,hb⟩
      go_wp2
      go_ret
      exact⟨rfl,hb⟩
    ·have h6:pkN 6 dw<6:=Nat.mod_lt _ (by omega)
     have HPk:=ae (LA dw hlo hhi w5)
     clear hlo hhi
     rcases(show pkN 6 dw=0∨pkN 6 dw=1∨pkN 6 dw=2∨pkN 6 dw=3∨pkN 6 dw=4∨pkN 6 dw=5 from by omega) with hp | hp | hp | hp | hp | hp
     ·as_aux_lemma =>
       rw[hp] at HPk
       clear hp h6
       go_wp2_with (refine wpList_load_mid rfl 53 (.tmp 138) rfl b0 (o0+k*9) rfl [.int .i64 dw,.int .i64 di,.slice Ab nb cb,.int .i64 tw,.int .i64 ti,.int .i64 tk,.int .u8 tx.toNat,.slice At nt ct,.slice Ak nk ck] _ HRg.out Tryz.underlying53 rfl oo ?_)
       rw[← HW5.out,← Hr.out]
       clear HW5 Hr HRg
       refine HPk.out.mono ?_
       rintro e w5 ⟨rfl,rfl⟩
       clear HPk
       have g2:=HX.out.head (j:=2) rfl
       have HRw:=ae (FN (w:=w5) n (by omega) HPt.out (by rw[← Hnb.out];omega))
       clear HPt HX Htk
       go_wp2_with fail
       refine HRw.out.mono ?_
       rintro e w6 ⟨⟨rv,rfl,HR6⟩,hb6⟩
       have hpp:=HR6.out.zS (Nat.le_refl _)
       obtain ⟨Ar,cr,hr⟩:=hpp.form
       rw[Bk.dr] at hr
       subst hr
       obtain ⟨Y6,hY6⟩:∃ Y:Nat→Prop,Y=fun k=>(k=x0∨k=r)∨(w5.heap.size≤k∧k<w6.heap.size):=⟨_,rfl⟩
       have HS6:Hid (JS w w6 Y6 P d Q M kp wb x0 n ek mk ks s D ws (k+1)∧aI w6 Y6 (.slice Ar n cr) (Bk.fk n bl)):=by
        rw[hY6]
        exact⟨HS5.out.nE hb6 _ (.inl (.inl rfl)) fun _ hk=>hk,hpp.imp fun k hk hl=>.inr ⟨hk,hl⟩⟩
       have HBg:=ae (HS6.out.1.gT.J7 HT.out HS6.out.2 (by have:=HS6.out.1.ep;omega) (by rw[Bk.dr];omega))
       clear hY6 hpp HR6 hb6 HRw HS5 g2
       go_wp2_with fail
       refine HBg.out.mono ?_
       rintro e w7 ⟨rfl,hq7,hc7⟩
       have HP7:Hid (aI w7 Y6 (.slice Ar n cr) (Bk.fk n bl)):=D7 HS6.out.2 hc7
       have HW7:=ae (gR HS6.out.1.row hc7 HS6.out.1.x0Y)
       have HTx:=ae (za HP7.out (by rw[Bk.dr];omega))
       have HQ7:=ae hq7
       clear hq7 hc7 HBg
       go_wp2_with fail
       refine HTx.out.mono ?_
       rintro e w8 ⟨tv,rfl,HO8,hb8⟩
       have HQ8:=ae (HQ7.out.stay hb8)
       have HW8:=ae (HW7.out.below hb8 HW7.out.lt)
       have HBr:=ae (HQ8.out.J3 HO8.out.from_ (by rw[Bk.dr];omega))
       have HOk:=ae (HS6.out.1.ok.bA (Bk.fk n bl))
       have IZ:Hid (Bk.pot s≤k+1∧Y6 x0):=⟨HS6.out.1.pot,HS6.out.1.x0Y⟩
       generalize Bk.bA s (Bk.fk n bl)=bg at *
       obtain ⟨s2,en⟩:=bg
       dsimp only at HBr HOk HQ8
       clear HO8 hb8 HTx HQ7 HW7 HP7 HS6
       go_wp2_with fail
       refine HBr.out.mono ?_
       rintro e w9 ⟨rfl,hq9,hc9⟩
       have HE:Hid (JS w w9 Y6 P d Q M kp wb x0 n ek mk ks s2 D ws (k+1+1)):=⟨hq9,IZ.out.2,gR HW8.out hc9 IZ.out.2,HOk.out.1,by have:=HOk.out.2;have:=IZ.out.1;omega⟩
       clear hq9 hc9 HBr HQ8 HW8 HOk IZ
       have HSm:=ae (ei HE.out.gT HE.out.ok.r32)
       go_wp2_with fail
       refine HSm.out.mono ?_
       rintro e wA ⟨rfl,hbA⟩
       have HEA:Hid (JS w wA (fun j=>j=x0) P d Q M kp wb x0 n ek mk ks s2 D ws (k+1+1)):=(HE.out.stay hbA).less
       clear HE HSm hbA
       go_wp2
       go_roundw
       case rel=>exact⟨k+1,P,Q,s2,D,ws,by omega,rfl,rfl,by go_num,HEA⟩
       case measure=>simp [RowKit.intOf];omega
     ·as_aux_lemma =>
       rw[hp] at HPk
       clear hp h6
       go_wp2_with (refine wpList_load_mid rfl 53 (.tmp 138) rfl b0 (o0+k*9) rfl [.int .i64 dw,.int .i64 di,.slice Ab nb cb,.int .i64 tw,.int .i64 ti,.int .i64 tk,.int .u8 tx.toNat,.slice At nt ct,.slice Ak nk ck] _ HRg.out Tryz.underlying53 rfl oo ?_)
       rw[← HW5.out,← Hr.out]
       clear HW5 Hr HRg
       refine HPk.out.mono ?_
       rintro e w5 ⟨rfl,rfl⟩
       clear HPk
       clear HPt HX Htk
       have HPs:=ae (HS5.out.gT.Jf HT.out (by rw[HS5.out.ok.hn];exact HS5.out.ok.dl) (by have:=HS5.out.ep;omega))
       have HOs:=ae (HS5.out.ok.step (ek:=ek) (mk:=mk) (by omega))
       have HRs:Hid (∀ W,aJ w W (fun j=>j=x0∨j=r) P d Q M kp wb ek mk (Bk.step ek mk s D).1.1 (Bk.step ek mk s D).1.2 s D ws→Calls Tryz.prog 20 #[PT Q] W fun e w'=>e=.returned (.tuple #[.bool (Bk.step ek mk s D).2.1,.int .i64 ((Bk.step ek mk s D).2.2:Int)])∧aJ w w' (fun j=>j=x0∨j=r) P d Q M kp wb ek mk (Bk.step ek mk s D).1.1 (Bk.step ek mk s D).1.2 (Bk.step ek mk s D).1.1 (Bk.step ek mk s D).1.2 (Bk.pH ek s ws)∧Chg (FrX w (fun j=>j=x0∨j=r)) W w'):=fun W hq=>hq.Jd (by rw[HS5.out.ok.hn];exact HS5.out.ok) (by have:=HS5.out.ep;omega)
       have iU:Hid (Row w5 x0 29 ks∧Bk.pot s≤k+1):=⟨HS5.out.row,HS5.out.pot⟩
       generalize Bk.pH ek s ws=ws3 at *
       generalize Bk.step ek mk s D=st at *
       obtain ⟨⟨s3,D3⟩,bo,en⟩:=st
       dsimp only at HPs HOs HRs
       clear HS5
       go_wp2_with fail
       refine HPs.out.mono ?_
       rintro e w6 ⟨rfl,hq6,hc6⟩
       have HR6:=ae (HRs.out _ hq6)
       have HW6:Hid (Row w6 x0 29 ks):=gR iU.out.1 hc6 (.inl rfl)
       clear HPs HRs hq6 hc6
       go_wp2_with fail
       refine HR6.out.mono ?_
       rintro e w9 ⟨rfl,hq9,hc9⟩
       have HE:Hid (JS w w9 (fun j=>j=x0∨j=r) P d Q M kp wb x0 n ek mk ks s3 D3 ws3 (k+1+1)):=⟨hq9,.inl rfl,gR HW6.out hc9 (.inl rfl),HOs.out.1,by have:=HOs.out.2;have:=iU.out.2;omega⟩
       clear hq9 hc9 HR6 HW6 HOs iU
       have HSm:=ae (ei HE.out.gT HE.out.ok.r32)
       go_wp2_with fail
       refine HSm.out.mono ?_
       rintro e wA ⟨rfl,hbA⟩
       have HEA:Hid (JS w wA (fun j=>j=x0) P d Q M kp wb x0 n ek mk ks s3 D3 ws3 (k+1+1)):=(HE.out.stay hbA).less
       clear HE HSm hbA
       go_wp2
       go_roundw
       case rel=>exact⟨k+1,P,Q,s3,D3,ws3,by omega,rfl,rfl,by go_num,HEA⟩
       case measure=>simp [RowKit.intOf];omega
     ·as_aux_lemma =>
       rw[hp] at HPk
       clear hp h6
       go_wp2_with (refine wpList_load_mid rfl 53 (.tmp 138) rfl b0 (o0+k*9) rfl [.int .i64 dw,.int .i64 di,.slice Ab nb cb,.int .i64 tw,.int .i64 ti,.int .i64 tk,.int .u8 tx.toNat,.slice At nt ct,.slice Ak nk ck] _ HRg.out Tryz.underlying53 rfl oo ?_)
       rw[← HW5.out,← Hr.out]
       clear HW5 Hr HRg
       refine HPk.out.mono ?_
       rintro e w5 ⟨rfl,rfl⟩
       clear HPk
       have g1:=HX.out.head (j:=1) rfl
       clear HPt Htk
       by_cases hin:0≤di∧di<n
       ·obtain ⟨i,rfl⟩:∃ i:Nat,di=(i:Int):=⟨di.toNat,by omega⟩
        have hi:i<n:=by omega
        have HRd:=ae (HS5.out.gT.pread HT.out (by rw[HS5.out.ok.hn];exact HS5.out.ok.dl) i (by rw[HS5.out.ok.hn];exact hi))
        have HRr:Hid (∀ W Y,aJ w W Y P d Q M kp wb ek mk s D s D ws→Calls Tryz.prog 22 #[PT Q,IV i] W fun e w'=>e=.returned (.tuple #[VS ((Bk.read ek mk s D i).getD []),.bool (Bk.read ek mk s D i).isSome])∧aJ w w' Y P d Q M kp wb ek mk s D s D ws∧Chg (FrX w Y) W w'):=fun W Y hq=>hq.Mq (by rw[HS5.out.ok.hn];exact HS5.out.ok.dl) (by rw[HS5.out.ok.tl,HS5.out.ok.hn]) i (by rw[HS5.out.ok.hn];exact hi)
        generalize Bk.read ek mk s D i=rd at *
        go_wp2_with fail
        refine HRd.out.mono ?_
        rintro e w6 ⟨v,rfl,HO,hb6⟩
        obtain ⟨Y6,hY6⟩:∃ Y:Nat→Prop,Y=fun k=>(k=x0∨k=r)∨(w5.heap.size≤k∧k<w6.heap.size):=⟨_,rfl⟩
        have HS6:Hid (JS w w6 Y6 P d Q M kp wb x0 n ek mk ks s D ws (k+1)):=by
         rw[hY6]
         exact HS5.out.nE hb6 _ (.inl (.inl rfl)) fun _ hk=>hk
        have hAo:cW w6 Y6 v (rd.getD []):=cW.of HO.out.arg fun b o n c e=>by
         rw[hY6]
         exact .inr (HO.out.lt (k:=b) (by rw[e];rfl))
        have HX6:=ae (HX.out.stay hb6)
        have HR6:=ae (HRr.out w6 _ HS6.out.gT)
        obtain ⟨Av,cv,hv⟩:=hAo.arg.form
        subst hv
        have HA6:=ae hAo
        have g61:=HX6.out.head (j:=1) rfl
        clear hb6 HRd HRr HO HS5 HX HX6 g1 hY6 hAo
        obtain ⟨pl,hpl⟩:∃ x,x=rd.getD []:=⟨_,rfl⟩
        rw[← hpl] at HR6 HA6 ⊢
        have Qc:rd=none→pl.length=0:=fun h=>by rw[hpl,h];rfl
        obtain ⟨spl,vS⟩:∃ x,x=aw pl:=⟨_,rfl⟩
        have OA:=ae vS
        simp only [VS,← vS] at HR6
        obtain ⟨pn,hpn⟩:∃ x,x=pl.length:=⟨_,rfl⟩
        rw[← hpn] at HA6 ⊢
        clear hpl vS Qc hpn
        cases rd with
        | none =>
         rw[show (if (none:Option (List UInt8)).isSome then (0:Int) else 10)=10 from rfl]
         dsimp only [Option.isSome] at HR6
         go_wp2_with fail
         refine HR6.out.mono ?_
         rintro e w9 ⟨rfl,hq9,hc9⟩
         have hcv:(convert 22 9 (.slice Av pn cv)).run Tryz.prog w9=.ok (.string spl) w9:=by
          rw[OA.out]
          exact bS (HA6.out.chg hc9 fun _ _ hk hs=>hs.2 hk).arg
         have HE:Hid (JS w w9 Y6 P d Q M kp wb x0 n ek mk ks s D ws (k+1+1)):=⟨hq9,HS6.out.x0Y,gR HS6.out.row hc9 HS6.out.x0Y,HS6.out.ok,by have:=HS6.out.pot;omega⟩
         clear hq9 hc9 HR6 HS6 HA6
         have HSm:=ae (ei HE.out.gT HE.out.ok.r32)
         go_wp2_with fail
         refine HSm.out.mono ?_
         rintro e wA ⟨rfl,hbA⟩
         have HEA:Hid (JS w wA (fun j=>j=x0) P d Q M kp wb x0 n ek mk ks s D ws (k+1+1)):=(HE.out.stay hbA).less
         clear HE HSm hbA
         go_wp2
         go_roundw
         case rel=>exact⟨k+1,P,Q,s,D,ws,by omega,rfl,rfl,by go_num,HEA⟩
         case measure=>simp [RowKit.intOf];omega
        | some pv =>
         rw[show (if (some pv:Option (List UInt8)).isSome then (0:Int) else 10)=0 from rfl]
         dsimp only [Option.isSome] at HR6
         go_wp2_with fail
         refine HR6.out.mono ?_
         rintro e w9 ⟨rfl,hq9,hc9⟩
         have hcv:(convert 22 9 (.slice Av pn cv)).run Tryz.prog w9=.ok (.string spl) w9:=by
          rw[OA.out]
          exact bS (HA6.out.chg hc9 fun _ _ hk hs=>hs.2 hk).arg
         have HE:Hid (JS w w9 Y6 P d Q M kp wb x0 n ek mk ks s D ws (k+1+1)):=⟨hq9,HS6.out.x0Y,gR HS6.out.row hc9 HS6.out.x0Y,HS6.out.ok,by have:=HS6.out.pot;omega⟩
         clear hq9 hc9 HR6 HS6 HA6
         have HSm:=ae (ei HE.out.gT HE.out.ok.r32)
         go_wp2_with fail
         refine HSm.out.mono ?_
         rintro e wA ⟨rfl,hbA⟩
         have HEA:Hid (JS w wA (fun j=>j=x0) P d Q M kp wb x0 n ek mk ks s D ws (k+1+1)):=(HE.out.stay hbA).less
         clear HE HSm hbA
         go_wp2
         go_roundw
         case rel=>exact⟨k+1,P,Q,s,D,ws,by omega,rfl,rfl,by go_num,HEA⟩
         case measure=>simp [RowKit.intOf];omega
       ·have HRd:=ae (HS5.out.gT.DZ di ⟨NK,NL⟩ (by rw[HS5.out.ok.hn];omega))
        have hout:di<0∨(n:Int)≤di:=by omega
        go_wp2_with fail
        refine HRd.out.mono ?_
        rintro e w6 ⟨⟨Av,cv,rfl⟩,hb6⟩
        have HE:Hid (JS w w6 (fun j=>j=x0∨j=r) P d Q M kp wb x0 n ek mk ks s D ws (k+1+1)):=(HS5.out.stay hb6).more (by omega)
        have HX6:=ae (HX.out.stay hb6)
        have g61:=HX6.out.head (j:=1) rfl
        clear hb6 HRd HS5 HX HX6 g1 hin
        rcases hout with h0 | h0
        ·skip
         have HSm:=ae (ei HE.out.gT HE.out.ok.r32)
         go_wp2_with fail
         refine HSm.out.mono ?_
         rintro e wA ⟨rfl,hbA⟩
         have HEA:Hid (JS w wA (fun j=>j=x0) P d Q M kp wb x0 n ek mk ks s D ws (k+1+1)):=(HE.out.stay hbA).less
         clear HE HSm hbA
         go_wp2
         go_roundw
         case rel=>exact⟨k+1,P,Q,s,D,ws,by omega,rfl,rfl,by go_num,HEA⟩
         case measure=>simp [RowKit.intOf];omega
        ·have h00:¬ di<0:=by omega
         have HSm:=ae (ei HE.out.gT HE.out.ok.r32)
         go_wp2_with fail
         refine HSm.out.mono ?_
         rintro e wA ⟨rfl,hbA⟩
         have HEA:Hid (JS w wA (fun j=>j=x0) P d Q M kp wb x0 n ek mk ks s D ws (k+1+1)):=(HE.out.stay hbA).less
         clear HE HSm hbA
         go_wp2
         go_roundw
         case rel=>exact⟨k+1,P,Q,s,D,ws,by omega,rfl,rfl,by go_num,HEA⟩
         case measure=>simp [RowKit.intOf];omega
     ·as_aux_lemma =>
       rw[hp] at HPk
       clear hp h6
       go_wp2_with (refine wpList_load_mid rfl 53 (.tmp 138) rfl b0 (o0+k*9) rfl [.int .i64 dw,.int .i64 di,.slice Ab nb cb,.int .i64 tw,.int .i64 ti,.int .i64 tk,.int .u8 tx.toNat,.slice At nt ct,.slice Ak nk ck] _ HRg.out Tryz.underlying53 rfl oo ?_)
       rw[← HW5.out,← Hr.out]
       clear HW5 Hr HRg
       refine HPk.out.mono ?_
       rintro e w5 ⟨rfl,rfl⟩
       clear HPk
       have HTu:Hid (Calls Tryz.prog 23 #[PT d,PT M,.agg ([.int .i64 tw,.int .i64 ti,.int .i64 tk,.int .u8 tx.toNat,.slice At nt ct,.slice Ak nk ck]:List Value).toArray] w5 fun e w'=>e=.returned (.bool true)∧Chg (FrX w (fun j=>j=x0∨j=r)) w5 w'∧∃ D',D'.length=D.length∧aJ w w' (fun j=>j=x0∨j=r) P d Q M kp wb ek mk s D' s D' ws):=by
        have:=CH HS5.out.gT ⟨tw,ti,tk,tx,.slice At nt ct,.slice Ak nk ck,tks⟩ Htk.out
        exact this
       have HR3:=ae (Mu _ _ _ _ HX.out)
       clear HPt Htk HX
       go_wp2_with (refine wpList_load_mid rfl 51 (.tmp 267) rfl r 3 rfl [.int .i64 tw,.int .i64 ti,.int .i64 tk,.int .u8 tx.toNat,.slice At nt ct,.slice Ak nk ck] _ HR3.out Tryz.underlying51 rfl Nj ?_)
       refine HTu.out.mono ?_
       rintro e w9 ⟨rfl,hc9,D2,hl9,hq9⟩
       have HE:Hid (JS w w9 (fun j=>j=x0∨j=r) P d Q M kp wb x0 n ek mk ks s D2 ws (k+1+1)):=⟨hq9,.inl rfl,gR HS5.out.row hc9 (.inl rfl),HS5.out.ok.dN hl9,by have:=HS5.out.pot;omega⟩
       clear hq9 hc9 hl9 HTu HR3 HS5
       have HSm:=ae (ei HE.out.gT HE.out.ok.r32)
       go_wp2_with fail
       refine HSm.out.mono ?_
       rintro e wA ⟨rfl,hbA⟩
       have HEA:Hid (JS w wA (fun j=>j=x0) P d Q M kp wb x0 n ek mk ks s D2 ws (k+1+1)):=(HE.out.stay hbA).less
       clear HE HSm hbA
       go_wp2
       go_roundw
       case rel=>exact⟨k+1,P,Q,s,D2,ws,by omega,rfl,rfl,by go_num,HEA⟩
       case measure=>simp [RowKit.intOf];omega
     ·as_aux_lemma =>
       rw[hp] at HPk
       clear hp h6
       go_wp2_with (refine wpList_load_mid rfl 53 (.tmp 138) rfl b0 (o0+k*9) rfl [.int .i64 dw,.int .i64 di,.slice Ab nb cb,.int .i64 tw,.int .i64 ti,.int .i64 tk,.int .u8 tx.toNat,.slice At nt ct,.slice Ak nk ck] _ HRg.out Tryz.underlying53 rfl oo ?_)
       rw[← HW5.out,← Hr.out]
       clear HW5 Hr HRg
       refine HPk.out.mono ?_
       rintro e w5 ⟨rfl,rfl⟩
       clear HPk
       clear HPt Htk HX
       obtain ⟨rs,hrs⟩:∃ r,r=dL s.ep s.af s.root:=⟨_,rfl⟩
       have HRs:=ae hrs
       have HRg:Hid (∀ W,aJ w W (fun j=>j=x0∨j=r) P d Q M kp wb ek mk s D s D ws→Calls Tryz.prog 24 #[PT P] W fun e w'=>e=.returned (.agg rs.toArray)∧Below W.heap.size W w'):=fun W hq=>hq.PR rs HRs
       have HRc:Hid (∀ W,aJ w W (fun j=>j=x0∨j=r) P d Q M kp wb ek mk s D s D ws→Calls Tryz.prog 10 #[PT d,.agg ks.toArray,IV n,.agg rs.toArray] W fun e w' =>
         match Bk.cH mk n s.ep s.af s.root D with
         | some s'=>∃ P',e=.returned (.tuple #[PT P',.int .i64 0])∧aJ w w' (fun j=>j=x0∨j=r) P' d Q M kp wb ek mk s' D s D ws∧Below W.heap.size W w'
         | none=>e=.returned (.tuple #[.pointer none,.int .i64 10])∧aJ w w' (fun j=>j=x0∨j=r) P d Q M kp wb ek mk s D s D ws∧Below W.heap.size W w'):=fun W hq=>by
        have:=hq.J6 HT.out ks HK.out rs (by rw[HS5.out.ok.hn];exact HS5.out.ok.dl) HS5.out.ok.b1 ⟨HS5.out.ok.ep1,by have:=HS5.out.ep;omega⟩ HS5.out.ok.r32 HRs
        rw[HS5.out.ok.hn] at this
        exact this
       have HRm:Hid (∀ (W:World) (P':Nat) (sp:Bk.Bn) (wc:Nat),aJ w W (fun j=>j=x0∨j=r) P' d Q M kp wb ek mk sp D s D ws→Calls Tryz.prog 25 #[PT M,PT kp,IV n,.int .u64 (s.ep:Int),IV s.af,VS s.root,.slice (some ⟨wb,0,none⟩) n2 wc] W fun e w'=>∃ Q',e=.returned (.tuple #[PT Q',.bool (Bk.cH mk n s.ep s.af s.root D).isSome])∧Below W.heap.size W w'
         ∧ ∀ s',Bk.cH mk n s.ep s.af s.root D=some s'→aJ w w' (fun j=>j=x0∨j=r) P' d Q' M kp wb ek mk sp D s' D ws):=fun W P' sp wc hq=>by
        have:=hq.JZ (by rw[HS5.out.ok.hn];exact hn8) (by rw[HS5.out.ok.hn];exact HS5.out.ok.dl) wc
        rw[HS5.out.ok.hn,← HN2.out] at this
        exact this
       have HMc:Hid (∀ (W:World) (P':Nat) (sp:Bk.Bn),aJ w W (fun j=>j=x0∨j=r) P' d Q M kp wb ek mk sp D s D ws→∃ wc,W.cell? ⟨Q,3,none⟩=some (.int .u64 (s.ep:Int))∧W.cell? ⟨Q,4,none⟩=some (IV s.af)∧W.cell? ⟨Q,5,none⟩=some (VS s.root)∧W.cell? ⟨Q,10,none⟩=some (.slice (some ⟨wb,0,none⟩) n2 wc)):=fun W P' sp hq=>by
        have:=hq.GN
        rw[HS5.out.ok.hn,← HN2.out] at this
        exact this
       have HMo:Hid (∀ s',Bk.cH mk n s.ep s.af s.root D=some s'→Bk.Ok n s' D∧Bk.pot s'≤k+1):=fun s' h=>by
        have:=HS5.out.ok.cH h
        exact⟨this.1,Nat.le_trans this.2 HS5.out.pot⟩
       have hi1:(Tryz.prog.info? 29).map (·.size)=some ks.length:=by rw[show ks.length=48 from lh.out];kernel_rfl
       have HRa:Hid (∀ X,Row X x0 29 ks→X.rangeAt x0 0 ks):=fun X hX j u hu=>by rw[Nat.zero_add,hX.cell];exact hu
       have HQl:Hid (∀ W W' P' sp,aJ w W (fun j=>j=x0∨j=r) P' d Q M kp wb ek mk sp D s D ws→Below W.heap.size W W'→∀ o,W'.cell? ⟨Q,o,none⟩=W.cell? ⟨Q,o,none⟩):=fun W W' P' sp hq hb o=>by
        obtain ⟨_,_,_,_,hr,_⟩:=hq
        exact World.cell?_of_block (hb.block Q hr.gone.1)
       have HW:=ae HS5.out.row
       have HQ:=ae HS5.out.gT
       have HOk:=ae (show Bk.Ok n s D∧Bk.pot s≤k+1 from⟨HS5.out.ok,HS5.out.pot⟩)
       obtain ⟨mr,hmr⟩:∃ x,x=Bk.cH mk n s.ep s.af s.root D:=⟨_,rfl⟩
       rw[← hmr] at HRc HRm HMo
       obtain ⟨mj,nu⟩:∃ x,x=aw s.root:=⟨_,rfl⟩
       simp only [VS,← nu] at HRm HMc
       clear hrs HRs hmr nu HS5
       generalize s.ep=ep at *
       generalize s.af=af at *
       cases mr with
       | some s2 =>
        dsimp only at HRc
        go_wp2_with fail
        have hb0:Below w5.heap.size w5 w5.drew:=below_drewN (Below.refl _ _) 1
        replace HQ:=ae (HQ.out.stay hb0)
        replace HW:=ae (HW.out.below hb0 HW.out.lt)
        clear hb0
        refine wp_region_held_drew (S:=(fun X=>X.rangeAt x0 0 ks)) (by kernel_rfl) (HRa.out _ HW.out) (fun aa=>?_)
        generalize w5.drew=w5d at *
        refine tkq 0 273 aa ?_
        try go_frame
        refine tkh 1 274 (v:=.agg (ks).toArray) rfl aa ?_ (yieldsIf_load_mid (by rfl) 29 (.tmp 7) rfl (x0) 0 rfl (ks) _ (fun W h=>h) Tryz.underlying29 rfl hi1)
        try go_frame
        refine tkq 2 275 aa ?_
        try go_frame
        refine tkq 3 276 aa ?_
        try go_frame
        refine rdq 4 277 fun K hK=>?_
        go_simp
        go_at_call 24
        refine(HRg.out w5d HQ.out).mono ?_
        rintro e Da ⟨rfl,hb⟩
        replace HQ:=ae (HQ.out.stay hb)
        replace HW:=ae (HW.out.below hb HW.out.lt)
        clear hb
        refine hK.out _ _ (HRa.out _ HW.out) (fun aa=>?_)
        clear hK K
        try go_frame
        refine rdq 5 278 fun K hK=>?_
        go_simp
        go_at_call 10
        refine(HRc.out Da HQ.out).mono ?_
        rintro e eO ⟨P2,rfl,hq,hb⟩
        replace HQ:=ae hq
        replace HW:=ae (HW.out.below hb HW.out.lt)
        clear hq hb
        refine hK.out _ _ (HRa.out _ HW.out) (fun aa=>?_)
        clear hK K
        try go_frame
        refine tkq 6 272 aa ?_
        try go_frame
        refine tkq 7 279 aa ?_
        try go_frame
        refine tkq 8 280 aa ?_
        try go_frame
        refine tkq 9 33 aa ?_
        try go_frame
        refine tkq 10 34 aa ?_
        try go_frame
        refine wpAnyH_done (by kernel_rfl) ?_ _
        clear aa HRg HRc
        obtain ⟨wc,hs0⟩:=HMc.out eO _ _ HQ.out
        have HSq:Hid ((fun X=>X.cell? ⟨Q,3,none⟩=some (.int .u64 (ep:Int))∧X.cell? ⟨Q,4,none⟩=some (IV af)∧X.cell? ⟨Q,5,none⟩=some (.string mj)∧X.cell? ⟨Q,10,none⟩=some (.slice (some ⟨wb,0,none⟩) n2 wc)) eO.drew):=hs0
        go_wp2
        have hb0:Below eO.heap.size eO eO.drew:=below_drewN (Below.refl _ _) 1
        replace HQ:=ae (HQ.out.stay hb0)
        replace HW:=ae (HW.out.below hb0 HW.out.lt)
        clear hb0
        refine wp_region_held_drew (S:=(fun X=>X.cell? ⟨Q,3,none⟩=some (.int .u64 (ep:Int))∧X.cell? ⟨Q,4,none⟩=some (IV af)∧X.cell? ⟨Q,5,none⟩=some (.string mj)∧X.cell? ⟨Q,10,none⟩=some (.slice (some ⟨wb,0,none⟩) n2 wc))) (by kernel_rfl) hs0 (fun aa=>?_)
        clear hs0
        generalize eO.drew=w7 at *
        refine tkq 0 282 aa ?_
        try go_frame
        refine tkq 1 283 aa ?_
        try go_frame
        refine tkq 2 284 aa ?_
        try go_frame
        refine tkq 3 285 aa ?_
        try go_frame
        refine tkq 4 286 aa ?_
        try go_frame
        refine tkq 5 287 aa ?_
        try go_frame
        refine tkh 6 288 rfl aa ?_ (Or.inl ⟨by rfl,by intro w hSw;obtain ⟨q3,q4,q5,q10⟩:=hSw;go_simp;with_reducible rfl⟩)
        try go_frame
        refine tkq 7 289 aa ?_
        try go_frame
        refine tkq 8 290 aa ?_
        try go_frame
        refine tkq 9 291 aa ?_
        try go_frame
        refine tkh 10 292 rfl aa ?_ (Or.inl ⟨by rfl,by intro w hSw;obtain ⟨q3,q4,q5,q10⟩:=hSw;go_simp;with_reducible rfl⟩)
        try go_frame
        refine tkq 11 293 aa ?_
        try go_frame
        refine tkq 12 294 aa ?_
        try go_frame
        refine tkq 13 295 aa ?_
        try go_frame
        refine tkh 14 296 rfl aa ?_ (Or.inl ⟨by rfl,by intro w hSw;obtain ⟨q3,q4,q5,q10⟩:=hSw;go_simp;with_reducible rfl⟩)
        try go_frame
        refine tkq 15 297 aa ?_
        try go_frame
        refine tkq 16 298 aa ?_
        try go_frame
        refine tkq 17 299 aa ?_
        try go_frame
        refine tkh 18 300 rfl aa ?_ (Or.inl ⟨by rfl,by intro w hSw;obtain ⟨q3,q4,q5,q10⟩:=hSw;go_simp;with_reducible rfl⟩)
        try go_frame
        refine rdq 19 301 fun K hK=>?_
        go_simp
        go_at_call 25
        refine(HRm.out w7 _ _ wc HQ.out).mono ?_
        rintro e JN ⟨Q2,rfl,hb,hq⟩
        have hSx:=HSq.out
        have hcl:=HQl.out _ _ _ _ HQ.out hb
        have hq9:=hq _ rfl
        replace HQ:=ae hq9
        clear hq hq9
        replace HW:=ae (HW.out.below hb HW.out.lt)
        refine hK.out _ _ (by show _∧_∧_∧_;rw[hcl,hcl,hcl,hcl];exact hSx) (fun aa=>?_)
        clear hK K hb hcl hSx
        try go_frame
        refine tkq 20 281 aa ?_
        try go_frame
        refine tkq 21 302 aa ?_
        try go_frame
        refine tkq 22 303 aa ?_
        try go_frame
        refine tkq 23 35 aa ?_
        try go_frame
        refine tkq 24 36 aa ?_
        try go_frame
        refine wpAnyH_done (by kernel_rfl) ?_ _
        clear aa
        have HE:Hid (JS w JN (fun j=>j=x0∨j=r) P2 d Q2 M kp wb x0 n ek mk ks s2 D ws (k+1+1)):=⟨HQ.out,.inl rfl,HW.out,(HMo.out _ rfl).1,by have:=(HMo.out _ rfl).2;omega⟩
        clear HQ HW HOk HMo HRm HMc HQl HRa hi1
        have HSm:=ae (ei HE.out.gT HE.out.ok.r32)
        go_wp2_with fail
        refine HSm.out.mono ?_
        rintro e wA ⟨rfl,hbA⟩
        have HEA:Hid (JS w wA (fun j=>j=x0) P2 d Q2 M kp wb x0 n ek mk ks s2 D ws (k+1+1)):=(HE.out.stay hbA).less
        clear HE HSm hbA
        go_wp2
        go_roundw
        case rel=>exact⟨k+1,P2,Q2,s2,D,ws,by omega,rfl,rfl,by go_num,HEA⟩
        case measure=>simp [RowKit.intOf];omega
       | none =>
        dsimp only at HRc
        go_wp2_with fail
        have hb0:Below w5.heap.size w5 w5.drew:=below_drewN (Below.refl _ _) 1
        replace HQ:=ae (HQ.out.stay hb0)
        replace HW:=ae (HW.out.below hb0 HW.out.lt)
        clear hb0
        refine wp_region_held_drew (S:=(fun X=>X.rangeAt x0 0 ks)) (by kernel_rfl) (HRa.out _ HW.out) (fun aa=>?_)
        generalize w5.drew=w5d at *
        refine tkq 0 273 aa ?_
        try go_frame
        refine tkh 1 274 (v:=.agg (ks).toArray) rfl aa ?_ (yieldsIf_load_mid (by rfl) 29 (.tmp 7) rfl (x0) 0 rfl (ks) _ (fun W h=>h) Tryz.underlying29 rfl hi1)
        try go_frame
        refine tkq 2 275 aa ?_
        try go_frame
        refine tkq 3 276 aa ?_
        try go_frame
        refine rdq 4 277 fun K hK=>?_
        go_simp
        go_at_call 24
        refine(HRg.out w5d HQ.out).mono ?_
        rintro e Da ⟨rfl,hb⟩
        replace HQ:=ae (HQ.out.stay hb)
        replace HW:=ae (HW.out.below hb HW.out.lt)
        clear hb
        refine hK.out _ _ (HRa.out _ HW.out) (fun aa=>?_)
        clear hK K
        try go_frame
        refine rdq 5 278 fun K hK=>?_
        go_simp
        go_at_call 10
        refine(HRc.out Da HQ.out).mono ?_
        rintro e eO ⟨rfl,hq,hb⟩
        replace HQ:=ae hq
        replace HW:=ae (HW.out.below hb HW.out.lt)
        clear hq hb
        refine hK.out _ _ (HRa.out _ HW.out) (fun aa=>?_)
        clear hK K
        try go_frame
        refine tkq 6 272 aa ?_
        try go_frame
        refine tkq 7 279 aa ?_
        try go_frame
        refine tkq 8 280 aa ?_
        try go_frame
        refine tkq 9 33 aa ?_
        try go_frame
        refine tkq 10 34 aa ?_
        try go_frame
        refine wpAnyH_done (by kernel_rfl) ?_ _
        clear aa HRg HRc
        obtain ⟨wc,hs0⟩:=HMc.out eO _ _ HQ.out
        have HSq:Hid ((fun X=>X.cell? ⟨Q,3,none⟩=some (.int .u64 (ep:Int))∧X.cell? ⟨Q,4,none⟩=some (IV af)∧X.cell? ⟨Q,5,none⟩=some (.string mj)∧X.cell? ⟨Q,10,none⟩=some (.slice (some ⟨wb,0,none⟩) n2 wc)) eO.drew):=hs0
        go_wp2
        have hb0:Below eO.heap.size eO eO.drew:=below_drewN (Below.refl _ _) 1
        replace HQ:=ae (HQ.out.stay hb0)
        replace HW:=ae (HW.out.below hb0 HW.out.lt)
        clear hb0
        refine wp_region_held_drew (S:=(fun X=>X.cell? ⟨Q,3,none⟩=some (.int .u64 (ep:Int))∧X.cell? ⟨Q,4,none⟩=some (IV af)∧X.cell? ⟨Q,5,none⟩=some (.string mj)∧X.cell? ⟨Q,10,none⟩=some (.slice (some ⟨wb,0,none⟩) n2 wc))) (by kernel_rfl) hs0 (fun aa=>?_)
        clear hs0
        generalize eO.drew=w7 at *
        refine tkq 0 282 aa ?_
        try go_frame
        refine tkq 1 283 aa ?_
        try go_frame
        refine tkq 2 284 aa ?_
        try go_frame
        refine tkq 3 285 aa ?_
        try go_frame
        refine tkq 4 286 aa ?_
        try go_frame
        refine tkq 5 287 aa ?_
        try go_frame
        refine tkh 6 288 rfl aa ?_ (Or.inl ⟨by rfl,by intro w hSw;obtain ⟨q3,q4,q5,q10⟩:=hSw;go_simp;with_reducible rfl⟩)
        try go_frame
        refine tkq 7 289 aa ?_
        try go_frame
        refine tkq 8 290 aa ?_
        try go_frame
        refine tkq 9 291 aa ?_
        try go_frame
        refine tkh 10 292 rfl aa ?_ (Or.inl ⟨by rfl,by intro w hSw;obtain ⟨q3,q4,q5,q10⟩:=hSw;go_simp;with_reducible rfl⟩)
        try go_frame
        refine tkq 11 293 aa ?_
        try go_frame
        refine tkq 12 294 aa ?_
        try go_frame
        refine tkq 13 295 aa ?_
        try go_frame
        refine tkh 14 296 rfl aa ?_ (Or.inl ⟨by rfl,by intro w hSw;obtain ⟨q3,q4,q5,q10⟩:=hSw;go_simp;with_reducible rfl⟩)
        try go_frame
        refine tkq 15 297 aa ?_
        try go_frame
        refine tkq 16 298 aa ?_
        try go_frame
        refine tkq 17 299 aa ?_
        try go_frame
        refine tkh 18 300 rfl aa ?_ (Or.inl ⟨by rfl,by intro w hSw;obtain ⟨q3,q4,q5,q10⟩:=hSw;go_simp;with_reducible rfl⟩)
        try go_frame
        refine rdq 19 301 fun K hK=>?_
        go_simp
        go_at_call 25
        refine(HRm.out w7 _ _ wc HQ.out).mono ?_
        rintro e JN ⟨Q2,rfl,hb,hq⟩
        have hSx:=HSq.out
        have hcl:=HQl.out _ _ _ _ HQ.out hb
        replace HQ:=ae (HQ.out.stay hb)
        clear hq
        replace HW:=ae (HW.out.below hb HW.out.lt)
        refine hK.out _ _ (by show _∧_∧_∧_;rw[hcl,hcl,hcl,hcl];exact hSx) (fun aa=>?_)
        clear hK K hb hcl hSx
        try go_frame
        refine tkq 20 281 aa ?_
        try go_frame
        refine tkq 21 302 aa ?_
        try go_frame
        refine tkq 22 303 aa ?_
        try go_frame
        refine tkq 23 35 aa ?_
        try go_frame
        refine tkq 24 36 aa ?_
        try go_frame
        refine wpAnyH_done (by kernel_rfl) ?_ _
        clear aa
        have HE:Hid (JS w JN (fun j=>j=x0∨j=r) P d Q M kp wb x0 n ek mk ks s D ws (k+1+1)):=⟨HQ.out,.inl rfl,HW.out,HOk.out.1,by have:=HOk.out.2;omega⟩
        clear HQ HW HOk HMo HRm HMc HQl HRa hi1
        have HSm:=ae (ei HE.out.gT HE.out.ok.r32)
        go_wp2_with fail
        refine HSm.out.mono ?_
        rintro e wA ⟨rfl,hbA⟩
        have HEA:Hid (JS w wA (fun j=>j=x0) P d Q M kp wb x0 n ek mk ks s D ws (k+1+1)):=(HE.out.stay hbA).less
        clear HE HSm hbA
        go_wp2
        go_roundw
        case rel=>exact⟨k+1,P,Q,s,D,ws,by omega,rfl,rfl,by go_num,HEA⟩
        case measure=>simp [RowKit.intOf];omega
     ·as_aux_lemma =>
       rw[hp] at HPk
       clear hp h6
       go_wp2_with (refine wpList_load_mid rfl 53 (.tmp 138) rfl b0 (o0+k*9) rfl [.int .i64 dw,.int .i64 di,.slice Ab nb cb,.int .i64 tw,.int .i64 ti,.int .i64 tk,.int .u8 tx.toNat,.slice At nt ct,.slice Ak nk ck] _ HRg.out Tryz.underlying53 rfl oo ?_)
       rw[← HW5.out,← Hr.out]
       clear HW5 Hr HRg
       refine HPk.out.mono ?_
       rintro e w5 ⟨rfl,rfl⟩
       clear HPk
       clear HPt HX Htk
       go_wp2
       go_loopw [23,37] (fun v jj wr=>∃ (j:Nat) (s:Bk.Bn) (D:List Blk) (ws:List (List UInt8)),j≤100∧v=.bool true∧jj=.int .i64 j∧Hid (JS w wr (fun j=>j=x0∨j=r) P d Q M kp wb x0 n ek mk ks s D ws (k+1))) (fun _ jj _=>100 - (RowKit.intOf jj).toNat)
       case atStart=>exact⟨0,s,D,ws,by omega,rfl,rfl,HS5⟩
       case round =>
        obtain ⟨j,s2,D2,ws2,hj,rfl,rfl,HI⟩:=hrel
        rename World=>w4
        clear HS5
        by_cases hjl:j<100
        ·skip
         have HPs:=ae (HI.out.gT.Jf HT.out (by rw[HI.out.ok.hn];exact HI.out.ok.dl) (by have:=HI.out.ep;omega))
         have HOs:=ae (HI.out.ok.step (ek:=ek) (mk:=mk) (by omega))
         have HRs:Hid (∀ W,aJ w W (fun j=>j=x0∨j=r) P d Q M kp wb ek mk (Bk.step ek mk s2 D2).1.1 (Bk.step ek mk s2 D2).1.2 s2 D2 ws2→Calls Tryz.prog 20 #[PT Q] W fun e w'=>e=.returned (.tuple #[.bool (Bk.step ek mk s2 D2).2.1,.int .i64 ((Bk.step ek mk s2 D2).2.2:Int)])∧aJ w w' (fun j=>j=x0∨j=r) P d Q M kp wb ek mk (Bk.step ek mk s2 D2).1.1 (Bk.step ek mk s2 D2).1.2 (Bk.step ek mk s2 D2).1.1 (Bk.step ek mk s2 D2).1.2 (Bk.pH ek s2 ws2)∧Chg (FrX w (fun j=>j=x0∨j=r)) W w'):=fun W hq=>hq.Jd (by rw[HI.out.ok.hn];exact HI.out.ok) (by have:=HI.out.ep;omega)
         have iU:Hid (Row w4 x0 29 ks∧Bk.pot s2≤k+1):=⟨HI.out.row,HI.out.pot⟩
         generalize Bk.pH ek s2 ws2=ws3 at *
         generalize Bk.step ek mk s2 D2=st at *
         obtain ⟨⟨s3,D3⟩,bo,en⟩:=st
         dsimp only at HPs HOs HRs
         clear HI
         go_wp2_with fail
         refine HPs.out.mono ?_
         rintro e w6 ⟨rfl,hq6,hc6⟩
         have HR6:=ae (HRs.out _ hq6)
         have HW6:Hid (Row w6 x0 29 ks):=gR iU.out.1 hc6 (.inl rfl)
         clear HPs HRs hq6 hc6
         go_wp2_with fail
         refine HR6.out.mono ?_
         rintro e w9 ⟨rfl,hq9,hc9⟩
         have HE:Hid (JS w w9 (fun j=>j=x0∨j=r) P d Q M kp wb x0 n ek mk ks s3 D3 ws3 (k+1)):=⟨hq9,.inl rfl,gR HW6.out hc9 (.inl rfl),HOs.out.1,by have:=HOs.out.2;have:=iU.out.2;omega⟩
         clear hq9 hc9 HR6 HW6 HOs iU
         cases bo
         all_goals
          go_wp2
          go_roundw
          case rel=>exact⟨j+1,s3,D3,ws3,by omega,rfl,by go_num,HE⟩
          case measure=>simp [RowKit.intOf];omega
        ·obtain rfl:j=100:=by omega
         have HE:Hid (JS w w4 (fun j=>j=x0∨j=r) P d Q M kp wb x0 n ek mk ks s2 D2 ws2 (k+1+1)):=HI.out.more (by omega)
         clear HI
         have HSm:=ae (ei HE.out.gT HE.out.ok.r32)
         go_wp2_with fail
         refine HSm.out.mono ?_
         rintro e wA ⟨rfl,hbA⟩
         have HEA:Hid (JS w wA (fun j=>j=x0) P d Q M kp wb x0 n ek mk ks s2 D2 ws2 (k+1+1)):=(HE.out.stay hbA).less
         clear HE HSm hbA
         go_wp2
         go_roundw
         case rel=>exact⟨k+1,P,Q,s2,D2,ws2,by omega,rfl,rfl,by go_num,HEA⟩
         case measure=>simp [RowKit.intOf];omega
  ·obtain rfl:k=m:=by omega
   as_aux_lemma =>
    clear HJ
    have h2n:=H2n.out
    have Rs:n2≤40:=by have:=HN2.out;omega
    go_wp2
    go_loopw [42] (fun ii wz=>∃ i:Nat,i≤n2∧ii=.int .i64 i∧Hid (JS w wz (fun j=>j=x0) P d Q M kp wb x0 n ek mk ks s D ws (k+1))) (fun ii _=>n2 - (RowKit.intOf ii).toNat)
    case atStart=>exact⟨0,by omega,rfl,HS⟩
    case round =>
     obtain ⟨i,hi,rfl,HI⟩:=hrel
     rename World=>w4
     clear HS
     by_cases hin:i<n2
     ·have hil:i<D.length:=by rw[HI.out.ok.dl,← HN2.out];exact hin
      have HDr:=ae (HI.out.gT.Oe i hil)
      have HRr:Hid (∀ W,aJ w W (fun j=>j=x0) P d Q M kp wb ek mk s D s D ws→∀ V:World,V.heap=W.heap→Calls Tryz.prog 28 #[PT M,IV i] V fun e w'=>e=.returned (.string (aw (Bk.aq D i)))∧w'=V):=fun W hq V hV=>hq.J2 i hil V hV
      have H72:Hid ((Bk.aq D i).length=72):=HI.out.gT.Oh i hil
      generalize Bk.aq D i=cu at *
      clear hil
      go_wp2_with fail
      refine HDr.out.mono ?_
      rintro e w5 ⟨rfl,hh,hb⟩
      have HI5:=ae (HI.out.stay hb)
      have HA:Arg w5.drew (.slice (some ⟨w4.heap.size,0,none⟩) 72 72) cu:=.inr ⟨w4.heap.size,0,72,by rw[H72.out],hh.lt (by rw[List.length_map,H72.out];omega),by rw[H72.out];exact Nat.le_refl _,hh.1⟩
      have hcv:=bS HA
      obtain ⟨sc,hsc⟩:∃ x,x=aw cu:=⟨_,rfl⟩
      rw[← hsc] at hcv HRr
      clear HDr hh hb HA hsc
      go_wp2_with fail
      refine wp_region_held_drew (S:=(fun X=>(convert 22 9 (.slice (some ⟨w4.heap.size,0,none⟩) 72 72)).run Tryz.prog X=.ok (.string sc) X)) (by kernel_rfl) hcv (fun aa=>?_)
      refine tkq 0 345 aa ?_
      try go_frame
      refine tkh 1 346 rfl aa ?_ (Or.inl ⟨by rfl,by intro w hSw;have hc:=hSw;go_simp;with_reducible rfl⟩)
      try go_frame
      refine tkq 2 347 aa ?_
      try go_frame
      refine tkq 3 348 aa ?_
      try go_frame
      refine rdq 4 349 fun K hK=>?_
      go_simp
      go_at_call 28
      refine(HRr.out w5 HI5.out.gT w5.drew rfl).mono ?_
      rintro e wx ⟨rfl,rfl⟩
      refine hK.out _ _ (hcv) (fun aa=>?_)
      clear hK K
      try go_frame
      refine tkq 5 350 aa ?_
      try go_frame
      refine wpAnyH_done (by kernel_rfl) ?_ _
      have HE:Hid (JS w w5.drew (fun j=>j=x0) P d Q M kp wb x0 n ek mk ks s D ws (k+1)):=HI5.out.stay (below_drewN (Below.refl _ _) 1)
      clear aa hcv HI5 HRr HI
      go_wp2
      go_roundw
      case rel=>exact⟨i+1,by omega,by go_num,HE⟩
      case measure=>simp [RowKit.intOf];omega
     ·obtain rfl:i=n2:=by omega
      have HK0:=ae (HKn.out w4 HI.out.below)
      clear HKn HI
      go_wp2_with fail
      refine HK0.out.mono ?_
      rintro e w' ⟨rfl,hb⟩
      go_wp2
      go_ret
      exact⟨rfl,hb⟩
end Go.Proofs.YthbmknpbcgnabaaGreatDoor
