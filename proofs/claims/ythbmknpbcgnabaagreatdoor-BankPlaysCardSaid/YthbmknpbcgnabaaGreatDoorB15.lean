/- Of the walk. -/
import Derived.Test.YthbmknpbcgnabaaGreatDoorB10
set_option maxHeartbeats 40000000
section
namespace Go.Proofs.YthbmknpbcgnabaaGreatDoor
open Go.RowKit Aes
theorem oq (a b:Nat) (ha:a<1000000) (hb:b<1000000):bits .xor .i64 (a:Int) (b:Int)=((a ^^^ b:Nat):Int):=by
 have hx:a ^^^ b<2 ^ 20:=Nat.xor_lt_two_pow (by omega) (by omega)
 show IntKind.i64.wrap ((BitVec.ofInt 64 (a:Int) ^^^ BitVec.ofInt 64 (b:Int)).toNat:Int)=_
 rw[BitVec.toNat_xor,ofInt_u64 a (by omega),ofInt_u64 b (by omega),IntWalk.i64_in _ (by omega)]
def sj:Nat→Nat→Nat→Nat→Nat
 | 0,n,_,_=>n
 | k+1,n,p,b=>sj k (n ^^^ (b % 2*p)) ((2*p) ^^^ (2*p / 256*283)) (b / 2)
def mulN (a b:Nat):Nat:=sj 8 0 a b
def oJ (x y:UInt8):UInt8:=UInt8.ofNat (mulN x.toNat y.toNat)
def BO (k n p c:Nat):Nat:=sj (8 - k) n p c
theorem BN (k n p c:Nat) (h:k<8):BO k n p c=BO (k+1) (n ^^^ (c % 2*p)) ((2*p) ^^^ (2*p / 256*283)) (c / 2):=by
 unfold BO
 rw[show 8 - k=(8 - (k+1))+1 by omega,sj]
theorem Eu (n p c:Nat):BO 8 n p c=n:=rfl
theorem yl (a b:Nat):BO 0 0 a b=mulN a b:=rfl
theorem DT (p:Nat) (h:p<256):(2*p) ^^^ (2*p / 256*283)<256:=by
 have:(List.range 256).all (fun p=>decide ((2*p) ^^^ (2*p / 256*283)<256))=true:=by decide +kernel
 have h2:=List.all_eq_true.1 this p (List.mem_range.2 h)
 simpa using h2
theorem zB {a b:Nat} (ha:a<256) (hb:b<256):a ^^^ b<256:=Nat.xor_lt_two_pow (n:=8) ha hb
set_option maxRecDepth 100000
theorem uK (x y:UInt8) (w:World) :
  Calls Tryz.prog 139 #[.int .u8 x.toNat,.int .u8 y.toNat] w fun e w'=>e=.returned (.int .u8 (oJ x y).toNat)∧w=w':=by
 have hx:=lt8 x
 have hy:=lt8 y
 have HM:Hid (oJ x y=UInt8.ofNat (mulN x.toNat y.toNat)):=rfl
 have H0:=ae (yl x.toNat y.toNat)
 generalize mulN x.toNat y.toNat=M at *
 generalize x.toNat=a at *
 generalize y.toNat=b at *
 go_enter Tryz.func139,Tryz.ntmps139
 go_wp2
 go_loop [1,5,6,7] (fun c n p i=>∃ kc kn kp k:Nat,k≤8∧kc<256∧kn<256∧kp<256∧i=.int .i64 k∧c=.int .u8 kc∧n=.int .i64 kn∧p=.int .i64 kp∧Hid (BO k kn kp kc=M)) (fun _ _ _ i=>8 - (intOf i).toNat)
 case atStart=>exact⟨b,0,a,0,by omega,hy,by omega,hx,rfl,rfl,rfl,rfl,H0⟩
 case round =>
  obtain ⟨kc,kn,kp,k,hk,hc,hn,hp,rfl,rfl,rfl,rfl,HR⟩:=hrel
  by_cases hlt:k<8
  ·have HS:=ae (BN k kn kp kc hlt)
   have Hr:=ae (DT kp hp)
   have Hx1:=ae (oq kn kp (by omega) (by omega))
   have Hx2:=ae (oq (2*kp) 283 (by omega) (by omega))
   have Hnl:=ae (zB hn hp)
   by_cases h1:kc % 2=1
   ·have hB:((kc:Int) % 2 == 1)=true:=by simp;omega
    by_cases h2:256≤2*kp
    ·go_wp2
     go_round
     case rel =>
      refine⟨kc / 2,kn ^^^ kp,(2*kp) ^^^ 283,k+1,by omega,by omega,Hnl.out,?_,by go_num,by simp,by rw[Hx1.out],?_,?_⟩
      ·have:=Hr.out;rwa [show 2*kp / 256*283=283 by omega] at this
      ·rw[← Hx2.out];simp
      ·have:=HS.out;rw[h1,Nat.one_mul,show 2*kp / 256*283=283 by omega] at this;exact this.symm.trans HR.out
     case measure=>simp [intOf];omega
    ·go_wp2
     go_round
     case rel =>
      refine⟨kc / 2,kn ^^^ kp,2*kp,k+1,by omega,by omega,Hnl.out,by omega,by go_num,by simp,by rw[Hx1.out],by simp,?_⟩
      have:=HS.out;rw[h1,Nat.one_mul,show 2*kp / 256*283=0 by omega,Nat.xor_zero] at this;exact this.symm.trans HR.out
     case measure=>simp [intOf];omega
   ·have hB:((kc:Int) % 2 == 1)=false:=by simp;omega
    by_cases h2:256≤2*kp
    ·go_wp2
     go_round
     case rel =>
      refine⟨kc / 2,kn,(2*kp) ^^^ 283,k+1,by omega,by omega,hn,?_,by go_num,by simp,rfl,?_,?_⟩
      ·have:=Hr.out;rwa [show 2*kp / 256*283=283 by omega] at this
      ·rw[← Hx2.out];simp
      ·have:=HS.out;rw[show kc % 2=0 by omega,Nat.zero_mul,Nat.xor_zero,show 2*kp / 256*283=283 by omega] at this;exact this.symm.trans HR.out
     case measure=>simp [intOf];omega
    ·go_wp2
     go_round
     case rel =>
      refine⟨kc / 2,kn,2*kp,k+1,by omega,by omega,hn,by omega,by go_num,by simp,rfl,by simp,?_⟩
      have:=HS.out;rw[show kc % 2=0 by omega,Nat.zero_mul,Nat.xor_zero,show 2*kp / 256*283=0 by omega,Nat.xor_zero] at this;exact this.symm.trans HR.out
     case measure=>simp [intOf];omega
  ·obtain rfl:k=8:=by omega
   rw[show ((8:Nat):Int)=8 from rfl]
   have HE:Hid (kn=M):=(Eu kn kp kc).symm.trans HR.out
   go_wp2
   go_ret
   refine⟨Bt ?_,rfl⟩
   rw[HM.out,← HE.out,bF hn]
set_option maxRecDepth 512
theorem Bp (x:UInt8):rotl x 0=x:=by
 have:=ID (fun x=>rotl x 0 == x) (by decide +kernel) x
 simpa using this
theorem Bq (x:UInt8) (k:Nat) (h:k<4):(((rotl x k).toNat:Int)*2 % 256+((rotl x k).toNat:Int) / 128 % 256) % 256=((rotl x (k+1)).toNat:Int):=by
 have:(List.range 4).all (fun k=>(List.range 256).all fun n=>decide (((rotl (UInt8.ofNat n) k).toNat*2 % 256+(rotl (UInt8.ofNat n) k).toNat / 128) % 256=(rotl (UInt8.ofNat n) (k+1)).toNat))=true:=by decide +kernel
 have h2:=List.all_eq_true.1 this k (List.mem_range.2 h)
 have h3:=List.all_eq_true.1 h2 x.toNat (List.mem_range.2 x.toNat_lt)
 simp only [UInt8.ofNat_toNat,decide_eq_true_eq] at h3
 omega
set_option maxRecDepth 100000
theorem FF (x:UInt8) (n:Int) (h0:0≤n) (h1:n≤4) (w:World) :
  Calls Tryz.prog 161 #[.int .u8 x.toNat,.int .i64 n] w fun e w'=>e=.returned (.int .u8 (rotl x n.toNat).toNat)∧w=w':=by
 obtain ⟨m,rfl⟩:=Int.eq_ofNat_of_zero_le h0
 rw[Int.toNat_natCast]
 go_enter Tryz.func161,Tryz.ntmps161
 go_wp2
 go_loop [0,5] (fun t i=>∃ k:Nat,k≤m∧i=.int .i64 k∧t=.int .u8 (rotl x k).toNat) (fun _ i=>m - (intOf i).toNat)
 case atStart=>exact⟨0,by omega,rfl,by rw[Bp]⟩
 case round =>
  obtain ⟨k,hk,rfl,rfl⟩:=hrel
  by_cases hlt:k<m
  ·have HS:=ae (Bq x k (by omega))
   go_wp2
   go_round
   case rel=>exact⟨k+1,by omega,by go_num,G9 HS.out⟩
   case measure=>simp [intOf];omega
  ·go_wp2
   go_ret
   obtain rfl:k=m:=by omega
   exact⟨rfl,rfl⟩
end Go.Proofs.YthbmknpbcgnabaaGreatDoor
end
section
namespace Go.Proofs.YthbmknpbcgnabaaGreatDoor
open Go.RowKit Aes
theorem vM:∀ (k n p b:Nat),n<256→p<256→sj k n p b<256
 | 0,n,_,_,hn,_=>hn
 | k+1,n,p,b,hn,hp=>by
  rw[sj]
  refine vM k _ _ _ (zB hn ?_) (DT p hp)
  rcases Nat.mod_two_eq_zero_or_one b with h | h <;> rw[h] <;> omega
theorem zZ (a b:Nat) (ha:a<256):mulN a b<256:=vM 8 0 a b (by omega) ha
def Dn (x:Nat):Nat→Nat
 | 0=>0
 | k+1=>bif (mulN x (k+1)).beq 1 then k+1 else Dn x k
def INV:List Nat:=[0,1,141,246,203,82,123,209,232,79,41,192,176,225,229,199,116,180,170,75,153,43,96,95,88,63,253,204,255,64,238,178,58,110,90,241,85,77,168,201,193,10,152,21,48,68,162,194,44,69,146,108,243,57,102,66,242,53,32,111,119,187,89,25,29,254,55,103,45,49,245,105,167,100,171,19,84,37,233,9,237,92,5,202,76,36,135,191,24,62,34,240,81,236,97,23,22,94,175,211,73,166,54,67,244,71,145,223,51,147,33,59,121,183,151,133,16,181,186,60,182,112,208,6,161,250,129,130,131,126,127,128,150,115,190,86,155,158,149,217,247,2,185,164,222,106,50,109,216,138,132,114,42,20,159,136,249,220,137,154,251,124,46,195,143,184,101,72,38,200,18,74,206,231,210,98,12,224,31,239,17,117,120,113,165,142,118,61,189,188,134,87,11,40,47,163,218,212,228,15,169,39,83,4,27,252,172,230,122,7,174,99,197,219,226,234,148,139,196,213,157,248,144,107,177,13,214,235,198,14,207,173,8,78,215,227,93,80,30,179,91,35,56,52,104,70,3,140,221,156,125,160,205,26,65,28]
set_option maxRecDepth 100000
theorem Dm:(List.range 256).map (fun x=>Dn x 255)=INV:=by decide +kernel
set_option maxRecDepth 512
def srB (x:UInt8) (k:Nat):UInt8:=UInt8.ofNat (Dn x.toNat k)
theorem Dq (x:UInt8):srB x 0=0:=rfl
theorem GI (x:UInt8) (k:Nat) (hk:k<255) (h:(oJ x (UInt8.ofNat (k+1))).toNat=1):srB x (k+1)=UInt8.ofNat (k+1):=by
 rw[oJ,bF (by omega:k+1<256),bF (zZ _ _ (lt8 x))] at h
 rw[srB,Dn,h];rfl
theorem Ds (x:UInt8) (k:Nat) (hk:k<255) (h:(oJ x (UInt8.ofNat (k+1))).toNat≠1):srB x (k+1)=srB x k:=by
 rw[oJ,bF (by omega:k+1<256),bF (zZ _ _ (lt8 x))] at h
 rw[srB,Dn,show (mulN x.toNat (k+1)).beq 1=false from by
  cases hq:(mulN x.toNat (k+1)).beq 1 with
  | false=>rfl
  | true=>exact absurd (Nat.eq_of_beq_eq_true hq) h]
 rfl
set_option maxRecDepth 100000
theorem swap_eq (x:UInt8):srB x 255 ^^^ rotl (srB x 255) 1 ^^^ rotl (srB x 255) 2 ^^^ rotl (srB x 255) 3 ^^^ rotl (srB x 255) 4 ^^^ 99=sb x:=by
 have hi:srB x 255=UInt8.ofNat (INV.getD x.toNat 0):=by
  have h:=congrArg (fun l=>l.getD x.toNat 0) Dm
  have hx:=x.toNat_lt
  simp only [List.getD_eq_getElem?_getD,List.getElem?_map,List.getElem?_range hx,Option.map_some,Option.getD_some] at h
  rw[srB,h,List.getD_eq_getElem?_getD]
 rw[hi]
 have:=ID (fun x=>UInt8.ofNat (INV.getD x.toNat 0) ^^^ rotl (UInt8.ofNat (INV.getD x.toNat 0)) 1 ^^^ rotl (UInt8.ofNat (INV.getD x.toNat 0)) 2 ^^^ rotl (UInt8.ofNat (INV.getD x.toNat 0)) 3 ^^^ rotl (UInt8.ofNat (INV.getD x.toNat 0)) 4 ^^^ 99 == sb x) (by decide +kernel) x
 simpa using this
set_option maxRecDepth 512
theorem Lx (x:UInt8) (k:Nat) (hk:k<255) (i:Int) (hi:i=(k:Int)+1) (w:World) :
  Calls Tryz.prog 139 #[.int .u8 x.toNat,.int .u8 i] w fun e w'=>e=.returned (.int .u8 (oJ x (UInt8.ofNat (k+1))).toNat)∧w=w':=by
 have:=uK x (UInt8.ofNat (k+1)) w
 rw[bF (by omega:k+1<256)] at this
 subst hi
 exact this
set_option maxRecDepth 100000
theorem Fv (x:UInt8) (w:World) :
  Calls Tryz.prog 138 #[.int .u8 x.toNat] w fun e w'=>e=.returned (.int .u8 (sb x).toNat)∧w=w':=by
 go_enter Tryz.func138,Tryz.ntmps138
 go_wp2
 go_loop [3,4] (fun b i=>∃ (k:Nat) (y:UInt8),k≤255∧i=.int .i64 ((k:Int)+1)∧b=.int .u8 y.toNat∧Hid (y=srB x k)) (fun _ i=>256 - (intOf i).toNat)
 case atStart=>exact⟨0,0,by omega,rfl,rfl,(Dq x).symm⟩
 case round =>
  obtain ⟨k,y,hk,rfl,rfl,Hy⟩:=hrel
  by_cases hlt:k<255
  ·obtain ⟨z,hz⟩:∃ z:UInt8,z=oJ x (UInt8.ofNat (k+1)):=⟨_,rfl⟩
   have HC:Hid (∀ W,Calls Tryz.prog 139 #[.int .u8 x.toNat,.int .u8 ((k:Int)+1)] W fun e w'=>e=.returned (.int .u8 z.toNat)∧W=w'):=fun W=>by
    rw[hz];exact Lx x k hlt _ rfl W
   by_cases h1:z.toNat=1
   ·have HH:Hid (srB x (k+1)=UInt8.ofNat (k+1)):=GI x k hlt (by rw[← hz];exact h1)
    have hB:((z.toNat:Int) == 1)=true:=by simp;omega
    have HN:Hid (((UInt8.ofNat (k+1)).toNat:Int)=(k:Int)+1):=by show _=_;rw[bF (by omega)];omega
    clear hz h1
    go_wp2_with (go_at_call 139;refine(HC.out _).mono ?_;rintro e w' ⟨rfl,rfl⟩)
    go_round
    case rel=>exact⟨k+1,UInt8.ofNat (k+1),by omega,by go_num,G9 HN.out.symm,HH.out.symm⟩
    case measure=>simp [intOf];omega
   ·have HH:Hid (srB x (k+1)=srB x k):=Ds x k hlt (by rw[← hz];exact h1)
    have hB:((z.toNat:Int) == 1)=false:=by simp;omega
    clear hz h1
    go_wp2_with (go_at_call 139;refine(HC.out _).mono ?_;rintro e w' ⟨rfl,rfl⟩)
    go_round
    case rel=>exact⟨k+1,y,by omega,by go_num,rfl,Hy.out.trans HH.out.symm⟩
    case measure=>simp [intOf];omega
  ·obtain rfl:k=255:=by omega
   rw[show ((255:Nat):Int)+1=256 from rfl]
   have HE:=ae (swap_eq x)
   rw[← Hy.out] at HE
   clear Hy
   go_wp2_with (go_at_call 161;refine(FF _ _ (by omega) (by omega) _).mono ?_;rintro e w' ⟨rfl,rfl⟩)
   go_ret
   refine⟨Bt ?_,rfl⟩
   rw[← HE.out,← dV,← dV,← dV,← dV,← dV]
   rfl
set_option maxRecDepth 512
theorem Fx (k:Nat) (h:k<256):SBL.take (k+1)=SBL.take k++[sb (UInt8.ofNat k)]:=by
 rw[List.take_succ_eq_append_getElem (by rw[eF];exact h)]
 simp [SBL]
theorem IF (k:Nat) (hk:k<256) (i:Int) (hi:i=(k:Int)) (w:World) :
  Calls Tryz.prog 138 #[.int .u8 i] w fun e w'=>e=.returned (.int .u8 (sb (UInt8.ofNat k)).toNat)∧w=w':=by
 have:=Fv (UInt8.ofNat k) w
 rw[bF hk] at this
 subst hi
 exact this
set_option maxRecDepth 100000
theorem I5 (w:World) :
  Calls Tryz.prog 115 #[] w fun e w'=>∃ v,e=.returned v∧Hid (Own w' w.heap.size 5 v (SBL.map V8))∧Below w.heap.size w w':=by
 go_enter Tryz.func115,Tryz.ntmps115
 go_wp2
 go_loopw [1,2] (fun o i wr=>∃ k:Nat,k≤256∧i=.int .i64 k∧Own wr w.heap.size 5 o ((SBL.take k).map V8)∧Below w.heap.size w wr) (fun _ i _=>256 - (intOf i).toNat)
 case atStart=>exact⟨0,by omega,rfl,Own.nil _ _ _,Below.refl _ _⟩
 case round =>
  obtain ⟨k,hk,rfl,hown,ak⟩:=hrel
  have dD:=ak.size
  by_cases hlt:k<256
  ·have HT:=ae (Fx k hlt)
   have HL:Hid (((SBL.take k).map V8).length+1≤100000000):=by show _≤_;rw[List.length_map,List.length_take];omega
   have HC:=ae (fun W=>IF k hlt (k:Int) rfl W)
   generalize sb (UInt8.ofNat k)=x at *
   have bp:=ae hown
   clear hown
   go_wp2_with (first
    | (go_at_call 138;refine(HC.out _).mono ?_;rintro e w' ⟨rfl,rfl⟩)
    | (at_builtin;refine aA rfl (.tmp 7) (.tmp 11) 22 rfl w.heap.size 5 Tryz.underlying22 bK rfl (by decide) _ ((SBL.take k).map V8) rfl (bp.out.alloc _) _ [.int .u8 x.toNat] rfl (az wr 5 [.int .u8 x.toNat]) (bI [x]) HL.out (by simp;omega) ?_;intro v' w2 aC hg2 _))
   go_roundw
   case rel =>
    refine⟨k+1,by omega,by go_num,?_,?_⟩
    ·rw[HT.out,List.map_append];exact aC
    ·exact au (ak.alloc dD _) (bp.out.alloc _) hg2 (Nat.le_refl _) (by simp;omega)
   case measure=>simp [intOf];omega
  ·obtain rfl:k=256:=by omega
   rw[show ((256:Nat):Int)=256 from rfl]
   have hf:SBL.take 256=SBL:=List.take_of_length_le (by rw[eF];omega)
   rw[hf] at hown
   have bp:=ae hown
   clear hf hown
   go_wp2
   go_ret
   exact⟨_,rfl,bp,ak⟩
end Go.Proofs.YthbmknpbcgnabaaGreatDoor
end
section
namespace Go.Proofs.YthbmknpbcgnabaaGreatDoor
open Go.RowKit Aes
def iQ (w:World) (vs:List Value) (ps:List (List UInt8)):Prop:=vs.length=ps.length∧∀ (j:Nat) v p,vs[j]? = some v→ps[j]? = some p→Arg w v p
theorem iQ.below {w w':World} {vs:List Value} {ps:List (List UInt8)} (h:iQ w vs ps) (hb:Below w.heap.size w w'):iQ w' vs ps:=⟨h.1,fun j v p hv hp=>(h.2 j v p hv hp).below hb⟩
def dz (w:World) (v:Value) (ps:List (List UInt8)):Prop :=
 ∃ b o cap vs,v=.slice (some ⟨b,o,none⟩) ps.length cap∧iQ w vs ps∧b<w.heap.size∧ah w b o vs
theorem dz.below {w w':World} {v:Value} {ps:List (List UInt8)} (h:dz w v ps) (hb:Below w.heap.size w w'):dz w' v ps:=by
 obtain ⟨b,o,cap,vs,e,hv,hl,hs⟩:=h
 exact⟨b,o,cap,vs,e,hv.below hb,Nat.lt_of_lt_of_le hl hb.size,hs.below hb hl⟩
theorem Arg.word {w:World} {v:Value} {p:List UInt8} (h:Arg w v p) (hp:0<p.length):∃ b o c,v=.slice (some ⟨b,o,none⟩) p.length c∧b<w.heap.size∧ah w b o (p.map V8):=by
 rcases h with ⟨A,_,rfl⟩ | ⟨b,o,c,e,hb,_,hs⟩
 ·simp at hp
 ·exact⟨b,o,c,e,hb,hs⟩
theorem iQ.word {w:World} {vs:List Value} {ps:List (List UInt8)} (h:iQ w vs ps) (h4:∀ x∈ps,x.length=4) (j:Nat) (hj:j<ps.length) :
  ∃ b o c,vs[j]? = some (.slice (some ⟨b,o,none⟩) 4 c)∧b<w.heap.size∧ah w b o ((ps.getD j []).map V8)∧(ps.getD j []).length=4:=by
 have hv:=List.getElem?_eq_getElem (show j<vs.length by rw[h.1];exact hj)
 have hp:=List.getElem?_eq_getElem hj
 have hl:=h4 _ (List.getElem_mem hj)
 obtain ⟨b,o,c,e,hb,hs⟩:=(h.2 j _ _ hv hp).word (by omega)
 have e2:ps.getD j []=ps[j]:=by rw[List.getD_eq_getElem?_getD,hp];rfl
 refine⟨b,o,c,?_,hb,?_,?_⟩
 ·rw[hv,e,hl]
 ·rw[e2];exact hs
 ·rw[e2];exact hl
theorem mg (b k:List UInt8) (j:Nat) (hb:j<b.length) (hk:j<k.length):a8 (b.take (j+1)) (k.take (j+1))=a8 (b.take j) (k.take j)++[b.getD j 0 ^^^ k.getD j 0]:=by
 unfold a8
 rw[List.take_succ_eq_append_getElem hb,List.take_succ_eq_append_getElem hk,List.zipWith_append (by simp;omega),List.getD_eq_getElem?_getD,List.getElem?_eq_getElem hb,List.getD_eq_getElem?_getD,List.getElem?_eq_getElem hk]
 rfl
theorem G7 (r k:Nat) (hr:r≤10) (hk:k<16):∃ a:Nat,IntKind.i64.wrap (4*(r:Int))=(a:Int)∧∃ c:Nat,IntKind.i64.wrap ((k:Int) / 4)=(c:Int)∧∃ q:Nat,IntKind.i64.wrap ((a:Int)+(c:Int))=(q:Int)∧∃ m:Nat,(k:Int).tmod 4=(m:Int)∧q<44∧m<4∧16*r+k=4*q+m:=by
 refine⟨r*4,by rw[IntWalk.i64_in _ (by omega)];omega,k / 4,by rw[IntWalk.i64_in _ (by omega)];omega,r*4+k / 4,by rw[IntWalk.i64_in _ (by omega)];omega,k % 4,by rw[Int.tmod_eq_emod_of_nonneg (by omega)];omega,by omega,by omega,by omega⟩
set_option maxRecDepth 100000
theorem CS (vb vo vc ub uo uc r:Nat) (hr:r≤10) (b:List UInt8) (hbl:b.length=16) (ws:List (List UInt8)) (hwl:ws.length=44) (hw4:∀ x∈ws,x.length=4) (vs:List Value) (w:World)
  (hvl:vb<w.heap.size) (hv:ah w vb vo (b.map V8)) (hul:ub<w.heap.size) (hus:ah w ub uo vs) (lu:iQ w vs ws) :
  Calls Tryz.prog 163 #[.slice (some ⟨vb,vo,none⟩) 16 vc,.slice (some ⟨ub,uo,none⟩) 44 uc,.int .i64 r] w fun e w'=>∃ v,e=.returned v∧Hid (Own w' w.heap.size 5 v ((a8 b ((ws.flatten.drop (16*r)).take 16)).map V8))∧Below w.heap.size w w':=by
 have HBl:=ae hbl
 have HWl:=ae hwl
 have HW4:=ae hw4
 have HV:=ae hv
 have HU:=ae hus
 have HVa:=ae lu
 have HFl:Hid (((ws.flatten.drop (16*r)).take 16).length=16):=by
  show _=_
  rw[List.length_take,List.length_drop,eE ws hw4,hwl];omega
 obtain ⟨ks,hks⟩:∃ ks,ks=(ws.flatten.drop (16*r)).take 16:=⟨_,rfl⟩
 have HKS:=ae hks
 rw[← hks] at HFl ⊢
 clear hks hbl hwl hw4 hv hus lu
 go_enter Tryz.func163,Tryz.ntmps163
 go_wp2
 go_loopw [7,8] (fun o i wr=>∃ k:Nat,k≤16∧i=.int .i64 k∧Own wr w.heap.size 5 o ((a8 (b.take k) (ks.take k)).map V8)∧Below w.heap.size w wr) (fun _ i _=>16 - (intOf i).toNat)
 case atStart=>exact⟨0,by omega,rfl,Own.nil _ _ _,Below.refl _ _⟩
 case round =>
  obtain ⟨k,hk,rfl,hown,ak⟩:=hrel
  have dD:=ak.size
  by_cases hlt:k<16
  ·obtain ⟨a,ea,c,ec,q,eq,m,em,hq,hm,hqm⟩:=G7 r k hr hlt
   obtain ⟨pb,po,pc,hpv,hpl,hps,hp4⟩:=HVa.out.word HW4.out q (by rw[HWl.out];exact hq)
   have HY:Hid (ks.getD k 0=(ws.getD q []).getD m 0):=by
    show _=_
    rw[HKS.out,List.getD_eq_getElem?_getD,List.getElem?_take,if_pos hlt,List.getElem?_drop,← List.getD_eq_getElem?_getD,hqm,uk ws HW4.out q m hm (by rw[HWl.out];exact hq)]
   have g1:wr.cell? ⟨vb,vo+k,none⟩=some (.int .u8 (b.getD k 0).toNat):=at8 (HV.out.below ak hvl) k (by rw[HBl.out];exact hlt)
   have g2:wr.cell? ⟨ub,uo+q,none⟩=some (.slice (some ⟨pb,po,none⟩) 4 pc):=(HU.out.below ak hul) q _ hpv
   have g3:wr.cell? ⟨pb,po+m,none⟩=some (.int .u8 ((ws.getD q []).getD m 0).toNat):=at8 (hps.below ak hpl) m (by rw[hp4];exact hm)
   have HT:Hid (a8 (b.take (k+1)) (ks.take (k+1))=a8 (b.take k) (ks.take k)++[b.getD k 0 ^^^ ks.getD k 0]):=mg b ks k (by rw[HBl.out];exact hlt) (by rw[HFl.out];exact hlt)
   rw[HY.out] at HT
   have HX:=ae (dV (b.getD k 0) ((ws.getD q []).getD m 0))
   generalize b.getD k 0=x at *
   generalize (ws.getD q []).getD m 0=y at *
   have HL:Hid (((a8 (b.take k) (ks.take k)).map V8).length+1≤100000000):=by show _≤_;simp [a8];omega
   have bp:=ae hown
   clear hown hpv hps hp4 hqm HY
   go_wp2
   have hq':(q:Int)<44:=by omega
   have hm':(m:Int)<4:=by omega
   have hk':(k:Int)<16:=by omega
   have G0:wr.drew.cell? ⟨vb,vo+k,none⟩=some (.int .u8 x.toNat)∧wr.drew.cell? ⟨ub,uo+q,none⟩=some (.slice (some ⟨pb,po,none⟩) 4 pc)∧wr.drew.cell? ⟨pb,po+m,none⟩=some (.int .u8 y.toNat):=⟨g1,g2,g3⟩
   have G1:∀ o,(wr.alloc o).drew.cell? ⟨vb,vo+k,none⟩=some (.int .u8 x.toNat)∧(wr.alloc o).drew.cell? ⟨ub,uo+q,none⟩=some (.slice (some ⟨pb,po,none⟩) 4 pc)∧(wr.alloc o).drew.cell? ⟨pb,po+m,none⟩=some (.int .u8 y.toNat):=fun o =>
    ⟨(World.cell?_alloc_lt wr o _ (by show vb<_;omega)).trans g1,(World.cell?_alloc_lt wr o _ (by show ub<_;omega)).trans g2,(World.cell?_alloc_lt wr o _ (by show pb<_;omega)).trans g3⟩
   clear g1 g2 g3
   have eH:Hid (∀ o,Own (wr.alloc o).drew w.heap.size 5 u7 ((a8 (b.take k) (ks.take k)).map V8)):=fun o=>(bp.out.alloc o).drew
   have CL:Hid (vb<w.heap.size∧ub<w.heap.size∧pb<w.heap.size):=⟨hvl,hul,hpl⟩
   have HG4:Hid (∀ w4,(wr.alloc (.cells #[.int .u8 (bits .xor .u8 (x.toNat:Int) y.toNat)] 5)).drew.grownBy w4 u7.ownBlock→w4.cell? ⟨vb,vo+k,none⟩=some (.int .u8 x.toNat)∧w4.cell? ⟨ub,uo+q,none⟩=some (.slice (some ⟨pb,po,none⟩) 4 pc)∧w4.cell? ⟨pb,po+m,none⟩=some (.int .u8 y.toNat)):=fun w4 hg=>by
    have hB:Below w.heap.size (wr.alloc (.cells #[.int .u8 (bits .xor .u8 (x.toNat:Int) y.toNat)] 5)).drew w4:=au (Below.refl _ _) (eH.out _) hg (Nat.le_refl _) (by simp;omega)
    obtain ⟨k1,k2,k3⟩:=G1 (.cells #[.int .u8 (bits .xor .u8 (x.toNat:Int) y.toNat)] 5)
    exact⟨(hB.cell (p:=⟨vb,vo+k,none⟩) CL.out.1).trans k1,(hB.cell (p:=⟨ub,uo+q,none⟩) CL.out.2.1).trans k2,(hB.cell (p:=⟨pb,po+m,none⟩) CL.out.2.2).trans k3⟩
   go_region_held3 (fun W=>W.cell? ⟨vb,vo+k,none⟩=some (.int .u8 x.toNat)∧W.cell? ⟨ub,uo+q,none⟩=some (.slice (some ⟨pb,po,none⟩) 4 pc)∧W.cell? ⟨pb,po+m,none⟩=some (.int .u8 y.toNat)) (first | exact G0 | exact G1 _ | exact G4)
    (first | (refine cK rfl (.tmp 13) (.tmp 31) 22 rfl w.heap.size 5 Tryz.underlying22 bK rfl (by decide) _ ((a8 (b.take k) (ks.take k)).map V8) rfl (eH.out _) _ [.int .u8 (bits .xor .u8 (x.toNat:Int) y.toNat)] rfl (az wr 5 [.int .u8 (bits .xor .u8 (x.toNat:Int) y.toNat)]) (by rw[HX.out];exact bI [x ^^^ y]) HL.out (by simp;omega) ?_;intro v' w2 aC hg2 _;have G4:=HG4.out _ hg2))
   all_goals
    clear G0 G1 G4 HG4 ea ec eq em hq' hm' hk'
    go_wp2
    go_roundw
    case rel =>
     rw[HX.out] at aC
     refine⟨k+1,by omega,by go_num,?_,?_⟩
     ·rw[HT.out,List.map_append];exact aC
     ·exact au (ak.alloc dD _).drew (eH.out _) hg2 (Nat.le_refl _) (by simp;omega)
    case measure=>simp [intOf];omega
  ·obtain rfl:k=16:=by omega
   rw[show ((16:Nat):Int)=16 from rfl]
   have e1:b.take 16=b:=List.take_of_length_le (by rw[HBl.out];omega)
   have e2:ks.take 16=ks:=List.take_of_length_le (by rw[HFl.out];omega)
   rw[e1,e2] at hown
   have bp:=ae hown
   clear e1 e2 hown
   go_wp2
   go_ret
   exact⟨_,rfl,bp,ak⟩
end Go.Proofs.YthbmknpbcgnabaaGreatDoor
end
section
namespace Go.Proofs.YthbmknpbcgnabaaGreatDoor
open Go.RowKit Aes
theorem PW (x:UInt8):oJ x 2=dbl x:=by
 have:=ID (fun x=>oJ x 2 == dbl x) (by decide +kernel) x
 simpa using this
theorem PV (x:UInt8):oJ x 3=tpl x:=by
 have:=ID (fun x=>oJ x 3 == tpl x) (by decide +kernel) x
 simpa using this
theorem AL (x:UInt8) (w:World):Calls Tryz.prog 139 #[.int .u8 x.toNat,.int .u8 2] w fun e w'=>e=.returned (.int .u8 (dbl x).toNat)∧w=w':=by
 have:=uK x 2 w;rw[PW] at this;exact this
theorem CE (x:UInt8) (w:World):Calls Tryz.prog 139 #[.int .u8 x.toNat,.int .u8 3] w fun e w'=>e=.returned (.int .u8 (tpl x).toNat)∧w=w':=by
 have:=uK x 3 w;rw[PV] at this;exact this
theorem Ad:(Tryz.prog.info? 22).map (fun i=>(i.zero,i.size,i.bytes))=some (some (.slice none 0 0),1,24):=by kernel_rfl
theorem DC {P:Program} {w:World} (t ty:TypeId) (B:Nat) (e:TypeId) {z:Value} {bytes:Nat} (ht:P.underlying t=some (.slice e)) (hi:(P.info? e).map (fun i=>(i.zero,i.size,i.bytes))=some (some z,1,bytes)) (hz:z.cells.size=1) (hby:bytes≤100)
  (v:Value) (ys:List Value) (hown:Own w B e v ys) (b off c:Nat) (zs:List Value) (cd:ah w b off zs) (h1:∀ y∈zs,y.oneCell'=true) (hl:ys.length+zs.length≤1000000) (hB:B≤w.heap.size) :
  ∃ v' w',(Builtin.append_ #[t,t] ty #[v,.slice (some ⟨b,off,none⟩) zs.length c]).run P w=.ok v' w'∧Own w' B e v' (ys++zs)∧w.grownBy w' v.ownBlock∧(v'.ownBlock=v.ownBlock∨v'.ownBlock=some w.heap.size):=by
 obtain ⟨i,hi,hz0,hz1,hz2⟩:=info_parts hi
 have k9:(ys.length+zs.length)*bytes≤140737488355328:=by
  have:(ys.length+zs.length)*bytes≤1000000*100:=Nat.mul_le_mul hl hby
  omega
 obtain ⟨v',w',hr,h2,h3,_,h5⟩:=run_append_own_at w B t ty e i z 1 bytes ht hi hz0 hz1 hz2 hz (by omega) v ys.length ys hown ⟨b,off,none⟩ zs.length c zs (by simp) (fun j u hu=>by rw[bD];exact cd j u hu) h1 (by simp only [maxLen];omega) k9 hB
 exact⟨v',w',hr,by rw[← List.length_append] at h2;exact h2,h3,h5⟩
def wkK (key:List UInt8) (n:Nat):List (List UInt8):=wk key n
def z7 (k:Nat):UInt8:=Aes.mark k
def aR (Lo B:Nat) (W:World) (v:Value) (ps:List (List UInt8)):Prop :=
 ∃ vs,Own W B 22 v vs∧vs.length=ps.length∧∀ (j:Nat) u p,vs[j]? = some u→ps[j]? = some p→∃ b o c,u=.slice (some ⟨b,o,none⟩) p.length c∧p.length≤c∧(b<W.heap.size∧Lo≤b)∧v.ownBlock≠some b∧ah W b o (p.map V8)
theorem aR.nil (Lo B:Nat) (W:World):aR Lo B W (.slice none 0 0) []:=⟨[],Own.nil _ _ _,rfl,fun j u p hu=>by simp at hu⟩
theorem aR.below {Lo B:Nat} {W W':World} {v:Value} {ps:List (List UInt8)} (h:aR Lo B W v ps) (hb:Below W.heap.size W W'):aR Lo B W' v ps:=by
 obtain ⟨vs,ho,hl,hw⟩:=h
 refine⟨vs,ho.below hb (Nat.le_refl _),hl,fun j u p hu hp=>?_⟩
 obtain ⟨b,o,c,e,hc,⟨hlt,hlo⟩,hne,hs⟩:=hw j u p hu hp
 exact⟨b,o,c,e,hc,⟨Nat.lt_of_lt_of_le hlt hb.size,hlo⟩,hne,hs.below hb hlt⟩
theorem aR.snoc {Lo B:Nat} {W W':World} {v v':Value} {ps:List (List UInt8)} {p:List UInt8} {b o c:Nat} (hv:∃ vs,Own W B 22 v vs∧vs.length=ps.length∧(∀ (j:Nat) u q,vs[j]? = some u→ps[j]? = some q→∃ b o c,u=.slice (some ⟨b,o,none⟩) q.length c∧q.length≤c∧(b<W.heap.size∧Lo≤b)∧v.ownBlock≠some b∧ah W b o (q.map V8))∧Own W' B 22 v' (vs++[.slice (some ⟨b,o,none⟩) p.length c]))
  (hg:W.grownBy W' v.ownBlock) (hn:v'.ownBlock=v.ownBlock∨v'.ownBlock=some W.heap.size) (hb:b<W.heap.size) (hLo:Lo≤b) (hne:v.ownBlock≠some b) (hc:p.length≤c) (hs:ah W b o (p.map V8)):aR Lo B W' v' (ps++[p]):=by
 obtain ⟨vs,ho,hl,hw,ho'⟩:=hv
 have off:∀ b',b'<W.heap.size→v.ownBlock≠some b'→v'.ownBlock≠some b':=fun b' h1 h2=>by
  rcases hn with e | e <;> rw[e]
  ·exact h2
  ·intro h;injection h with h;omega
 refine⟨_,ho',by simp [hl],fun j u q hu hq=>?_⟩
 rcases Nat.lt_or_ge j vs.length with hj | hj
 ·rw[List.getElem?_append_left hj] at hu
  rw[List.getElem?_append_left (by omega)] at hq
  obtain ⟨b1,o1,c1,e1,hc1,⟨ki,Ic⟩,EM,hs1⟩:=hw j u q hu hq
  exact⟨b1,o1,c1,e1,hc1,⟨Nat.lt_of_lt_of_le ki hg.size,Ic⟩,off b1 ki EM,hs1.grown hg ki (fun h=>EM h.symm)⟩
 ·rw[List.getElem?_append_right hj] at hu
  rw[List.getElem?_append_right (by omega)] at hq
  have hj0:j - vs.length=0:=by have:=(List.getElem?_eq_some_iff.1 hu).1;simp at this;omega
  rw[hj0] at hu
  rw[show j - ps.length=0 by omega] at hq
  simp at hu hq
  subst hu hq
  exact⟨b,o,c,rfl,hc,⟨Nat.lt_of_lt_of_le hb hg.size,hLo⟩,off b hb hne,hs.grown hg hb (fun h=>hne h.symm)⟩
theorem aX {w:World} {ops:Array Oper} {rest:List Oper} {op:Oper} {a:Act} {Q:Exit→Act→World→Prop} (hgd:op.guard=none) (s x:Operand)
  (ho:op.op=.call { callee:=.builtin .append,args:=#[s,x],argTypes:=#[48,48] })
  (Lo B:Nat) (v:Value) (ps:List (List UInt8)) (hs:a.eval s=v) (hR:aR Lo B w v ps) (g c1 b o c:Nat) (p:List UInt8) (hx:a.eval x=.slice (some ⟨g,0,none⟩) 1 c1) (cd:ah w g 0 [.slice (some ⟨b,o,none⟩) p.length c])
  (hb:b<w.heap.size) (hLo:Lo≤b) (hne:v.ownBlock≠some b) (hc:p.length≤c) (hp:ah w b o (p.map V8)) (hl:ps.length≤1000) (hB:B≤w.heap.size)
  (h:∀ v' w',Hid (aR Lo B w' v' (ps++[p]))→Below B w w'→wpList Tryz.prog ops Q rest (a.put op.dst v') w'):wpList Tryz.prog ops Q (op::rest) a w:=by
 refine wpList_plain hgd fun K hK=>?_
 obtain ⟨vs,hown,hvl,hw⟩:=hR
 obtain ⟨v',w',hr,h2,h3,h5⟩:=DC (P:=Tryz.prog) 48 op.type B 22 Tryz.underlying48 Ad rfl (by decide) v vs hown g 0 c1 [.slice (some ⟨b,o,none⟩) p.length c] cd (by intro y hy;simp at hy;subst hy;rfl) (by simp;omega) hB
 have hR':aR Lo B w' v' (ps++[p]):=aR.snoc ⟨vs,hown,hvl,hw,h2⟩ h3 h5 hb hLo hne hc hp
 unfold Oper.wp execOp
 simp only [ho,resolve,invoke,builtin,Sem.run_bind,Sem.run_pure,Result.andThen_ok,List.map_toArray,List.map_cons,List.map_nil,hs,hx]
 have hr':=hr
 simp only [List.length_cons,List.length_nil,Nat.zero_add] at hr'
 rw[hr']
 exact hK _ _ (h v' w' hR' (au (Below.refl _ _) hown h3 (Nat.le_refl _) hB))
theorem aR.word {Lo B:Nat} {W:World} {v:Value} {ps:List (List UInt8)} (h:aR Lo B W v ps) (h4:∀ x∈ps,x.length=4) (hp:0<ps.length) :
  ∃ g cap,v=.slice (some ⟨g,0,none⟩) ps.length cap∧v.ownBlock=some g∧B≤g∧g<W.heap.size∧∀ j,j<ps.length→∃ b o c,W.cell? ⟨g,j,none⟩=some (.slice (some ⟨b,o,none⟩) 4 c)∧b<W.heap.size∧b≠g∧ah W b o ((ps.getD j []).map V8)∧(ps.getD j []).length=4:=by
 obtain ⟨vs,ho,hl,hw⟩:=h
 obtain ⟨g,cap,e,hB,hg,hs⟩:=ho.form (by omega)
 have hob:v.ownBlock=some g:=by rw[e];rfl
 refine⟨g,cap,by rw[e,hl],hob,hB,hg,fun j hj=>?_⟩
 have hv:=List.getElem?_eq_getElem (show j<vs.length by omega)
 have hq:=List.getElem?_eq_getElem hj
 have hq4:=h4 _ (List.getElem_mem hj)
 obtain ⟨b,o,c,e1,_,⟨hlt,_⟩,hne,hs1⟩:=hw j _ _ hv hq
 have e2:ps.getD j []=ps[j]:=by rw[List.getD_eq_getElem?_getD,hq];rfl
 refine⟨b,o,c,?_,hlt,fun h=>hne (by rw[hob,h]),by rw[e2];exact hs1,by rw[e2];exact hq4⟩
 have:=hs j _ hv
 rw[Nat.zero_add,e1,hq4] at this
 exact this
end Go.Proofs.YthbmknpbcgnabaaGreatDoor
end
