/- Of the walk. -/
import Derived.Test.YthbmknpbcgnabaaGreatDoorB39
set_option maxHeartbeats 40000000
namespace Go.Proofs.YthbmknpbcgnabaaGreatDoor
open Go.RowKit Aes Ctr Sl Dsk
def pkN (n:Nat) (c:Int):Nat:=(if c<0 then -(c+1) else c).toNat % n
set_option maxRecDepth 100000
theorem LA (c:Int) (h1:-9223372036854775808≤c) (h2:c≤9223372036854775807) (w:World):Calls Tryz.prog 14 #[.int .i64 c,.int .i64 6] w fun e w'=>e=.returned (.int .i64 (pkN 6 c))∧w'=w:=by
 go_enter Tryz.func14,Tryz.ntmps14
 by_cases h0:c<0
 ·obtain ⟨m,rfl⟩:∃ m:Nat,c=-(m:Int) - 1:=⟨(-(c+1)).toNat,by omega⟩
  have e1:IntKind.i64.wrap (-(m:Int) - 1+1)=-(m:Int):=by rw[IntWalk.i64_in _ (by omega)];omega
  have e2:IntKind.i64.wrap (-(-(m:Int)))=(m:Int):=by rw[IntWalk.i64_in _ (by omega)];omega
  have e3:pkN 6 (-(m:Int) - 1)=m % 6:=by rw[pkN,if_pos h0];congr 1;omega
  rw[e3]
  go_wp2
  go_ret
  exact⟨congrArg (fun z=>Ending.returned (Value.int .i64 z)) (by omega),rfl⟩
 ·obtain ⟨m,rfl⟩:∃ m:Nat,c=(m:Int):=⟨c.toNat,by omega⟩
  have e3:pkN 6 (m:Int)=m % 6:=by rw[pkN,if_neg h0];rfl
  rw[e3]
  go_wp2
  go_ret
  exact⟨congrArg (fun z=>Ending.returned (Value.int .i64 z)) (by omega),rfl⟩
theorem LB (c:Int) (h1:-9223372036854775808≤c) (h2:c≤9223372036854775807) (w:World):Calls Tryz.prog 14 #[.int .i64 c,.int .i64 4] w fun e w'=>e=.returned (.int .i64 (pkN 4 c))∧w'=w:=by
 go_enter Tryz.func14,Tryz.ntmps14
 by_cases h0:c<0
 ·obtain ⟨m,rfl⟩:∃ m:Nat,c=-(m:Int) - 1:=⟨(-(c+1)).toNat,by omega⟩
  have e1:IntKind.i64.wrap (-(m:Int) - 1+1)=-(m:Int):=by rw[IntWalk.i64_in _ (by omega)];omega
  have e2:IntKind.i64.wrap (-(-(m:Int)))=(m:Int):=by rw[IntWalk.i64_in _ (by omega)];omega
  have e3:pkN 4 (-(m:Int) - 1)=m % 4:=by rw[pkN,if_pos h0];congr 1;omega
  rw[e3]
  go_wp2
  go_ret
  exact⟨congrArg (fun z=>Ending.returned (Value.int .i64 z)) (by omega),rfl⟩
 ·obtain ⟨m,rfl⟩:∃ m:Nat,c=(m:Int):=⟨c.toNat,by omega⟩
  have e3:pkN 4 (m:Int)=m % 4:=by rw[pkN,if_neg h0];rfl
  rw[e3]
  go_wp2
  go_ret
  exact⟨congrArg (fun z=>Ending.returned (Value.int .i64 z)) (by omega),rfl⟩
set_option maxRecDepth 512
theorem aI.cellAt {w:World} {K:Nat→Prop} {A:Option Addr} {m c:Nat} {l:List (List UInt8)} (h:aI w K (.slice A m c) l) (hm:m=l.length) {i:Nat} (hi:i<m) :
  ∃ b o A1 c1,A=some ⟨b,o,none⟩∧b<w.heap.size∧w.cell? ⟨b,o+i,none⟩=some (.slice A1 (l.getD i []).length c1)∧cW w K (.slice A1 (l.getD i []).length c1) (l.getD i []):=by
 obtain ⟨b,o,hA,hb,_,hc⟩:=h.at_ hm.symm (by omega)
 obtain ⟨A1,c1,h1,h2⟩:=hc i hi
 exact⟨b,o,A1,c1,hA,hb,h1,h2⟩
set_option maxRecDepth 100000
theorem za {w:World} {K:Nat→Prop} {v:Value} {l:List (List UInt8)} (h:aI w K v l) (hl:l.length≤1000) :
  Calls Tryz.prog 18 #[v] w fun e w'=>∃ r,e=.returned r∧Hid (Own w' w.heap.size 9 r (l.map VS))∧Below w.heap.size w w':=by
 obtain ⟨A,cap,rfl⟩:=h.form
 obtain ⟨m,hm⟩:∃ m,m=l.length:=⟨_,rfl⟩
 rw[← hm] at h hl ⊢
 have HPt:Hid (∀ i,i<m→_):=fun i hi=>h.cellAt hm hi
 have HM:=ae hm
 clear h hm
 go_enter Tryz.func18,Tryz.ntmps18
 go_wp2
 go_loopw [3,4] (fun r i wr=>∃ k:Nat,k≤m∧i=.int .i64 k∧Hid (Own wr w.heap.size 9 r ((l.take k).map VS))∧Hid (Below w.heap.size w wr)) (fun _ i _=>m - (RowKit.intOf i).toNat)
 case atStart=>exact⟨0,by omega,rfl,by rw[List.take_zero];exact Own.nil _ _ _,Below.refl _ _⟩
 case round =>
  obtain ⟨k,hk,rfl,HO,HB⟩:=hrel
  rename World=>w2
  by_cases hlt:k<m
  ·obtain ⟨b,o,A1,c1,rfl,hb,hc,ha⟩:=HPt.out k hlt
   have hc2:w2.cell? ⟨b,o+k,none⟩=some (.slice A1 (l.getD k []).length c1):=(World.cell?_of_block (w:=w) (HB.out.block b hb)).trans hc
   have ha2:Arg w2 (.slice A1 (l.getD k []).length c1) (l.getD k []):=ha.arg.below HB.out
   have hcv:=bS ha2
   have HS:Hid ((l.take k).map VS++[VS (l.getD k [])]=(l.take (k+1)).map VS):=by
    show _=_
    have hkl:k<l.length:=by rw[← HM.out];exact hlt
    rw[List.take_succ_eq_append_getElem hkl,List.map_append,List.getD_eq_getElem?_getD,List.getElem?_eq_getElem hkl];rfl
   have HLn:Hid (((l.take k).map VS).length+[VS (l.getD k [])].length≤1000000):=by show _≤_;rw[List.length_map,List.length_take,List.length_cons,List.length_nil];omega
   have HO2:Hid (Own (w2.alloc (.cells #[VS (l.getD k [])] 9)) w.heap.size 9 _ ((l.take k).map VS)):=HO.out.alloc _
   have HF2:Hid (bq (w2.alloc (.cells #[VS (l.getD k [])] 9)) (.slice (some ⟨w2.heap.size,0,none⟩) 1 1) [VS (l.getD k [])]):=az w2 9 [VS (l.getD k [])]
   have Hsz:Hid (w.heap.size≤w2.heap.size):=HB.out.size
   have HBa:Hid (Below w.heap.size w (w2.alloc (.cells #[VS (l.getD k [])] 9))):=HB.out.alloc HB.out.size _
   have H1:=ae (jd [l.getD k []])
   simp only [List.map_cons,List.map_nil] at H1
   generalize (l.take k).map VS=ys at *
   generalize (l.getD k []).length=q at *
   generalize l.getD k []=x at *
   obtain ⟨sx,hsx⟩:∃ s,s=aw x:=⟨_,rfl⟩
   rw[← hsx] at hcv
   simp only [VS,← hsx] at HS HLn HO2 HF2 HBa H1
   clear hsx ha2 ha hc HPt HO HB
   go_wp2_with (at_builtin;refine cE rfl (.tmp 11) (.tmp 17) 58 rfl w.heap.size 9 Tryz.underlying58 aQ rfl (by decide) _ ys rfl HO2.out _ [.string sx] rfl HF2.out H1.out HLn.out (by have:=Hsz.out;simp;omega) ?_;intro v5 w5 cT hg5 hv5)
   have HB5:Hid (Below w.heap.size w w5):=au HBa.out HO2.out hg5 (Nat.le_refl _) (by have:=Hsz.out;simp;omega)
   have HO5:Hid (Own w5 w.heap.size 9 v5 ((l.take (k+1)).map VS)):=by show Own _ _ _ _ _;rw[← HS.out];exact cT
   clear cT hg5 hv5
   go_roundw
   case rel=>exact⟨k+1,by omega,by go_num,HO5,HB5⟩
   case measure=>simp [RowKit.intOf];omega
  ·obtain rfl:k=m:=by omega
   have HOe:Hid (Own w2 w.heap.size 9 u3 (l.map VS)):=by have:=HO.out;rwa [show l.take k=l from List.take_of_length_le (by rw[← HM.out];exact Nat.le_refl _)] at this
   clear HPt HO
   go_wp2
   go_ret
   exact⟨_,rfl,HOe,HB.out⟩
section
variable {w0 W:World} {Y:Nat→Prop} {P d Q M kp wb:Nat} {ek mk:List UInt8} {s:Bk.Bn} {Dp Dr:List Blk} {ws:List (List UInt8)}
set_option maxRecDepth 512
theorem RB.Bj {w:World} {F G K:Nat→Prop} (h:RB w F G K Q M kp wb ek mk s Dr ws):∃ A7 c7,w.cell? ⟨Q,3,none⟩=some (.int .u64 (s.ep:Int))∧w.cell? ⟨Q,4,none⟩=some (IV s.af)∧w.cell? ⟨Q,5,none⟩=some (VS s.root)∧w.cell? ⟨Q,7,none⟩=some (.slice A7 s.L.length c7):=by
 obtain ⟨tv,lv,a,nv,wc,al,hh,ht,hlv,hn⟩:=h.head
 obtain ⟨A7,c7,rfl⟩:=hlv.form
 exact⟨A7,c7,hh.head (j:=3) rfl,hh.head (j:=4) rfl,hh.head (j:=5) rfl,hh.head (j:=7) rfl⟩
set_option maxRecDepth 100000
theorem ei (h:aJ w0 W Y P d Q M kp wb ek mk s Dp s Dr ws) (h32:s.root.length=32):Calls Tryz.prog 26 #[PT P,PT Q] W fun e w'=>e=.returned (.bool true)∧Below W.heap.size W w':=by
 obtain ⟨F,G,K,hd,hr,-⟩:=h
 obtain ⟨A7,c7,q3,q4,q5,q7⟩:=hr.Bj
 have Hql:Hid (Q<W.heap.size):=hr.gone.1
 obtain ⟨rs,hrs⟩:∃ r,r=dL s.ep s.af s.root:=⟨_,rfl⟩
 have HRg:=ae (hd.reg rs hrs)
 have HBu:Hid (∀ X,Below W.heap.size W X→Calls Tryz.prog 29 #[PT P] X fun e w'=>e=.returned (.bool (decide (s.L≠[])))∧Below X.heap.size X w'):=fun X hb=>(hd.stay hb).busy
 have zk:Hid (rs.toArray.size=34):=by show _=_;rw[hrs];exact aW h32
 have sP:Hid (rs.toArray.all (·.oneCell')=true):=by
  show _=_
  rw[hrs,dL]
  simp
  exact⟨rfl,rfl,fun _ _=>rfl⟩
 have HRs:=ae hrs
 have H32:=ae h32
 have hex:(s.L.length=0∧decide (s.L≠[])=false)∨(0<s.L.length∧decide (s.L≠[])=true):=by
  cases hL:s.L with
  | nil=>exact .inl ⟨rfl,by simp⟩
  | cons a l=>exact .inr ⟨by simp,by simp⟩
 have HQ:Hid (∀ X,Below W.heap.size W X→X.cell? ⟨Q,3,none⟩=some (.int .u64 (s.ep:Int))∧X.cell? ⟨Q,4,none⟩=some (IV s.af)∧X.cell? ⟨Q,5,none⟩=some (VS s.root)∧X.cell? ⟨Q,7,none⟩=some (.slice A7 s.L.length c7)):=fun X hb=>by
  have e:∀ o,X.cell? ⟨Q,o,none⟩=W.cell? ⟨Q,o,none⟩:=fun o=>World.cell?_of_block (hb.block Q Hql.out)
  rw[e,e,e,e]
  exact⟨q3,q4,q5,q7⟩
 obtain ⟨mj,nu⟩:∃ x,x=aw s.root:=⟨_,rfl⟩
 have Hsr:=ae nu
 have hzr:=oT
 have hzl:(dL 0 0 (List.replicate 32 0)).length=34:=rfl
 generalize dL 0 0 (List.replicate 32 0)=ZR at hzr hzl
 have Hzr:Hid (ZR.toArray.size=34):=hzl
 have HZr:=ae hzr
 simp only [VS,← nu] at HQ
 generalize s.L.length=ll at *
 generalize decide (s.L≠[])=bz at *
 generalize s.root=root at *
 generalize s.ep=ep at *
 generalize s.af=af at *
 clear hd hr q3 q4 q5 q7 hrs h32 nu hzl hzr
 go_enter Tryz.func26,Tryz.ntmps26
 go_wp2_with fail
 refine HRg.out.mono ?_
 rintro e w1 ⟨rfl,hb1⟩
 obtain ⟨x,hx⟩:∃ x,x=w1.heap.size:=⟨_,rfl⟩
 obtain ⟨w2,hw2⟩:∃ X,X=w1.alloc (.cells ZR.toArray 41):=⟨_,rfl⟩
 have HZ2:Hid (Row w2 x 41 ZR):=by rw[hw2,hx];exact Row.new w1 41 ZR
 have hB2:Below w1.heap.size w1 w2:=by rw[hw2];exact(Below.refl _ _).alloc (Nat.le_refl _) _
 obtain ⟨w3,hw3⟩:∃ X,X=w2.setRow x rs.toArray:=⟨_,rfl⟩
 have HY3:Hid (Row w3 x 41 rs):=by rw[hw3];exact HZ2.out.whole rs
 have hB3:Below w1.heap.size w1 w3:=by rw[hw3];exact ag hB2 (by omega) _
 have HB3:Hid (Below W.heap.size W w3):=hb1.trans (hB3.mono hb1.size)
 have PY:=HZr.out w1
 have Hxe:=ae hx
 clear hB2 hB3 hb1 HRg hx
 go_wp2_with (first
  | (rw[← hw2,← Hxe.out];clear hw2 PY;refine wpList_store_row rfl 41 (.tmp 5) (.tmp 7) rfl x rs.toArray rfl rfl 41 _ HZ2.out (by rw[zk.out];kernel_rfl) (by rw[zk.out,Hzr.out]) sP.out ?_;rw[← hw3];clear hw3))
 have HSa:Hid (∀ X,Below w3.heap.size w3 X→(fun X=>X.cell? ⟨x,0,none⟩=some (.int .u64 (ep:Int))∧X.cell? ⟨x,1,none⟩=some (IV af)∧(convert 22 9 (.slice (some ⟨x,2,none⟩) 32 32)).run Tryz.prog X=.ok (.string mj) X∧X.cell? ⟨Q,3,none⟩=some (.int .u64 (ep:Int))∧X.cell? ⟨Q,4,none⟩=some (IV af)∧X.cell? ⟨Q,5,none⟩=some (.string mj)∧X.cell? ⟨Q,7,none⟩=some (.slice A7 ll c7)) X):=fun X hb=>by
  have hrow:=HY3.out.below hb HY3.out.lt
  have hq:=HQ.out X (HB3.out.trans (hb.mono HB3.out.size))
  have hrl:=HRs.out
  refine⟨by rw[hrow.cell,hrl];rfl,by rw[hrow.cell,hrl];rfl,?_,hq⟩
  have ha:Arg X (.slice (some ⟨x,2,none⟩) 32 32) root:=.inr ⟨x,2,32,by rw[H32.out],hrow.lt,by rw[H32.out];omega,fun j u hu=>by
   rw[hrow.cell,hrl]
   show (Value.int .u64 (ep:Int)::.int .i64 (af:Int)::root.map V8)[2+j]? = some u
   rw[show 2+j=j+1+1 by omega]
   exact hu⟩
  have:=bS ha
  rwa [← Hsr.out] at this
 have HB:Hid (Below w3.heap.size w3 w3.drew):=below_drewN (Below.refl _ _) 1
 have hs0:=HSa.out _ HB.out
 clear HY3 HZ2 HQ zk sP HRs H32 Hzr HZr Hxe Hsr
 refine wp_region_held_drew (S:=(fun X=>X.cell? ⟨x,0,none⟩=some (.int .u64 (ep:Int))∧X.cell? ⟨x,1,none⟩=some (IV af)∧(convert 22 9 (.slice (some ⟨x,2,none⟩) 32 32)).run Tryz.prog X=.ok (.string mj) X∧X.cell? ⟨Q,3,none⟩=some (.int .u64 (ep:Int))∧X.cell? ⟨Q,4,none⟩=some (IV af)∧X.cell? ⟨Q,5,none⟩=some (.string mj)∧X.cell? ⟨Q,7,none⟩=some (.slice A7 ll c7))) (by kernel_rfl) hs0 (fun aa=>?_)
 clear hs0
 generalize w3.drew=w3d at *
 rcases hex with ⟨hl,rfl⟩ | ⟨hl,rfl⟩
 ·subst hl
  refine tkq 0 8 aa ?_
  try go_frame
  refine tkh 1 9 rfl aa ?_ (Or.inl ⟨by rfl,by intro w hSw;obtain ⟨x0,x1,xc,q3,q4,q5,q7⟩:=hSw;go_simp;with_reducible rfl⟩)
  try go_frame
  refine tkq 2 10 aa ?_
  try go_frame
  refine tkq 3 11 aa ?_
  try go_frame
  refine tkq 4 12 aa ?_
  try go_frame
  refine tkh 5 13 rfl aa ?_ (Or.inl ⟨by rfl,by intro w hSw;obtain ⟨x0,x1,xc,q3,q4,q5,q7⟩:=hSw;go_simp;with_reducible rfl⟩)
  try go_frame
  refine tkq 6 14 aa ?_
  try go_frame
  refine tkq 7 15 aa ?_
  try go_frame
  refine tkq 8 16 aa ?_
  try go_frame
  refine tkh 9 17 rfl aa ?_ (Or.inl ⟨by rfl,by intro w hSw;obtain ⟨x0,x1,xc,q3,q4,q5,q7⟩:=hSw;go_simp;with_reducible rfl⟩)
  try go_frame
  refine tkq 10 18 aa ?_
  try go_frame
  refine tkq 11 19 aa ?_
  try go_frame
  refine tkq 12 20 aa ?_
  try go_frame
  refine tkh 13 21 rfl aa ?_ (Or.inl ⟨by rfl,by intro w hSw;obtain ⟨x0,x1,xc,q3,q4,q5,q7⟩:=hSw;go_simp;with_reducible rfl⟩)
  try go_frame
  refine tkq 14 22 aa ?_
  try go_frame
  refine tkq 15 23 aa ?_
  try go_frame
  refine tkq 16 24 aa ?_
  try go_frame
  refine tkq 17 25 aa ?_
  try go_frame
  refine tkq 18 26 aa ?_
  try go_frame
  refine tkh 19 27 rfl aa ?_ (Or.inl ⟨by rfl,by intro w hSw;obtain ⟨x0,x1,xc,q3,q4,q5,q7⟩:=hSw;go_simp;with_reducible rfl⟩)
  try go_frame
  refine tkq 20 28 aa ?_
  try go_frame
  refine tkq 21 29 aa ?_
  try go_frame
  refine tkq 22 30 aa ?_
  try go_frame
  refine tkh 23 31 rfl aa ?_ (Or.inl ⟨by rfl,by intro w hSw;obtain ⟨x0,x1,xc,q3,q4,q5,q7⟩:=hSw;go_simp;with_reducible rfl⟩)
  try go_frame
  refine tkq 24 32 aa ?_
  try go_frame
  refine tkq 25 33 aa ?_
  try go_frame
  refine tkq 26 34 aa ?_
  try go_frame
  refine tkq 27 35 aa ?_
  try go_frame
  refine tkq 29 37 aa ?_
  try go_frame
  refine tkq 30 38 aa ?_
  try go_frame
  refine tkq 31 39 aa ?_
  try go_frame
  refine tkh 32 40 rfl aa ?_ (Or.inl ⟨by rfl,by intro w hSw;obtain ⟨x0,x1,xc,q3,q4,q5,q7⟩:=hSw;go_simp;with_reducible rfl⟩)
  try go_frame
  refine tkq 33 41 aa ?_
  try go_frame
  refine tkq 34 42 aa ?_
  try go_frame
  refine rdq 28 36 fun K hK=>?_
  go_simp
  go_at_call 29
  refine(HBu.out w3d (HB3.out.trans (HB.out.mono HB3.out.size))).mono ?_
  rintro e Md ⟨rfl,hb⟩
  replace HB:=ae (HB.out.trans (hb.mono HB.out.size))
  clear hb
  refine hK.out _ _ (HSa.out _ HB.out) (fun aa=>?_)
  clear hK K
  try go_frame
  refine tkq 35 43 aa ?_
  try go_frame
  refine tkq 36 44 aa ?_
  try go_frame
  refine tkq 37 4 aa ?_
  try go_frame
  refine wpAnyH_done (by kernel_rfl) ?_ _
  clear aa
  go_wp2
  go_ret
  exact⟨rfl,HB3.out.trans (HB.out.mono HB3.out.size)⟩
 ·skip
  refine tkq 0 8 aa ?_
  try go_frame
  refine tkh 1 9 rfl aa ?_ (Or.inl ⟨by rfl,by intro w hSw;obtain ⟨x0,x1,xc,q3,q4,q5,q7⟩:=hSw;go_simp;with_reducible rfl⟩)
  try go_frame
  refine tkq 2 10 aa ?_
  try go_frame
  refine tkq 3 11 aa ?_
  try go_frame
  refine tkq 4 12 aa ?_
  try go_frame
  refine tkh 5 13 rfl aa ?_ (Or.inl ⟨by rfl,by intro w hSw;obtain ⟨x0,x1,xc,q3,q4,q5,q7⟩:=hSw;go_simp;with_reducible rfl⟩)
  try go_frame
  refine tkq 6 14 aa ?_
  try go_frame
  refine tkq 7 15 aa ?_
  try go_frame
  refine tkq 8 16 aa ?_
  try go_frame
  refine tkh 9 17 rfl aa ?_ (Or.inl ⟨by rfl,by intro w hSw;obtain ⟨x0,x1,xc,q3,q4,q5,q7⟩:=hSw;go_simp;with_reducible rfl⟩)
  try go_frame
  refine tkq 10 18 aa ?_
  try go_frame
  refine tkq 11 19 aa ?_
  try go_frame
  refine tkq 12 20 aa ?_
  try go_frame
  refine tkh 13 21 rfl aa ?_ (Or.inl ⟨by rfl,by intro w hSw;obtain ⟨x0,x1,xc,q3,q4,q5,q7⟩:=hSw;go_simp;with_reducible rfl⟩)
  try go_frame
  refine tkq 14 22 aa ?_
  try go_frame
  refine tkq 15 23 aa ?_
  try go_frame
  refine tkq 16 24 aa ?_
  try go_frame
  refine tkq 17 25 aa ?_
  try go_frame
  refine tkq 18 26 aa ?_
  try go_frame
  refine tkh 19 27 rfl aa ?_ (Or.inl ⟨by rfl,by intro w hSw;obtain ⟨x0,x1,xc,q3,q4,q5,q7⟩:=hSw;go_simp;with_reducible rfl⟩)
  try go_frame
  refine tkq 20 28 aa ?_
  try go_frame
  refine tkq 21 29 aa ?_
  try go_frame
  refine tkq 22 30 aa ?_
  try go_frame
  refine tkh 23 31 rfl aa ?_ (Or.inl ⟨by rfl,by intro w hSw;obtain ⟨x0,x1,xc,q3,q4,q5,q7⟩:=hSw;go_simp;with_reducible rfl⟩)
  try go_frame
  refine tkq 24 32 aa ?_
  try go_frame
  refine tkq 25 33 aa ?_
  try go_frame
  refine tkq 26 34 aa ?_
  try go_frame
  refine tkq 27 35 aa ?_
  try go_frame
  refine tkq 29 37 aa ?_
  try go_frame
  refine tkq 30 38 aa ?_
  try go_frame
  refine tkq 31 39 aa ?_
  try go_frame
  refine tkh 32 40 rfl aa ?_ (Or.inl ⟨by rfl,by intro w hSw;obtain ⟨x0,x1,xc,q3,q4,q5,q7⟩:=hSw;go_simp;with_reducible rfl⟩)
  try go_frame
  refine tkq 33 41 aa ?_
  try go_frame
  refine tkq 34 42 aa ?_
  try go_frame
  refine rdq 28 36 fun K hK=>?_
  go_simp
  go_at_call 29
  refine(HBu.out w3d (HB3.out.trans (HB.out.mono HB3.out.size))).mono ?_
  rintro e Md ⟨rfl,hb⟩
  replace HB:=ae (HB.out.trans (hb.mono HB.out.size))
  clear hb
  refine hK.out _ _ (HSa.out _ HB.out) (fun aa=>?_)
  clear hK K
  try go_frame
  refine tkq 35 43 aa ?_
  try go_frame
  refine tkq 36 44 aa ?_
  try go_frame
  refine tkq 37 4 aa ?_
  try go_frame
  refine wpAnyH_done (by kernel_rfl) ?_ _
  clear aa
  go_wp2
  go_ret
  exact⟨rfl,HB3.out.trans (HB.out.mono HB3.out.size)⟩
end
end Go.Proofs.YthbmknpbcgnabaaGreatDoor
