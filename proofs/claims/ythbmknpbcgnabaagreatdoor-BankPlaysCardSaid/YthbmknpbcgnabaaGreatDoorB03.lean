/- Of the walk. -/
import Derived.Test.YthbmknpbcgnabaaGreatDoorB02
set_option maxHeartbeats 40000000
section
namespace Go.Proofs.YthbmknpbcgnabaaGreatDoor.Hm
open Go.RowKit Sha
def V64 (x:Nat):Value:=.int .u64 x
theorem Ae:(Tryz.prog.info? 39).map (fun i=>(i.zero,i.size,i.bytes))=some (some (.int .u64 0),1,8):=by kernel_rfl
theorem Cq {w:World} {b off:Nat} {l:List Nat} (h:ah w b off (l.map V64)) (i:Nat) (hi:i<l.length):w.cell? ⟨b,off+i,none⟩=some (.int .u64 (l.getD i 0:Nat)) :=
 h.at_ (by rw[List.getElem?_map,List.getElem?_eq_getElem hi];simp [V64,hi])
theorem Fk {w:World} {g:Nat} {t:TypeId} {l:List Nat} (h:Row w g t (l.map V64)) (i:Nat) (hi:i<l.length):w.cell? ⟨g,i,none⟩=some (.int .u64 (l.getD i 0:Nat)):=by
 rw[h.cell,List.getElem?_map,List.getElem?_eq_getElem hi];simp [V64,hi]
theorem qR (n:Nat) (hn:n<18446744073709551616) (w:World) :
  Calls Tryz.prog 133 #[.int .u64 n] w fun e w'=>e=.returned (.slice (some ⟨w.heap.size,0,none⟩) 4 4)∧w.alloc (.cells ((bh n).map V64).toArray 39)=w':=by
 go_enter Tryz.func133,Tryz.ntmps133
 go_wp2
 go_ret
 exact⟨rfl,rfl⟩
def Z64 (n:Nat):List Value:=List.replicate n (.int .u64 0)
theorem AH (n:Nat):Z64 n=(List.replicate n 0).map V64:=by rw[Z64,List.map_replicate];rfl
theorem Ep (n:Nat) (hn:n≤1000) (x:Int) (hx:x=(n:Int)) (w:World) :
  (Instr.makeSlice 219 (.int .i64 x) (.int .i64 x)).run Tryz.prog w=.ok (.slice (some ⟨w.heap.size,0,none⟩) n n) (w.alloc (.cells (Z64 n).toArray 39)):=by
 obtain ⟨i,hi,hz0,hz1,hz2⟩:=info_parts Ae
 subst hx
 have hr:=run_make (P:=Tryz.prog) w 219 39 i (.int .u64 0) Tryz.underlying219 hi hz0 .i64 .i64 n n (by omega) (by omega) (by rw[hz2];omega) (by omega)
 rw[hr,Int.toNat_natCast,hz1,Nat.mul_one]
 have e:madeCells (Value.int .u64 0).cells n=(Z64 n).toArray:=by
  apply Array.toList_inj.1
  rw[show (Value.int .u64 0).cells=#[.int .u64 0] from rfl,toList_madeCells_one,Z64]
 rw[e]
theorem Mi (x y z c:Nat):IntKind.u64.wrap (IntKind.u64.wrap ((x:Int)+IntKind.u64.wrap ((y:Int)*z))+c)=(((x+y*z+c) % 18446744073709551616:Nat):Int):=by
 rw[IntKind.wrap_u64,IntKind.wrap_u64,IntKind.wrap_u64,← Int.natCast_mul]
 generalize y*z=q
 omega
theorem Of (n:Nat) (hn:n<18446744073709551616):IntKind.u64.wrap (((n:Nat):Int).tdiv 65536)=((n / 65536:Nat):Int):=by
 rw[show (65536:Int)=((65536:Nat):Int) from rfl,← Int.ofNat_tdiv,IntKind.wrap_u64]
 omega
theorem Oo (x c:Nat):IntKind.u64.wrap ((x:Int)+c)=(((x+c) % 18446744073709551616:Nat):Int):=by
 rw[IntKind.wrap_u64];omega
theorem Nc (n:Nat):((n:Nat):Int).tmod 65536=((n % 65536:Nat):Int):=by
 rw[show (65536:Int)=((65536:Nat):Int) from rfl,Int.ofNat_tmod]
theorem iF (a b out:List Nat) (i k:Nat):(cB a b out i k).1.length=out.length:=by
 induction k with
 | zero=>rfl
 | succ k ih=>simp [cB,ih]
theorem fE (a b:List Nat) (i:Nat):(eZ a b i).length=a.length+b.length:=by
 induction i with
 | zero=>simp [eZ]
 | succ i ih=>simp [eZ,iF,ih]
set_option maxRecDepth 100000
theorem Cu (ab ao ac bb bo bc:Nat) (a b:List Nat) (ha:a.length≤100) (hb:b.length≤100) (w:World) (hal:ab<w.heap.size) (hbl:bb<w.heap.size) (hA:ah w ab ao (a.map V64)) (hB:ah w bb bo (b.map V64)) :
  Calls Tryz.prog 134 #[.slice (some ⟨ab,ao,none⟩) a.length ac,.slice (some ⟨bb,bo,none⟩) b.length bc] w fun e w' =>
   e=.returned (.slice (some ⟨w.heap.size,0,none⟩) (a.length+b.length) (a.length+b.length))∧Row w' w.heap.size 39 ((bV a b).map V64)∧Below w.heap.size w w':=by
 have hmk:=Ep (a.length+b.length) (by omega) ((a.length:Int)+b.length) (by omega) w
 have HA:=ae hA
 have HB:=ae hB
 clear hA hB
 go_enter Tryz.func134,Tryz.ntmps134
 go_wp2
 clear hmk
 go_loopw [6,7,8,9] (fun i _ _ _ wr=>∃ k:Nat,k≤a.length∧i=.int .i64 k∧Row wr w.heap.size 39 ((eZ a b k).map V64)∧Below w.heap.size w wr) (fun i _ _ _ _=>a.length - (intOf i).toNat)
 case atStart =>
  refine⟨0,by omega,rfl,?_,(Below.refl _ _).alloc (Nat.le_refl _) _⟩
  rw[eZ,← AH]
  exact Row.new w _ _
 case round =>
  obtain ⟨i,hi,rfl,hrow,ak⟩:=hrel
  by_cases hlt:i<a.length
  ·have Hto:Hid (eZ a b (i+1)=(cB a b (eZ a b i) i b.length).1.set (i+b.length) (((cB a b (eZ a b i) i b.length).1.getD (i+b.length) 0+(cB a b (eZ a b i) i b.length).2) % 18446744073709551616)):=rfl
   have dc:=ae (fE a b i)
   generalize eZ a b i=o at *
   go_wp2
   go_loopw [7,8,9] (fun c k _ wr=>∃ j:Nat,j≤b.length∧k=.int .i64 j∧c=.int .u64 ((cB a b o i j).2:Nat)∧Row wr w.heap.size 39 ((cB a b o i j).1.map V64)∧Below w.heap.size w wr) (fun _ k _ _=>b.length - (intOf k).toNat)
   case atStart=>exact⟨0,by omega,rfl,rfl,hrow,ak⟩
   case round =>
    clear hrow ak
    obtain ⟨j,hj,rfl,rfl,hrow,ak⟩:=hrel
    by_cases EN:j<b.length
    ·have hc1:=Fk hrow (i+j) (by rw[iF,dc.out];omega)
     have hf1:=hrow.free (i+j)
     have hc2:wr.cell? ⟨ab,ao+i,none⟩=some (.int .u64 (a.getD i 0:Nat)):=Cq (HA.out.below ak hal) i hlt
     have hc3:wr.cell? ⟨bb,bo+j,none⟩=some (.int .u64 (b.getD j 0:Nat)):=Cq (HB.out.below ak hbl) j EN
     have Hst:Hid (cB a b o i (j+1)=((cB a b o i j).1.set (i+j) (((cB a b o i j).1.getD (i+j) 0+a.getD i 0*b.getD j 0+(cB a b o i j).2) % 18446744073709551616 % 65536),((cB a b o i j).1.getD (i+j) 0+a.getD i 0*b.getD j 0+(cB a b o i j).2) % 18446744073709551616 / 65536)):=rfl
     generalize (cB a b o i j).2=c at *
     generalize (cB a b o i j).1.getD (i+j) 0=x at *
     generalize a.getD i 0=y at *
     generalize b.getD j 0=z at *
     go_wp2
     go_quiet (fail)
     go_wp2
     rw[Mi]
     have hN:(x+y*z+c) % 18446744073709551616<18446744073709551616:=Nat.mod_lt _ (by omega)
     generalize (x+y*z+c) % 18446744073709551616=N at *
     rw[Of N hN,Nc]
     go_roundw
     case rel =>
      refine⟨j+1,by omega,by go_num,by rw[Hst.out],?_,(below_drewN ak nq).setCell (Nat.le_refl _) _⟩
      rw[Hst.out,List.map_set]
      exact(hrow.drewN nq).set _ _
     case measure=>simp [intOf];omega
    ·obtain rfl:j=b.length:=by omega
     have hc1:=Fk hrow (i+b.length) (by rw[iF,dc.out];omega)
     have hf1:=hrow.free (i+b.length)
     generalize (cB a b o i b.length).2=c at *
     generalize (cB a b o i b.length).1.getD (i+b.length) 0=x at *
     go_wp2
     rw[Oo]
     go_roundw
     case rel =>
      refine⟨i+1,by omega,by go_num,?_,ak.setCell (Nat.le_refl _) _⟩
      rw[Hto.out,List.map_set]
      exact hrow.set _ _
     case measure=>simp [intOf];omega
  ·obtain rfl:i=a.length:=by omega
   go_wp2
   go_ret
   exact⟨rfl,hrow,ak⟩
end Go.Proofs.YthbmknpbcgnabaaGreatDoor.Hm
end
section
namespace Go.Proofs.YthbmknpbcgnabaaGreatDoor.Hm
open Go.RowKit Sha
theorem qQ (n:Int) (h0:0≤n) (hn:n<18446744073709551616) (w:World) :
  Calls Tryz.prog 133 #[.int .u64 n] w fun e w'=>e=.returned (.slice (some ⟨w.heap.size,0,none⟩) 4 4)∧w.alloc (.cells ((bh n.toNat).map V64).toArray 39)=w':=by
 obtain ⟨k,rfl⟩:=Int.eq_ofNat_of_zero_le h0
 rw[Int.toNat_natCast]
 exact qR k (by omega) w
theorem Ka (l:List Nat):∀ y∈l.map V64,y.oneCell'=true:=fun y hy=>by obtain ⟨x,_,rfl⟩:=List.mem_map.1 hy;rfl
theorem Eb (w:World) (B g n:Nat) (e:TypeId) (ys:List Value) (hg:w.heap.size=g) (hl:ys.length=n) (hB:B≤g) (hn:n≤1000000):Own (w.alloc (.cells ys.toArray e)) B e (.slice (some ⟨g,0,none⟩) n n) ys:=by
 subst hg hl
 exact Own.lit w B e ys hB hn
theorem Im (w:World) (g n:Nat) (e:TypeId) (ys:List Value) (hg:w.heap.size=g) (hl:ys.length=n):bq (w.alloc (.cells ys.toArray e)) (.slice (some ⟨g,0,none⟩) n n) ys:=by
 subst hg hl
 exact .inr ⟨_,0,_,rfl,by simp,(Row.new w e ys).sees⟩
theorem mJ (l:List Nat) (m:Nat) (h:l.length≤m):l.getD m 0=0:=by rw[List.getD_eq_getElem?_getD,List.getElem?_eq_none h];rfl
theorem lX (n:Nat):(Z64 n).length=n:=List.length_replicate
set_option maxRecDepth 100000
theorem I6 (z:Nat) (hz:z≤10) (ab ao ac:Nat) (a:List Nat) (ha:a.length≤100) (ha0:0<a.length) (n:Nat) (hn:n<18446744073709551616) (w:World) (hal:ab<w.heap.size) (hA:ah w ab ao (a.map V64)) :
  Calls Tryz.prog 135 #[.slice (some ⟨ab,ao,none⟩) a.length ac,.int .u64 n,.int .i64 z] w fun e w' =>
   e=.returned (.bool (jX a n z))∧Below w.heap.size w w':=by
 have hmk:=fun W=>Ep z (by omega) (z:Int) rfl W
 obtain ⟨ds,hds⟩:∃ ds,ds=(bh n).map V64:=⟨_,rfl⟩
 have HD:=ae hds
 have dc:Hid (ds.length=4):=by show _=_;rw[hds];rfl
 have H1:Hid (∀ y∈ds,y.oneCell'=true):=by rw[hds];exact Ka _
 have NS:∀ W:World,Calls Tryz.prog 133 #[.int .u64 n] W fun e w'=>e=.returned (.slice (some ⟨W.heap.size,0,none⟩) 4 4)∧W.alloc (.cells ds.toArray 39)=w':=fun W=>by rw[hds];exact qR n hn W
 have O9:=ae NS
 clear hds NS
 have O1:Hid (Own ((w.alloc (.cells (Z64 z).toArray 39)).alloc (.cells ds.toArray 39)).drew w.heap.size 39 (.slice (some ⟨w.heap.size,0,none⟩) z z) (Z64 z)):=((Eb w _ _ z _ _ rfl (lX z) (Nat.le_refl _) (by omega)).alloc _).drew
 have F1:Hid (bq ((w.alloc (.cells (Z64 z).toArray 39)).alloc (.cells ds.toArray 39)).drew (.slice (some ⟨w.heap.size+1,0,none⟩) 4 4) ds):=Im (w.alloc _) _ 4 _ _ (by simp) dc.out
 have O2:Hid (Own ((w.alloc (.cells ds.toArray 39)).alloc (.cells (Z64 z).toArray 39)).drew w.heap.size 39 (.slice (some ⟨w.heap.size+1,0,none⟩) z z) (Z64 z)):=(Eb (w.alloc _) _ _ z _ _ (by simp) (lX z) (by omega) (by omega)).drew
 have F2:Hid (bq ((w.alloc (.cells ds.toArray 39)).alloc (.cells (Z64 z).toArray 39)).drew (.slice (some ⟨w.heap.size,0,none⟩) 4 4) ds):=.inr ⟨_,0,4,by rw[dc.out],by simp;omega,((Row.new w 39 ds).alloc _).sees⟩
 have HL:Hid ((Z64 z).length+ds.length≤100000000):=by show _≤_;rw[lX,dc.out];omega
 go_enter Tryz.func135,Tryz.ntmps135
 go_wp2
 go_region_law (first
  | (refine cK rfl (.tmp 12) (.tmp 14) 219 rfl w.heap.size 39 Tryz.underlying219 Ae rfl (by decide) _ (Z64 z) rfl (by first | exact O1.out | exact O2.out) _ ds rfl (by first | exact F1.out | exact F2.out) H1.out HL.out (by simp;omega) ?_;intro v1 w1 eu hg1 _)
  | (go_simp;go_at_call 133;refine(O9.out _).mono ?_;rintro e w' ⟨rfl,rfl⟩))
 all_goals
  have hb1:Below w.heap.size w w1:=by
   first
    | exact au (((Below.refl _ _).alloc (Nat.le_refl _) _).alloc (by simp) _).drew O1.out hg1 (Nat.le_refl _) (by simp;omega)
    | exact au (((Below.refl _ _).alloc (Nat.le_refl _) _).alloc (by simp) _).drew O2.out hg1 (Nat.le_refl _) (by simp;omega)
  have Heq:Hid (Z64 z++ds=(List.replicate z 0++bh n).map V64):=by show _=_;rw[AH,HD.out,List.map_append]
  rw[Heq.out] at eu
  have HBl:Hid ((List.replicate z 0++bh n).length=z+4):=by show _=_;simp [bh]
  obtain ⟨g1,c1,hv1,_,_,hs1⟩:=eu.form (by rw[List.length_map,HBl.out];omega)
  rw[List.length_map,HBl.out] at hv1
  subst hv1
  have HBs:=ae hs1
  have HA:=ae hA
  have Hab:Hid (jX a n z=jW a (List.replicate z 0++bh n) (a.length+(z+4))):=rfl
  clear hmk O1 O2 F1 F2 HL O9 eu hg1 hs1 hA Heq HD dc H1
  go_wp2
  go_loop [8,9,10] (fun i _ _=>∃ k:Nat,k≤a.length+(z+4)∧i=.int .i64 ((k:Int) - 1)∧Hid (jW a (List.replicate z 0++bh n) (a.length+(z+4))=jW a (List.replicate z 0++bh n) k)) (fun i _ _=>(intOf i+1).toNat)
  case atStart=>exact⟨a.length+(z+4),Nat.le_refl _,by go_num,rfl⟩
  case round =>
   obtain ⟨k,hk,rfl,Hk⟩:=hrel
   match k,hk,Hk with
   | 0,_,Hk =>
    rw[show (((0:Nat):Int) - 1)=-1 from rfl]
    go_wp2
    go_ret
    exact⟨by rw[Hab.out,Hk.out];rfl,hb1⟩
   | m+1,hk,Hk =>
    rw[show (((m+1:Nat):Int) - 1)=(m:Int) by omega]
    have Hst:Hid (jW a (List.replicate z 0++bh n) (m+1)=if a.getD m 0=(List.replicate z 0++bh n).getD m 0 then jW a (List.replicate z 0++bh n) m else decide ((List.replicate z 0++bh n).getD m 0<a.getD m 0)):=rfl
    by_cases hma:m<a.length
    ·by_cases hmb:m<z+4
     ·have ca:w1.cell? ⟨ab,ao+m,none⟩=some (.int .u64 (a.getD m 0:Nat)):=Cq (HA.out.below hb1 hal) m hma
      generalize a.getD m 0=X at *
      have cb:w1.cell? ⟨g1,m,none⟩=some (.int .u64 ((List.replicate z 0++bh n).getD m 0:Nat)):=by
       have:=Cq HBs.out m (by rw[HBl.out];exact hmb)
       rwa [Nat.zero_add] at this
      generalize (List.replicate z 0++bh n).getD m 0=Y at *
      by_cases hxy:X=Y
      ·subst hxy
       rw[if_pos rfl] at Hst
       go_wp2
       go_round
       case rel=>exact⟨m,by omega,rfl,by rw[← Hst.out];exact Hk.out⟩
       case measure=>simp [intOf] <;> omega
      ·have hne:(((X:Nat):Int) != ((Y:Nat):Int))=true:=by rw[bne_iff_ne];omega
       rw[if_neg hxy] at Hst
       go_wp2
       go_ret
       exact⟨by rw[Hab.out,Hk.out,Hst.out];simp,hb1⟩
     ·have ca:w1.cell? ⟨ab,ao+m,none⟩=some (.int .u64 (a.getD m 0:Nat)):=Cq (HA.out.below hb1 hal) m hma
      generalize a.getD m 0=X at *
      rw[mJ (List.replicate z 0++bh n) m (by rw[HBl.out];omega)] at Hst
      by_cases hxy:X=0
      ·subst hxy
       rw[if_pos rfl] at Hst
       go_wp2
       go_round
       case rel=>exact⟨m,by omega,rfl,by rw[← Hst.out];exact Hk.out⟩
       case measure=>simp [intOf] <;> omega
      ·have hne:(((X:Nat):Int) != ((0:Nat):Int))=true:=by rw[bne_iff_ne];omega
       rw[if_neg hxy] at Hst
       go_wp2
       go_ret
       exact⟨by rw[Hab.out,Hk.out,Hst.out];simp,hb1⟩
    ·by_cases hmb:m<z+4
     ·rw[mJ a m (by omega)] at Hst
      have cb:w1.cell? ⟨g1,m,none⟩=some (.int .u64 ((List.replicate z 0++bh n).getD m 0:Nat)):=by
       have:=Cq HBs.out m (by rw[HBl.out];exact hmb)
       rwa [Nat.zero_add] at this
      generalize (List.replicate z 0++bh n).getD m 0=Y at *
      by_cases hxy:0=Y
      ·subst hxy
       rw[if_pos rfl] at Hst
       go_wp2
       go_round
       case rel=>exact⟨m,by omega,rfl,by rw[← Hst.out];exact Hk.out⟩
       case measure=>simp [intOf] <;> omega
      ·have hne:(((0:Nat):Int) != ((Y:Nat):Int))=true:=by rw[bne_iff_ne];omega
       rw[if_neg hxy] at Hst
       go_wp2
       go_ret
       exact⟨by rw[Hab.out,Hk.out,Hst.out];simp,hb1⟩
     ·rw[mJ a m (by omega)] at Hst
      rw[mJ (List.replicate z 0++bh n) m (by rw[HBl.out];omega)] at Hst
      by_cases hxy:0=0
      ·clear hxy
       rw[if_pos rfl] at Hst
       go_wp2
       go_round
       case rel=>exact⟨m,by omega,rfl,by rw[← Hst.out];exact Hk.out⟩
       case measure=>simp [intOf] <;> omega
      ·exact absurd rfl hxy
end Go.Proofs.YthbmknpbcgnabaaGreatDoor.Hm
end
section
namespace Go.Proofs.YthbmknpbcgnabaaGreatDoor.Hm
open Go.RowKit Sha
theorem DN {a b:Int} (h:a=b):Ending.returned (.int .u32 a)=.returned (.int .u32 b):=by rw[h]
def nD (j:Nat):Nat:=1099511627776 / 2 ^ j
theorem sF (j:Nat):nD j / 2=nD (j+1):=by rw[nD,nD,Nat.div_div_eq_div_mul,Nat.pow_succ]
theorem AE (j:Nat):nD j≤1099511627776:=Nat.div_le_self _ _
theorem AF:nD 41=0:=by decide
theorem Fm:1099511627776=nD 0:=by decide
theorem o6 (j:Nat) (h:j≤40):nD j=2 ^ (40 - j):=by
 rw[nD,show (1099511627776:Nat)=2 ^ 40 from rfl,Nat.pow_div h (by omega)]
theorem rY (n:Nat) (c:Bool) (j:Nat) (hj:j≤41):fF n c j+2 ^ (41 - j)≤2199023255552:=by
 induction j with
 | zero=>simp [fF]
 | succ j ih =>
  have h:=ih (by omega)
  have e:2 ^ (41 - j)=2*2 ^ (40 - j):=by rw[← Nat.pow_succ'];congr 1;omega
  rw[e] at h
  rw[show 41 - (j+1)=40 - j by omega]
  simp only [fF]
  split <;> omega
theorem tL (n j X B:Nat) (hX:X=fF n false j) (hB:B=2 ^ (40 - j)):fF n false (j+1)=if jX (bV (bh (X+B)) (bh (X+B))) n 4 then X else X+B:=by
 subst hX hB
 rw[fF,th]
 simp only [Bool.false_eq_true,if_false]
theorem vF (n j X B:Nat) (hX:X=fF n true j) (hB:B=2 ^ (40 - j)):fF n true (j+1)=if jX (bV (bV (bh (X+B)) (bh (X+B))) (bh (X+B))) n 6 then X else X+B:=by
 subst hX hB
 rw[fF,th]
 simp only [if_true]
def JE (n:Nat) (c:Bool) (j r:Nat):Prop:=r=fF n c (j+1)
theorem nL (ab ao ac la bb bo bc lb:Nat) (a b:List Nat) (hla:a.length=la) (hlb:b.length=lb) (ha:la≤100) (hb:lb≤100) (w:World) (hal:ab<w.heap.size) (hbl:bb<w.heap.size) (hA:ah w ab ao (a.map V64)) (hB:ah w bb bo (b.map V64)) :
  Calls Tryz.prog 134 #[.slice (some ⟨ab,ao,none⟩) la ac,.slice (some ⟨bb,bo,none⟩) lb bc] w fun e w' =>
   e=.returned (.slice (some ⟨w.heap.size,0,none⟩) (la+lb) (la+lb))∧Row w' w.heap.size 39 ((bV a b).map V64)∧Below w.heap.size w w':=by
 subst hla hlb
 exact Cu ab ao ac bb bo bc a b ha hb w hal hbl hA hB
theorem sR (z:Nat) (zi:Int) (hzi:zi=(z:Int)) (hz:z≤10) (ab ao ac la:Nat) (a:List Nat) (hla:a.length=la) (ha:la≤100) (ha0:0<la) (n:Nat) (hn:n<18446744073709551616) (w:World) (hal:ab<w.heap.size) (hA:ah w ab ao (a.map V64)) :
  Calls Tryz.prog 135 #[.slice (some ⟨ab,ao,none⟩) la ac,.int .u64 n,.int .i64 zi] w fun e w' =>
   e=.returned (.bool (jX a n z))∧Below w.heap.size w w':=by
 subst hla hzi
 exact I6 z hz ab ao ac a ha ha0 n hn w hal hA
set_option maxRecDepth 100000
theorem yR (n:Nat) (hn:n<18446744073709551616) (w:World) :
  Calls Tryz.prog 112 #[.int .u64 n,.bool false] w fun e w'=>e=.returned (.int .u32 (ax n false:Nat))∧Below w.heap.size w w':=by
 go_enter Tryz.func112,Tryz.ntmps112
 go_wp2
 go_loopw [5,6,7,8,9] (fun x b _ _ _ wr=>∃ j X B:Nat,j≤41∧x=.int .u64 X∧b=.int .u64 B∧X<4398046511104∧Hid (X=fF n false j)∧Hid (B=nD j)∧Below w.heap.size w wr) (fun _ b _ _ _ _=>(intOf b).toNat)
 case atStart=>exact⟨0,0,1099511627776,by omega,rfl,rfl,by omega,rfl,Fm,Below.refl _ _⟩
 case round =>
  obtain ⟨j,X,B,hj,rfl,rfl,hX,HX,HB,ak⟩:=hrel
  have hsz:=ak.size
  by_cases hlt:j<41
  ·have hB1:B≤1099511627776:=by rw[HB.out];exact AE j
   have hB2:1≤B:=by rw[HB.out,o6 j (by omega)];exact Nat.one_le_two_pow
   obtain ⟨y,hy⟩:∃ y,y=bh (X+B):=⟨_,rfl⟩
   obtain ⟨tb,htb⟩:∃ tb,tb=jX (bV y y) n 4:=⟨_,rfl⟩
   have HR:JE n false j (if tb then X else X+B):=by rw[htb,hy];exact(tL n j X B HX.out (HB.out.trans (o6 j (by omega)))).symm
   have HTB:=ae htb
   have HY:=ae hy
   clear htb hy
   have HB':Hid (B / 2=nD (j+1)):=by show _=_;rw[HB.out,sF]
   have hXB:X+B<4398046511104:=by have h:=rY n false j (by omega);rw[← HX.out] at h;generalize 2 ^ (41 - j)=q at h;omega
   go_wp2_with fail
   refine(qQ ((X:Int)+B) (by omega) (by omega) _).mono ?_
   rintro e w2 ⟨rfl,rfl⟩
   rw[show ((X:Int)+B).toNat=X+B by omega,← HY.out]
   have Hyl:Hid (y.length=4):=by rw[HY.out];rfl
   clear HY
   have Hy:Hid (ah (wr.alloc (.cells (y.map V64).toArray 39)) wr.heap.size 0 (y.map V64)):=(Row.new wr _ _).sees
   have hb2:Below w.heap.size w (wr.alloc (.cells (y.map V64).toArray 39)):=ak.alloc hsz _
   have kC:(wr.alloc (.cells (y.map V64).toArray 39)).heap.size > wr.heap.size:=by simp
   generalize wr.alloc (.cells (y.map V64).toArray 39)=w2 at *
   go_wp2_with fail
   refine(nL wr.heap.size 0 4 4 wr.heap.size 0 4 4 y y Hyl.out Hyl.out (by omega) (by omega) w2 (by omega) (by omega) Hy.out Hy.out).mono ?_
   rintro e w3 ⟨rfl,hr3,hb3⟩
   have Hp:Hid (ah w3 w2.heap.size 0 ((bV y y).map V64)):=hr3.sees
   have hp3:=hr3.lt
   have Hpl:Hid ((bV y y).length=8):=by show _=_;rw[bV,fE,Hyl.out]
   have EY:Below w.heap.size w w3:=hb2.trans (hb3.mono hb2.size)
   clear hr3
   go_wp2_with fail
   refine(sR 4 4 rfl (by omega) w2.heap.size 0 8 8 (bV y y) Hpl.out (by omega) (by omega) n hn w3 (by omega) Hp.out).mono ?_
   rintro e w5 ⟨rfl,hb5⟩
   have EX:Below w.heap.size w w5:=EY.trans (hb5.mono EY.size)
   rw[← HTB.out]
   clear HTB
   cases tb
   ·rw[if_neg (by simp)] at HR
    go_wp2
    go_roundw
    case rel=>exact⟨j+1,X+B,B / 2,by omega,by go_num,by go_num,hXB,HR,HB'.out,EX⟩
    case measure=>simp [intOf];omega
   ·rw[if_pos rfl] at HR
    go_wp2
    go_roundw
    case rel=>exact⟨j+1,X,B / 2,by omega,rfl,by go_num,hX,HR,HB'.out,EX⟩
    case measure=>simp [intOf];omega
  ·obtain rfl:j=41:=by omega
   obtain rfl:B=0:=HB.out.trans AF
   have HE:Hid (X % 4294967296=ax n false):=by show _=_;rw[HX.out];rfl
   rw[show ((0:Nat):Int)=0 from rfl]
   go_wp2
   go_ret
   exact⟨DN (by rw[← HE.out];omega),ak⟩
theorem Cy (n:Nat) (hn:n<18446744073709551616) (w:World) :
  Calls Tryz.prog 112 #[.int .u64 n,.bool true] w fun e w'=>e=.returned (.int .u32 (ax n true:Nat))∧Below w.heap.size w w':=by
 go_enter Tryz.func112,Tryz.ntmps112
 go_wp2
 go_loopw [5,6,7,8,9] (fun x b _ _ _ wr=>∃ j X B:Nat,j≤41∧x=.int .u64 X∧b=.int .u64 B∧X<4398046511104∧Hid (X=fF n true j)∧Hid (B=nD j)∧Below w.heap.size w wr) (fun _ b _ _ _ _=>(intOf b).toNat)
 case atStart=>exact⟨0,0,1099511627776,by omega,rfl,rfl,by omega,rfl,Fm,Below.refl _ _⟩
 case round =>
  obtain ⟨j,X,B,hj,rfl,rfl,hX,HX,HB,ak⟩:=hrel
  have hsz:=ak.size
  by_cases hlt:j<41
  ·have hB1:B≤1099511627776:=by rw[HB.out];exact AE j
   have hB2:1≤B:=by rw[HB.out,o6 j (by omega)];exact Nat.one_le_two_pow
   obtain ⟨y,hy⟩:∃ y,y=bh (X+B):=⟨_,rfl⟩
   obtain ⟨tb,htb⟩:∃ tb,tb=jX (bV (bV y y) y) n 6:=⟨_,rfl⟩
   have HR:JE n true j (if tb then X else X+B):=by rw[htb,hy];exact(vF n j X B HX.out (HB.out.trans (o6 j (by omega)))).symm
   have HTB:=ae htb
   have HY:=ae hy
   clear htb hy
   have HB':Hid (B / 2=nD (j+1)):=by show _=_;rw[HB.out,sF]
   have hXB:X+B<4398046511104:=by have h:=rY n true j (by omega);rw[← HX.out] at h;generalize 2 ^ (41 - j)=q at h;omega
   go_wp2_with fail
   refine(qQ ((X:Int)+B) (by omega) (by omega) _).mono ?_
   rintro e w2 ⟨rfl,rfl⟩
   rw[show ((X:Int)+B).toNat=X+B by omega,← HY.out]
   have Hyl:Hid (y.length=4):=by rw[HY.out];rfl
   clear HY
   have Hy:Hid (ah (wr.alloc (.cells (y.map V64).toArray 39)) wr.heap.size 0 (y.map V64)):=(Row.new wr _ _).sees
   have hb2:Below w.heap.size w (wr.alloc (.cells (y.map V64).toArray 39)):=ak.alloc hsz _
   have kC:(wr.alloc (.cells (y.map V64).toArray 39)).heap.size > wr.heap.size:=by simp
   generalize wr.alloc (.cells (y.map V64).toArray 39)=w2 at *
   go_wp2_with fail
   refine(nL wr.heap.size 0 4 4 wr.heap.size 0 4 4 y y Hyl.out Hyl.out (by omega) (by omega) w2 (by omega) (by omega) Hy.out Hy.out).mono ?_
   rintro e w3 ⟨rfl,hr3,hb3⟩
   have Hp:Hid (ah w3 w2.heap.size 0 ((bV y y).map V64)):=hr3.sees
   have hp3:=hr3.lt
   have Hpl:Hid ((bV y y).length=8):=by show _=_;rw[bV,fE,Hyl.out]
   have EY:Below w.heap.size w w3:=hb2.trans (hb3.mono hb2.size)
   clear hr3
   go_wp2_with fail
   refine(nL w2.heap.size 0 8 8 wr.heap.size 0 4 4 (bV y y) y Hpl.out Hyl.out (by omega) (by omega) w3 (by omega) (by omega) Hp.out (Hy.out.below hb3 (by omega))).mono ?_
   rintro e w4 ⟨rfl,hr4,hb4⟩
   have Hq:Hid (ah w4 w3.heap.size 0 ((bV (bV y y) y).map V64)):=hr4.sees
   have hp4:=hr4.lt
   have Hql:Hid ((bV (bV y y) y).length=12):=by show _=_;rw[bV,fE,Hpl.out,Hyl.out]
   have N2:Below w.heap.size w w4:=EY.trans (hb4.mono EY.size)
   clear hr4
   go_wp2_with fail
   refine(sR 6 6 rfl (by omega) w3.heap.size 0 12 12 (bV (bV y y) y) Hql.out (by omega) (by omega) n hn w4 (by omega) Hq.out).mono ?_
   rintro e w5 ⟨rfl,hb5⟩
   have EX:Below w.heap.size w w5:=N2.trans (hb5.mono N2.size)
   rw[← HTB.out]
   clear HTB
   cases tb
   ·rw[if_neg (by simp)] at HR
    go_wp2
    go_roundw
    case rel=>exact⟨j+1,X+B,B / 2,by omega,by go_num,by go_num,hXB,HR,HB'.out,EX⟩
    case measure=>simp [intOf];omega
   ·rw[if_pos rfl] at HR
    go_wp2
    go_roundw
    case rel=>exact⟨j+1,X,B / 2,by omega,rfl,by go_num,hX,HR,HB'.out,EX⟩
    case measure=>simp [intOf];omega
  ·obtain rfl:j=41:=by omega
   obtain rfl:B=0:=HB.out.trans AF
   have HE:Hid (X % 4294967296=ax n true):=by show _=_;rw[HX.out];rfl
   rw[show ((0:Nat):Int)=0 from rfl]
   go_wp2
   go_ret
   exact⟨DN (by rw[← HE.out];omega),ak⟩
end Go.Proofs.YthbmknpbcgnabaaGreatDoor.Hm
end
