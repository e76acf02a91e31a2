/- Of the walk. -/
import Derived.BigQuiet
import Derived.Deep.AppendLies
import Derived.Deep.RegionLaw
import Derived.Laws.AppendOwnNone
import Derived.Lib.Hide
import Derived.Maps.AppendAt
import Derived.OwnWalk
import Derived.StillTailTactics
import Derived.Test.YthbmknpbcgnabaaGreatDoorB01
import Derived.Test.YthbmknpbcgnabaaGreatDoorRows
import Derived.WalkLawsBesides
import Derived.WalkSpells
set_option maxHeartbeats 40000000
section
namespace Go.Proofs.YthbmknpbcgnabaaGreatDoor.Hm
open Go.RowKit Sha
theorem DO {a b:Int} (h:a=b):Ending.returned (.int .u32 a)=.returned (.int .u32 b):=by rw[h]
theorem int32 {a b:Int} (h:a=b):Value.int .u32 a=.int .u32 b:=by rw[h]
theorem Di (x:UInt32) (n:Nat) (h1:1≤n) (h2:n≤31) (w:World) :
  Calls Tryz.prog 166 #[.int .u32 x.toNat,.int .u64 n] w fun e w'=>e=.returned (.int .u32 (rot x n).toNat)∧w=w':=by
 go_enter Tryz.func166,Tryz.ntmps166
 go_wp2
 go_ret
 exact⟨DO (Gz x n h2 h1),rfl⟩
theorem Fa (x:UInt32) (n:Nat) (h1:1≤n) (h2:n≤31) (w:World) :
  Calls Tryz.prog 180 #[.int .u32 x.toNat,.int .u64 n] w fun e w'=>e=.returned (.int .u32 (shr x n).toNat)∧w=w':=by
 go_enter Tryz.func180,Tryz.ntmps180
 go_wp2
 go_ret
 exact⟨DO (by rw[rU,Int.natCast_ediv,Int.natCast_pow];rfl),rfl⟩
theorem mX (x:UInt32) (n:Int) (h1:1≤n) (h2:n≤31) (w:World) :
  Calls Tryz.prog 166 #[.int .u32 x.toNat,.int .u64 n] w fun e w'=>e=.returned (.int .u32 (rot x n.toNat).toNat)∧w'=w:=by
 obtain ⟨k,rfl⟩:=Int.eq_ofNat_of_zero_le (by omega:0≤n)
 rw[Int.toNat_natCast]
 exact(Di x k (by omega) (by omega) w).mono fun _ _ h=>⟨h.1,h.2.symm⟩
theorem B0 (x:UInt32) (n:Int) (h1:1≤n) (h2:n≤31) (w:World) :
  Calls Tryz.prog 180 #[.int .u32 x.toNat,.int .u64 n] w fun e w'=>e=.returned (.int .u32 (shr x n.toNat).toNat)∧w'=w:=by
 obtain ⟨k,rfl⟩:=Int.eq_ofNat_of_zero_le (by omega:0≤n)
 rw[Int.toNat_natCast]
 exact(Fa x k (by omega) (by omega) w).mono fun _ _ h=>⟨h.1,h.2.symm⟩
theorem Fu (x:UInt32) (n:Nat) (h1:n≤31) (w:World) :
  Calls Tryz.prog 137 #[.int .u32 x.toNat,.int .i64 n] w fun e w'=>e=.returned (.int .u32 (rot x n).toNat)∧w=w':=by
 go_enter Tryz.func137,Tryz.ntmps137
 go_wp2
 go_loop [0,5] (fun t i=>∃ k:Nat,k≤n∧i=.int .i64 k∧t=.int .u32 (rot x k).toNat) (fun _ i=>n - (intOf i).toNat)
 case atStart=>exact⟨0,by omega,rfl,by rw[DF]⟩
 case round =>
  obtain ⟨k,hk,rfl,rfl⟩:=hrel
  by_cases hlt:k<n
  ·go_wp2
   go_round
   case rel=>exact⟨k+1,by omega,by go_num,int32 (DG x k (by omega))⟩
   case measure=>simp [intOf];omega
  ·go_wp2
   go_ret
   obtain rfl:k=n:=by omega
   exact⟨rfl,rfl⟩
theorem nJ (x:UInt32) (n:Int) (h0:0≤n) (h1:n≤31) (w:World) :
  Calls Tryz.prog 137 #[.int .u32 x.toNat,.int .i64 n] w fun e w'=>e=.returned (.int .u32 (rot x n.toNat).toNat)∧w'=w:=by
 obtain ⟨k,rfl⟩:=Int.eq_ofNat_of_zero_le h0
 rw[Int.toNat_natCast]
 exact(Fu x k (by omega) w).mono fun _ _ h=>⟨h.1,h.2.symm⟩
def V8 (x:UInt8):Value:=.int .u8 x.toNat
def V32 (x:UInt32):Value:=.int .u32 x.toNat
theorem at8 {w:World} {b off:Nat} {bs:List UInt8} (h:ah w b off (bs.map V8)) (i:Nat) (hi:i<bs.length):w.cell? ⟨b,off+i,none⟩=some (.int .u8 (bs.getD i 0).toNat) :=
 h.at_ (by rw[List.getElem?_map,List.getElem?_eq_getElem hi];simp [V8,hi])
theorem yI {w:World} {b off:Nat} {bs:List UInt32} (h:ah w b off (bs.map V32)) (i:Nat) (hi:i<bs.length):w.cell? ⟨b,off+i,none⟩=some (.int .u32 (bs.getD i 0).toNat) :=
 h.at_ (by rw[List.getElem?_map,List.getElem?_eq_getElem hi];simp [V32,hi])
theorem Lj {w:World} {g:Nat} {t:TypeId} {bs:List UInt32} (h:Row w g t (bs.map V32)) (i:Nat) (hi:i<bs.length):w.cell? ⟨g,i,none⟩=some (.int .u32 (bs.getD i 0).toNat):=by
 rw[h.cell,List.getElem?_map,List.getElem?_eq_getElem hi];simp [V32,hi]
theorem Ee (l:List UInt32):((l.map V32).toArray).all (·.oneCell')=true:=by
 rw[Array.all_eq_true_iff_forall_mem]
 intro u hu
 obtain ⟨x,_,rfl⟩:=List.mem_map.1 (by simpa using hu)
 rfl
theorem ku (l:List UInt8):((l.map V8).toArray).all (·.oneCell')=true:=by
 rw[Array.all_eq_true_iff_forall_mem]
 intro u hu
 obtain ⟨x,_,rfl⟩:=List.mem_map.1 (by simpa using hu)
 rfl
theorem sW (b off len cap:Nat) (i:Nat) (x0 x1 x2 x3:UInt8) (hi:i+4≤len) (hl:len≤1000000) (w:World)
  (c0:w.cell? ⟨b,off+i,none⟩=some (.int .u8 x0.toNat)) (c1:w.cell? ⟨b,off+(i+1),none⟩=some (.int .u8 x1.toNat))
  (c2:w.cell? ⟨b,off+(i+2),none⟩=some (.int .u8 x2.toNat)) (c3:w.cell? ⟨b,off+(i+3),none⟩=some (.int .u8 x3.toNat)) :
  Calls Tryz.prog 179 #[.slice (some ⟨b,off,none⟩) len cap,.int .i64 i] w fun e w'=>e=.returned (.int .u32 (be x0 x1 x2 x3).toNat)∧∃ n,w'=w.drewN n:=by
 go_enter Tryz.func179,Tryz.ntmps179
 go_wp2
 go_quiet (fail)
 go_wp2
 go_ret
 exact⟨DO (AV x0 x1 x2 x3),_,rfl⟩
theorem xB (b off len cap:Nat) (bs:List UInt8) (i:Int) (k:Nat) (hk:i=((4*k:Nat):Int)) (hi:4*k+4≤len) (hbs:bs.length=len) (hl:len≤1000000) (w:World) (h:ah w b off (bs.map V8)) :
  Calls Tryz.prog 179 #[.slice (some ⟨b,off,none⟩) len cap,.int .i64 i] w fun e w'=>e=.returned (.int .u32 (be (bs.getD (4*k) 0) (bs.getD (4*k+1) 0) (bs.getD (4*k+2) 0) (bs.getD (4*k+3) 0)).toNat)∧∃ n,w'=w.drewN n:=by
 subst hk
 exact sW b off len cap (4*k) _ _ _ _ hi hl w (at8 h _ (by omega)) (at8 h _ (by omega)) (at8 h _ (by omega)) (at8 h _ (by omega))
end Go.Proofs.YthbmknpbcgnabaaGreatDoor.Hm
end
section
namespace Go.Proofs.YthbmknpbcgnabaaGreatDoor.Hm
open Go.RowKit
def Own (w:World) (B:Nat) (e:TypeId) (v:Value) (ys:List Value):Prop:=w.ownsRow B e 1 v ys.length ys
def bq (w:World) (v:Value) (ys:List Value):Prop :=
 (∃ A,v=.slice A 0 0∧ys=[])∨∃ b o c,v=.slice (some ⟨b,o,none⟩) ys.length c∧b<w.heap.size∧ah w b o ys
theorem bD (b o j:Nat):(⟨b,o,none⟩:Addr).add j=⟨b,o+j,none⟩:=by unfold Addr.add;split <;> simp_all
section
variable {w w':World} {B:Nat} {e:TypeId} {v:Value} {ys:List Value}
theorem Own.nil (w:World) (B:Nat) (e:TypeId):Own w B e (.slice none 0 0) []:=World.ownsRow_nil w B e 1
theorem Own.lt (h:Own w B e v ys) {k:Nat} (hk:v.ownBlock=some k):B≤k∧k<w.heap.size:=World.ownsRow.lt h k hk
theorem Own.alloc (h:Own w B e v ys) (o:Obj):Own (w.alloc o) B e v ys:=World.ownsRow.alloc h o
theorem Own.drew (h:Own w B e v ys):Own w.drew B e v ys:=h
theorem Own.drewN (h:Own w B e v ys) (n:Nat):Own (w.drewN n) B e v ys:=h
theorem Own.kept {row:Option Nat} (h:Own w B e v ys) (hg:w.grownBy w' row) (hne:v.ownBlock=none∨v.ownBlock≠row):Own w' B e v ys:=World.ownsRow.kept h hg hne
theorem Own.below {B':Nat} (h:Own w B e v ys) (hb:Below B' w w') (hB:w.heap.size≤B'):Own w' B e v ys :=
 h.kept (row:=none) ⟨hb.os,hb.tape,hb.output,hb.size,fun k hk _=>hb.block k (by omega)⟩ (by cases v.ownBlock <;> simp)
theorem Own.lit (w:World) (B:Nat) (e:TypeId) (ys:List Value) (hB:B≤w.heap.size) (hl:ys.length≤1000000) :
  Own (w.alloc (.cells ys.toArray e)) B e (.slice (some ⟨w.heap.size,0,none⟩) ys.length ys.length) ys:=by
 have:=World.ownsRow_lit (e:=e) (base:=B) (size:=1) w ys.toArray ys.length hB (by simp only [maxLen];omega) (by simp)
 exact this
theorem Own.form (h:Own w B e v ys) (hn:0<ys.length):∃ g cap,v=.slice (some ⟨g,0,none⟩) ys.length cap∧B≤g∧g<w.heap.size∧ah w g 0 ys:=by
 obtain ⟨g,cap,rfl,hb,hl⟩:=World.ownsRow.form h hn
 refine⟨g,cap,rfl,hb,hl,fun j u hu=>?_⟩
 have:=World.ownsRow.cells h (g:=g) rfl j u hu
 rwa [bD] at this
theorem Own.cM (h:Own w B e v ys) (hn:0<ys.length):∃ g cap,v=.slice (some ⟨g,0,none⟩) ys.length cap∧B≤g∧g<w.heap.size∧ys.length≤cap∧ah w g 0 ys:=by
 obtain ⟨g,cap,hv,hb,hl,hs⟩:=h.form hn
 refine⟨g,cap,hv,hb,hl,?_,hs⟩
 rcases h.2 with ⟨_,h0⟩ | ⟨g',cap',cur,hv',_,_,hc,_⟩
 ·omega
 ·rw[hv] at hv'
  injection hv' with _ _ h3
  omega
theorem Own.from_ (h:Own w B e v ys):bq w v ys:=by
 rcases Nat.eq_zero_or_pos ys.length with h0 | h0
 ·have hy:=List.eq_nil_of_length_eq_zero h0
  subst hy
  rcases h.2 with ⟨rfl,_⟩ | ⟨g,cap,cur,rfl,_,hg,_⟩
  ·exact .inl ⟨none,rfl,rfl⟩
  ·exact .inr ⟨g,0,cap,rfl,(Array.getElem?_eq_some_iff.1 hg).1,ah.nil⟩
 ·obtain ⟨g,cap,rfl,_,hl,hs⟩:=h.form h0
  exact .inr ⟨g,0,cap,rfl,hl,hs⟩
theorem Own.base {B':Nat} (h:Own w B e v ys) (hB:B'≤B):Own w B' e v ys:=by
 obtain ⟨h1,h2⟩:=h
 refine⟨h1,?_⟩
 rcases h2 with h2 | ⟨g,cap,cur,hv,hg,r⟩
 ·exact .inl h2
 ·exact .inr ⟨g,cap,cur,hv,by omega,r⟩
end
theorem au {w0 w w':World} {B B':Nat} {e:TypeId} {v:Value} {ys:List Value} (hb:Below B' w0 w) (h:Own w B e v ys) (hg:w.grownBy w' v.ownBlock) (hB:B'≤B) (hs:B'≤w.heap.size):Below B' w0 w' :=
 hb.grown hg hs fun _ hk=>Nat.le_trans hB (h.lt hk).1
theorem mo {P:Program} {w:World} (t ty:TypeId) (B:Nat) (e:TypeId) {z:Value} {bytes:Nat} (ht:P.underlying t=some (.slice e)) (hi:(P.info? e).map (fun i=>(i.zero,i.size,i.bytes))=some (some z,1,bytes)) (hz:z.cells.size=1) (hby:bytes≤8)
  (v:Value) (ys:List Value) (hown:Own w B e v ys) (u:Value) (zs:List Value) (hu:bq w u zs) (h1:∀ y∈zs,y.oneCell'=true) (hl:ys.length+zs.length≤100000000) (hB:B≤w.heap.size) :
  ∃ v' w',(Builtin.append_ #[t,t] ty #[v,u]).run P w=.ok v' w'∧Own w' B e v' (ys++zs)∧w.grownBy w' v.ownBlock∧(v'.ownBlock=v.ownBlock∨v'.ownBlock=some w.heap.size):=by
 obtain ⟨i,hi,hz0,hz1,hz2⟩:=info_parts hi
 have k9:(ys.length+zs.length)*bytes≤140737488355328:=by
  have:(ys.length+zs.length)*bytes≤100000000*8:=Nat.mul_le_mul hl hby
  omega
 rcases hu with ⟨A,rfl,rfl⟩ | ⟨b,off,c,rfl,_,cd⟩
 ·cases A with
  | none=>exact⟨v,w,run_append_owned_none w B t ty e i 1 ht hi v ys.length ys hown,by rw[List.append_nil];exact hown,World.grownBy.refl w _,.inl rfl⟩
  | some ad =>
   obtain ⟨v',w',hr,h2,h3,_,h5⟩:=run_append_own_at w B t ty e i z 1 bytes ht hi hz0 hz1 hz2 hz (by omega) v ys.length ys hown ad 0 0 [] (by simp) (fun j u hu=>by simp at hu) (by simp) (by simp only [maxLen];omega) (by simpa using k9) hB
   exact⟨v',w',hr,by rw[Nat.add_zero] at h2;rw[List.append_nil] at h2 ⊢;exact h2,h3,h5⟩
 ·obtain ⟨v',w',hr,h2,h3,_,h5⟩:=run_append_own_at w B t ty e i z 1 bytes ht hi hz0 hz1 hz2 hz (by omega) v ys.length ys hown ⟨b,off,none⟩ zs.length c zs (by simp) (fun j u hu=>by rw[bD];exact cd j u hu) h1 (by simp only [maxLen];omega) k9 hB
  exact⟨v',w',hr,by rw[← List.length_append] at h2;exact h2,h3,h5⟩
theorem cK {P:Program} {w:World} {ops:Array Oper} {o:Oper} {a:Act} {K:Act→World→Prop} {Q:Exit→Act→World→Prop} {E:Prop} (hgd:o.guard=none) (s x:Operand) (t:TypeId)
  (ho:o.op=.call { callee:=.builtin .append,args:=#[s,x],argTypes:=#[t,t] })
  (B:Nat) (e:TypeId) {z:Value} {bytes:Nat} (ht:P.underlying t=some (.slice e)) (hi:(P.info? e).map (fun i=>(i.zero,i.size,i.bytes))=some (some z,1,bytes)) (hz:z.cells.size=1) (hby:bytes≤8)
  (v:Value) (ys:List Value) (hs:a.eval s=v) (hown:Own w B e v ys) (u:Value) (zs:List Value) (hx:a.eval x=u) (hu:bq w u zs) (h1:∀ y∈zs,y.oneCell'=true)
  (hl:ys.length+zs.length≤100000000) (hB:B≤w.heap.size)
  (h:∀ v' w',Own w' B e v' (ys++zs)→w.grownBy w' v.ownBlock→(v'.ownBlock=v.ownBlock∨v'.ownBlock=some w.heap.size)→K (a.put o.dst v') w') :
  if Region.wanted o (yielded ops a.tmps)=true then Oper.wp P o a w K Q else E:=by
 rw[if_pos (by simp [Region.wanted,hgd])]
 obtain ⟨v',w',hr,h2,h3,h4⟩:=mo (P:=P) t o.type B e ht hi hz hby v ys hown u zs hu h1 hl hB
 unfold Oper.wp execOp
 simp only [ho,resolve,invoke,builtin,Sem.run_bind,Sem.run_pure,Result.andThen_ok,List.map_toArray,List.map_cons,List.map_nil,hs,hx,hr]
 exact h v' w' h2 h3 h4
theorem aA {P:Program} {w:World} {ops:Array Oper} {rest:List Oper} {o:Oper} {a:Act} {Q:Exit→Act→World→Prop} (hgd:o.guard=none) (s x:Operand) (t:TypeId)
  (ho:o.op=.call { callee:=.builtin .append,args:=#[s,x],argTypes:=#[t,t] })
  (B:Nat) (e:TypeId) {z:Value} {bytes:Nat} (ht:P.underlying t=some (.slice e)) (hi:(P.info? e).map (fun i=>(i.zero,i.size,i.bytes))=some (some z,1,bytes)) (hz:z.cells.size=1) (hby:bytes≤8)
  (v:Value) (ys:List Value) (hs:a.eval s=v) (hown:Own w B e v ys) (u:Value) (zs:List Value) (hx:a.eval x=u) (hu:bq w u zs) (h1:∀ y∈zs,y.oneCell'=true)
  (hl:ys.length+zs.length≤100000000) (hB:B≤w.heap.size)
  (h:∀ v' w',Own w' B e v' (ys++zs)→w.grownBy w' v.ownBlock→(v'.ownBlock=v.ownBlock∨v'.ownBlock=some w.heap.size)→wpList P ops Q rest (a.put o.dst v') w'):wpList P ops Q (o::rest) a w:=by
 refine wpList_plain hgd fun K hK=>?_
 obtain ⟨v',w',hr,h2,h3,h4⟩:=mo (P:=P) t o.type B e ht hi hz hby v ys hown u zs hu h1 hl hB
 unfold Oper.wp execOp
 simp only [ho,resolve,invoke,builtin,Sem.run_bind,Sem.run_pure,Result.andThen_ok,List.map_toArray,List.map_cons,List.map_nil,hs,hx,hr]
 exact hK _ _ (h v' w' h2 h3 h4)
theorem bq.alloc {w:World} {v:Value} {ys:List Value} (h:bq w v ys) (o:Obj):bq (w.alloc o) v ys:=by
 rcases h with h | ⟨b,off,c,e,hl,hs⟩
 ·exact .inl h
 ·exact .inr ⟨b,off,c,e,by simp;omega,hs.alloc hl o⟩
theorem bq.below {w w':World} {v:Value} {ys:List Value} (h:bq w v ys) (hb:Below w.heap.size w w'):bq w' v ys:=by
 rcases h with h | ⟨b,off,c,e,hl,hs⟩
 ·exact .inl h
 ·exact .inr ⟨b,off,c,e,Nat.lt_of_lt_of_le hl hb.size,hs.below hb hl⟩
end Go.Proofs.YthbmknpbcgnabaaGreatDoor.Hm
end
section
namespace Go.Proofs.YthbmknpbcgnabaaGreatDoor.Hm
open Go.RowKit Sha
set_option maxRecDepth 100000
theorem tE (b off cap:Nat) (bs:List UInt8) (hbs:bs.length=64) (w:World) (hb:b<w.heap.size) (h:ah w b off (bs.map V8)) :
  Calls Tryz.prog 165 #[.slice (some ⟨b,off,none⟩) 64 cap] w fun e w'=>e=.returned (.agg ((words bs 64).map V32).toArray)∧Below w.heap.size w w':=by
 have Hbs:=ae hbs
 clear hbs
 go_enter Tryz.func165,Tryz.ntmps165
 go_wp2
 go_loopw [4] (fun i wr=>∃ k:Nat,k≤16∧i=.int .i64 k∧Row wr w.heap.size 255 (List.replicate 64 (.int .u32 0))∧Row wr (w.heap.size+1) 255 ((pad 64 (words bs k)).map V32)∧Below w.heap.size w wr) (fun i _=>16 - (intOf i).toNat)
 case atStart =>
  refine⟨0,by omega,rfl,(Row.new w _ (List.replicate 64 (.int .u32 0))).alloc _,Row.newAt _ (List.replicate 64 (.int .u32 0)) (by simp),((Below.refl _ _).alloc (Nat.le_refl _) _).alloc (by simp) _⟩
 case round =>
  obtain ⟨k,hk,rfl,hz,hrow,ak⟩:=hrel
  have hs:=h.below ak hb
  by_cases hlt:k<16
  ·have hc:∀ n,(wr.drewN n).cell? ⟨w.heap.size+1,k,none⟩=some (.int .u32 ((words bs k).getD k 0).toNat):=fun n=>by
    have:=hrow.cell k
    rw[List.getElem?_map,zV _ _ _ (by omega)] at this
    exact this
   have hf:∀ n,(wr.drewN n).frozen? ⟨w.heap.size+1,k,none⟩=false:=fun n=>hrow.free k
   go_wp2_with (go_at_call 179;refine(xB b off 64 cap bs _ k (by omega) (by omega) Hbs.out (by omega) _ hs).mono ?_;rintro e w' ⟨rfl,n,rfl⟩)
   go_roundw
   case rel =>
    refine⟨k+1,by omega,by go_num,?_,?_,?_⟩
    ·exact(hz.drewN n).apart (by show w.heap.size≠w.heap.size+1;omega) _
    ·rw[pg bs k hlt,← zT _ _ _ (by rw[aH];omega),aH,List.map_set]
     exact(hrow.drewN n).set k _
    ·exact(below_drewN ak n).setCell (by show w.heap.size≤w.heap.size+1;omega) _
   case measure=>simp [intOf];omega
  ·obtain rfl:k=16:=by omega
   rw[show ((16:Nat):Int)=16 from rfl]
   go_wp2
   go_loopw [5,6,7] (fun i _ _ wr=>∃ k:Nat,16≤k∧k≤64∧i=.int .i64 k∧Row wr w.heap.size 255 (List.replicate 64 (.int .u32 0))∧Row wr (w.heap.size+1) 255 ((pad 64 (words bs k)).map V32)∧Below w.heap.size w wr) (fun i _ _ _=>64 - (intOf i).toNat)
   case atStart=>exact⟨16,by omega,by omega,rfl,hz,hrow,ak⟩
   case round =>
    clear hz hrow ak hs
    obtain ⟨k,hk1,hk2,rfl,hz,hrow,ak⟩:=hrel
    by_cases hlt:k<64
    ·have hl:k<(pad 64 (words bs k)).length:=by rw[xX _ _ (by rw[aH];omega)];omega
     have hg:∀ j,j<64→wr.cell? ⟨w.heap.size+1,j,none⟩=some (.int .u32 ((words bs k).getD j 0).toNat):=fun j hj=>by
      have:=hrow.cell j
      rw[List.getElem?_map,zV _ _ _ hj] at this
      exact this
     have hf:wr.frozen? ⟨w.heap.size+1,k,none⟩=false:=hrow.free k
     have HW:=ae (o9 bs k hk1)
     obtain ⟨u,hu⟩:∃ u,u=(words bs k).getD (k - 16) 0:=⟨_,rfl⟩
     obtain ⟨v,hv⟩:∃ v,v=(words bs k).getD (k - 7) 0:=⟨_,rfl⟩
     obtain ⟨p,hp⟩:∃ p,p=(words bs k).getD (k - 15) 0:=⟨_,rfl⟩
     obtain ⟨q,hq⟩:∃ q,q=(words bs k).getD (k - 2) 0:=⟨_,rfl⟩
     have g16:=hg (k - 16) (by omega)
     have g7:=hg (k - 7) (by omega)
     have g15:=hg (k - 15) (by omega)
     have g2:=hg (k - 2) (by omega)
     have gk:=hg k (by omega)
     rw[← hu,← hv,← hp,← hq] at HW
     rw[← hp] at g15
     rw[← hq] at g2
     rw[← hu] at g16
     rw[← hv] at g7
     clear hg hu hv hp hq hl
     go_wp2
     go_quiet (fail)
     go_wp2
     have e16:IntKind.i64.wrap ((k:Int) - 16)=((k - 16:Nat):Int):=by rw[IntWalk.i64_in _ (by omega)];omega
     have e7:IntKind.i64.wrap ((k:Int) - 7)=((k - 7:Nat):Int):=by rw[IntWalk.i64_in _ (by omega)];omega
     have l16:((k - 16:Nat):Int)<64:=by omega
     have l7:((k - 7:Nat):Int)<64:=by omega
     have lk:(k:Int)<64:=by omega
     refine wp_region_still_tail 28 (by kernel_rfl) (by kernel_rfl) ?_
     change wpStill _ _ (wr.drewN (nq+1)) (fun a'=>wpList _ _ _ _ a' (wr.drewN (nq+1))) _ _
     simp only [List.take_succ_cons,List.take_zero,List.drop_succ_cons,List.drop_zero]
     repeat (first
      | still_step
      | (refine wpStill_step (fun K hK=>?_);go_simp;(with_reducible refine⟨_,mX _ _ (by decide) (by decide) _,hK _ ?_⟩);clear hK K)
      | (refine wpStill_step (fun K hK=>?_);go_simp;(with_reducible refine⟨_,B0 _ _ (by decide) (by decide) _,hK _ ?_⟩);clear hK K))
     refine wpStill_nil ?_
     clear e16 e7 l16 l7
     go_wp2
     go_roundw
     case rel =>
      rw[Eo]
      refine⟨k+1,by omega,by omega,by go_num,?_,?_,?_⟩
      ·exact(hz.drewN _).apart (by show w.heap.size≠w.heap.size+1;omega) _
      ·rw[HW.out,← zT _ _ _ (by rw[aH];omega),aH,List.map_set]
       exact(hrow.drewN _).set k _
      ·exact(below_drewN ak _).setCell (by show w.heap.size≤w.heap.size+1;omega) _
     case measure=>simp [intOf];omega
    ·obtain rfl:k=64:=by omega
     have hfull:pad 64 (words bs 64)=words bs 64:=by have:=Ea (words bs 64);rwa [aH] at this
     rw[hfull] at hrow
     have hsz:((words bs 64).map V32).toArray.size=64:=by simp [aH]
     have Hsz:=ae hsz
     have dR:=ae hrow
     have aN:=ae (Ee (words bs 64))
     clear hrow hfull hsz
     generalize hrs:(words bs 64).map V32=rs at *
     have HRS:=ae hrs
     clear hrs
     go_wp2_with (first
      | (refine wpList_load_row rfl 255 (.tmp 3) rfl (w.heap.size+1) rfl 255 rs.toArray (0,0) _ dR.out Tryz.underlying255 rfl (by rw[Hsz.out];kernel_rfl) ?_)
      | (refine wpList_store_row rfl 255 (.tmp 2) (.tmp 59) rfl w.heap.size rs.toArray rfl rfl 255 _ hz (by rw[Hsz.out];kernel_rfl) (by rw[Hsz.out];rfl) aN.out ?_))
     have bj:=hz.whole rs
     have hinfo:(Tryz.prog.info? 255).map (·.size)=some rs.toArray.size:=by rw[Hsz.out];kernel_rfl
     refine bodyPost_ret (v:=.agg rs.toArray) (results_cell_row rfl _ _ w.heap.size 255 rs.toArray (0,0) _ rfl bj Tryz.underlying255 rfl hinfo) rfl ?_
     exact⟨congrArg (fun l:List Value=>Ending.returned (.agg l.toArray)) HRS.out.symm,ag ak (Nat.le_refl _) _⟩
end Go.Proofs.YthbmknpbcgnabaaGreatDoor.Hm
end
section
namespace Go.Proofs.YthbmknpbcgnabaaGreatDoor.Hm
open Go.RowKit Sha
theorem kG {w:World} {S:Nat} {t:TypeId} {s:St} (h:Row w S t (s.list.map V32)) :
  w.cell? ⟨S,0,none⟩=some (.int .u32 s.a.toNat)∧w.cell? ⟨S,1,none⟩=some (.int .u32 s.b.toNat)∧w.cell? ⟨S,2,none⟩=some (.int .u32 s.c.toNat)∧w.cell? ⟨S,3,none⟩=some (.int .u32 s.d.toNat) ∧
  w.cell? ⟨S,4,none⟩=some (.int .u32 s.e.toNat)∧w.cell? ⟨S,5,none⟩=some (.int .u32 s.f.toNat)∧w.cell? ⟨S,6,none⟩=some (.int .u32 s.g.toNat)∧w.cell? ⟨S,7,none⟩=some (.int .u32 s.h.toNat) :=
 ⟨h.cell 0,h.cell 1,h.cell 2,h.cell 3,h.cell 4,h.cell 5,h.cell 6,h.cell 7⟩
theorem tD (b off cap:Nat) (bs:List UInt8) (hbs:bs.length=64) (w:World) (hb:b<w.heap.size) (h:ah w b off (bs.map V8)) :
  Calls Tryz.prog 165 #[.slice (some ⟨b,off,none⟩) 64 cap] w fun e w'=>∃ rs:List Value,Hid (rs=(words bs 64).map V32)∧e=.returned (.agg rs.toArray)∧Below w.heap.size w w' :=
 (tE b off cap bs hbs w hb h).mono fun _ _ h=>⟨_,rfl,h⟩
theorem tB {w wr:World} {S:Nat} {t:TypeId} {s:St} (a b c d e f g h:UInt32) (hr:Row wr S t (s.list.map V32)) (hg:w.grownBy wr (some S)) :
  ∀ X,X=((((((((wr.setCell ⟨S,0,none⟩ (.int .u32 (((s.a.toNat:Int)+a.toNat) % 4294967296))).setCell ⟨S,1,none⟩ (.int .u32 (((s.b.toNat:Int)+b.toNat) % 4294967296))).setCell ⟨S,2,none⟩ (.int .u32 (((s.c.toNat:Int)+c.toNat) % 4294967296))).setCell ⟨S,3,none⟩ (.int .u32 (((s.d.toNat:Int)+d.toNat) % 4294967296))).setCell ⟨S,4,none⟩ (.int .u32 (((s.e.toNat:Int)+e.toNat) % 4294967296))).setCell ⟨S,5,none⟩ (.int .u32 (((s.f.toNat:Int)+f.toNat) % 4294967296))).setCell ⟨S,6,none⟩ (.int .u32 (((s.g.toNat:Int)+g.toNat) % 4294967296))).setCell ⟨S,7,none⟩ (.int .u32 (((s.h.toNat:Int)+h.toNat) % 4294967296))) →
   Row X S t ((s.plus ⟨a,b,c,d,e,f,g,h⟩).list.map V32)∧w.grownBy X (some S):=by
 rintro X rfl
 rw[jD,jD,jD,jD,jD,jD,jD,jD]
 refine⟨(((((((hr.set 0 _).set 1 _).set 2 _).set 3 _).set 4 _).set 5 _).set 6 _).set 7 _,?_⟩
 iterate 8 refine iP ?_ (.inl rfl) _
 exact hg
set_option maxRecDepth 100000
theorem iY (S b off cap:Nat) (s:St) (K:List UInt32) (hKl:K.length=64) (bs:List UInt8) (hbs:bs.length=64) (w:World) (hb:b<w.heap.size) (hS:Row w S 233 (s.list.map V32))
  (hK:ah w 0 0 (K.map V32)) (h:ah w b off (bs.map V8)) :
  Calls Tryz.prog 148 #[.pointer (some ⟨S,0,none⟩),.slice (some ⟨b,off,none⟩) 64 cap] w fun e w'=>e=.returned (.tuple #[])∧Row w' S 233 ((come K s bs).list.map V32)∧w.grownBy w' (some S):=by
 have HKl:=ae hKl
 have Hbs:=ae hbs
 have h0:0<w.heap.size:=hK.lt (by rw[List.length_map,hKl];decide)
 have hSl:=hS.lt
 clear hKl hbs
 go_enter Tryz.func148,Tryz.ntmps148
 go_wp2_with fail
 refine(tD b off cap bs Hbs.out w hb h).mono ?_
 rintro e w1 ⟨rs,Hrs,rfl,hb1⟩
 have aN:Hid (rs.toArray.all (·.oneCell')=true):=by rw[Hrs.out];exact Ee _
 have Hsz:Hid (rs.toArray.size=64):=by rw[Hrs.out];show _=_;simp [aH]
 have jf:=hb1.size
 go_wp2_with (refine wpList_store_row rfl 255 (.tmp 4) (.tmp 17) rfl w1.heap.size rs.toArray rfl rfl 255 _ (Row.new w1 _ (List.replicate 64 (.int .u32 0))) (by rw[Hsz.out];kernel_rfl) (by rw[Hsz.out];rfl) aN.out ?_)
 go_frame
 refine gA (fun w2=>Row w2 w1.heap.size 255 rs∧Row w2 S 233 (s.list.map V32)∧ah w2 0 0 (K.map V32)∧w.grownBy w2 (some S)) ?_ ?_
 ·have r1:Row w1 S 233 (s.list.map V32):=hS.below hb1 hSl
  have k1:ah w1 0 0 (K.map V32):=hK.below hb1 h0
  refine⟨(Row.new w1 _ (List.replicate 64 (.int .u32 0))).whole rs,(r1.alloc _).dG (by omega) _,?_,?_⟩
  ·exact(k1.alloc (by omega) _).same (setRow_other _ _ _ _ (by omega))
  ·exact iA (jB (kK hb1 _) _) (.inr jf) _
 rintro w2 ⟨hM,hS2,hK2,hg2⟩
 have hMc:∀ j,j<64→w2.cell? ⟨w1.heap.size,j,none⟩=some (.int .u32 ((words bs 64).getD j 0).toNat):=fun j hj=>by
  rw[hM.cell,Hrs.out,List.getElem?_map,List.getElem?_eq_getElem (by rw[aH];exact hj)];simp [V32,aH,hj]
 have hKc:∀ j,j<64→w2.cell? ⟨0,j,none⟩=some (.int .u32 (K.getD j 0).toNat):=fun j hj=>by
  have:=yI hK2 j (by rw[HKl.out];exact hj)
  rwa [Nat.zero_add] at this
 obtain ⟨c0,c1,c2,c3,c4,c5,c6,c7⟩:=kG hS2
 have HMc:=ae hMc
 have HKc:=ae hKc
 have HS2:=ae hS2
 clear hMc hKc hK2 hM hS hK h hS2
 go_quiet (fail)
 go_wp2
 go_loopw [5,6,7,8,9,10,11,12,13,14,15] (fun va vb vc vd ve vf vg vh i _ _ wr=>∃ (k:Nat) (a b c d e f g h:UInt32),k≤64∧i=.int .i64 k∧Hid (⟨a,b,c,d,e,f,g,h⟩=xT K (words bs 64) s k) ∧
  va=.int .u32 a.toNat∧vb=.int .u32 b.toNat∧vc=.int .u32 c.toNat∧vd=.int .u32 d.toNat∧ve=.int .u32 e.toNat∧vf=.int .u32 f.toNat∧vg=.int .u32 g.toNat∧vh=.int .u32 h.toNat∧Hid (∃ n,wr=w2.drewN n)) (fun _ _ _ _ _ _ _ _ i _ _ _=>64 - (intOf i).toNat)
 case atStart=>exact⟨0,_,_,_,_,_,_,_,_,by omega,rfl,rfl,rfl,rfl,rfl,rfl,rfl,rfl,rfl,rfl,⟨_,rfl⟩⟩
 case round =>
  clear c0 c1 c2 c3 c4 c5 c6 c7
  obtain ⟨k,a,b,c,d,e,f,g,h,hk,rfl,Ht,rfl,rfl,rfl,rfl,rfl,rfl,rfl,rfl,Hwr⟩:=hrel
  by_cases hlt:k<64
  ·have Hst:Hid (xT K (words bs 64) s (k+1)=rnd ⟨a,b,c,d,e,f,g,h⟩ (K.getD k 0) ((words bs 64).getD k 0)):=by rw[Ht.out];rfl
   have gK:wr.cell? ⟨0,k,none⟩=some (.int .u32 (K.getD k 0).toNat):=by obtain ⟨n,rfl⟩:=Hwr.out;exact HKc.out k hlt
   have gM:wr.cell? ⟨w1.heap.size,k,none⟩=some (.int .u32 ((words bs 64).getD k 0).toNat):=by obtain ⟨n,rfl⟩:=Hwr.out;exact HMc.out k hlt
   generalize K.getD k 0=cc at *
   generalize (words bs 64).getD k 0=mm at *
   go_wp2
   go_quiet ((go_at_call 166;exact Calls.quiet_of_same (mX _ _ (by decide) (by decide) _)))
   go_wp2_with ((with_reducible refine(mX _ _ (by decide) (by decide) _).mono ?_);rintro e w' ⟨rfl,rfl⟩)
   go_roundw
   case rel =>
    rw[Nb,Ed a b c d e f g h cc mm,Dh a b c d e f g h,jD,jD]
    exact⟨k+1,_,_,_,_,_,_,_,_,by omega,by go_num,Hst.out.symm,rfl,rfl,rfl,rfl,rfl,rfl,rfl,rfl,by obtain ⟨n,rfl⟩:=Hwr.out;exact⟨_,World.drewN_drewN _ _ _⟩⟩
   case measure=>simp [intOf];omega
  ·obtain rfl:k=64:=by omega
   have hSr:Row wr S 233 (s.list.map V32):=by obtain ⟨n,rfl⟩:=Hwr.out;exact HS2.out.drewN n
   have hgr:w.grownBy wr (some S):=by obtain ⟨n,rfl⟩:=Hwr.out;exact wy hg2 n
   have hend:Hid (come K s bs=s.plus ⟨a,b,c,d,e,f,g,h⟩):=by rw[Ht.out];rfl
   clear Ht HKc HMc HS2 Hwr hg2 Hrs
   obtain ⟨c0,c1,c2,c3,c4,c5,c6,c7⟩:=kG hSr
   have f0:=hSr.free 0
   have f1:=hSr.free 1
   have f2:=hSr.free 2
   have f3:=hSr.free 3
   have f4:=hSr.free 4
   have f5:=hSr.free 5
   have f6:=hSr.free 6
   have f7:=hSr.free 7
   go_wp2
   go_region
   go_wp2
   go_region
   go_wp2
   go_region
   go_wp2
   go_region
   go_wp2
   go_region
   go_wp2
   go_region
   go_wp2
   go_region
   go_wp2
   go_region
   go_wp2
   go_end0
   obtain ⟨q1,q2⟩:=tB a b c d e f g h hSr hgr _ rfl
   rw[hend.out]
   exact⟨rfl,q1.drew.drew.drew.drew.drew.drew.drew.drew,iw (iw (iw (iw (iw (iw (iw (iw q2)))))))⟩
end Go.Proofs.YthbmknpbcgnabaaGreatDoor.Hm
end
section
namespace Go.Proofs.YthbmknpbcgnabaaGreatDoor.Hm
open Go.RowKit Sha
theorem qu {w:World} {g:Nat} {t:TypeId} {n:Nat} {l:List UInt8} (h:Row w g t ((aS n l).map V8)) (i:Nat) (hi:i<n):w.cell? ⟨g,i,none⟩=some (.int .u8 (l.getD i 0).toNat):=by
 rw[h.cell,List.getElem?_map,mB _ _ _ hi];rfl
theorem q9 (g o len cap:Nat) (x:UInt32) (w:World) (hl:4≤len) (v0 v1 v2 v3:UInt8)
  (c0:w.cell? ⟨g,o,none⟩=some (.int .u8 v0.toNat)) (c1:w.cell? ⟨g,o+1,none⟩=some (.int .u8 v1.toNat)) (c2:w.cell? ⟨g,o+2,none⟩=some (.int .u8 v2.toNat)) (c3:w.cell? ⟨g,o+3,none⟩=some (.int .u8 v3.toNat))
  (f0:w.frozen? ⟨g,o,none⟩=false) (f1:w.frozen? ⟨g,o+1,none⟩=false) (f2:w.frozen? ⟨g,o+2,none⟩=false) (f3:w.frozen? ⟨g,o+3,none⟩=false) :
  Calls Tryz.prog 167 #[.slice (some ⟨g,o,none⟩) len cap,.int .u32 x.toNat] w fun e w'=>e=.returned (.tuple #[]) ∧
   (((w.setCell ⟨g,o,none⟩ (.int .u8 ((x.toNat:Int) / 16777216 % 256))).setCell ⟨g,o+1,none⟩ (.int .u8 ((x.toNat:Int) / 65536 % 256))).setCell ⟨g,o+2,none⟩ (.int .u8 ((x.toNat:Int) / 256 % 256))).setCell ⟨g,o+3,none⟩ (.int .u8 ((x.toNat:Int) % 256))=w':=by
 go_enter Tryz.func167,Tryz.ntmps167
 go_wp2
 go_end0
 exact⟨rfl,rfl⟩
theorem vJ (g o len cap n:Nat) (t:TypeId) (l:List UInt8) (x:UInt32) (w:World) (h:Row w g t ((aS n l).map V8)) (ho:o=l.length) (hn:o+4≤n) (hl:4≤len) :
  Calls Tryz.prog 167 #[.slice (some ⟨g,o,none⟩) len cap,.int .u32 x.toNat] w fun e w'=>e=.returned (.tuple #[])∧Row w' g t ((aS n (l++b4 x)).map V8)∧w.grownBy w' (some g):=by
 refine(q9 g o len cap x w hl _ _ _ _ (qu h o (by omega)) (qu h (o+1) (by omega)) (qu h (o+2) (by omega)) (qu h (o+3) (by omega)) (h.free _) (h.free _) (h.free _) (h.free _)).mono ?_
 rintro e w' ⟨rfl,rfl⟩
 rw[show (16777216:Int)=((16777216:Nat):Int) from rfl,show (65536:Int)=((65536:Nat):Int) from rfl]
 rw[show ((x.toNat:Int) / 256 % 256)=((UInt8.ofNat (x.toNat / 256)).toNat:Int) from iN x.toNat 256,iN x.toNat 16777216,iN x.toNat 65536,iu x.toNat]
 refine⟨rfl,?_,?_⟩
 ·subst ho
  rw[b4,← na n l _ _ _ _ (by omega),List.map_set,List.map_set,List.map_set,List.map_set]
  exact(((h.set _ _).set _ _).set _ _).set _ _
 ·iterate 4 refine iP ?_ (.inl rfl) _
  exact jV _ _
set_option maxRecDepth 100000
theorem qh (w:World) :
  Calls Tryz.prog 146 #[] w fun e w'=>e=.returned (.agg (R0.list.map V32).toArray)∧Below w.heap.size w w':=by
 go_enter Tryz.func146,Tryz.ntmps146
 go_wp2
 refine bodyPost_ret (v:=.agg (R0.list.map V32).toArray) (results_cell_row rfl _ _ w.heap.size 233 (R0.list.map V32).toArray (0,0) _ rfl (Row.new w 233 (R0.list.map V32)) Tryz.underlying233 rfl (by kernel_rfl)) rfl ?_
 exact⟨rfl,(Below.refl _ _).alloc (Nat.le_refl _) _⟩
set_option maxRecDepth 512
def dig (s:St):List UInt8:=bytesOf s.list
theorem lW (s:St):(dig s).length=32:=by rw[dig,bytesOf_length];rfl
theorem kA (s:St) (k:Nat) (hk:k<8):s.list.take (k+1)=s.list.take k++[s.list.getD k 0]:=by
 rw[List.take_succ_eq_append_getElem (by simpa [St.list] using hk),List.getD_eq_getElem?_getD,List.getElem?_eq_getElem (by simpa [St.list] using hk)];rfl
theorem Om:Tryz.prog.underlying 26=some (.array (Tryz.prog.arrayLen 26) (Tryz.prog.elem 26)):=by kernel_rfl
theorem Ji:Tryz.prog.arrayLen 26=32:=by kernel_rfl
theorem QE (W:World):(sizeOf (Tryz.prog.elem 26)).run Tryz.prog W=.ok 1 W:=by kernel_rfl
theorem Bf (O k:Nat) (hk:k<8) (W:World) :
  (Instr.sliceAt 26 (.pointer (some ⟨O,0,none⟩)) (some (.int .i64 ((k:Int)*4))) none none).run Tryz.prog W=.ok (.slice (some ⟨O,4*k,none⟩) (32 - 4*k) (32 - 4*k)) W:=by
 rw[run_sliceAt_array_l W 26 ⟨O,0,none⟩ Om .i64 _ (by omega) (by rw[Ji];omega),QE,Ji,show ((k:Int)*4).toNat=4*k by omega]
 simp only [Result.andThen_ok,slicedAt]
 rw[if_neg (by omega),Nat.mul_one]
 congr 3
 unfold Addr.add
 split <;> simp_all
set_option maxRecDepth 100000
theorem yD (S:Nat) (s:St) (w:World) (hS:Row w S 233 (s.list.map V32)) :
  Calls Tryz.prog 149 #[.pointer (some ⟨S,0,none⟩)] w fun e w'=>e=.returned (.agg ((dig s).map V8).toArray)∧Below w.heap.size w w':=by
 have hSl:=hS.lt
 go_enter Tryz.func149,Tryz.ntmps149
 go_wp2
 go_loopw [4,5,7] (fun _ _ i wr=>∃ k:Nat,k≤8∧i=.int .i64 k∧Row wr w.heap.size 26 (List.replicate 32 (.int .u8 0))∧Row wr (w.heap.size+1) 26 ((aS 32 (bytesOf (s.list.take k))).map V8)∧Below w.heap.size w wr) (fun _ _ i _=>8 - (intOf i).toNat)
 case atStart =>
  exact⟨0,by omega,rfl,(Row.new w _ (List.replicate 32 (.int .u8 0))).alloc _,Row.newAt _ (List.replicate 32 (.int .u8 0)) (by simp),((Below.refl _ _).alloc (Nat.le_refl _) _).alloc (by simp) _⟩
 case round =>
  obtain ⟨k,hk,rfl,hz,hrow,ak⟩:=hrel
  by_cases hlt:k<8
  ·have hc:wr.cell? ⟨S,k,none⟩=some (.int .u32 (s.list.getD k 0).toNat):=Lj (hS.below ak hSl) k (by simpa [St.list] using hlt)
   have Hs:=ae (kA s k hlt)
   generalize s.list.getD k 0=x at *
   have dc:Hid ((bytesOf (s.list.take k)).length=4*k):=by rw[bytesOf_length];show _=_;simp [St.list];omega
   have hsl:=fun n=>Bf (w.heap.size+1) k hlt (wr.drewN n)
   go_wp2
   go_quiet (fail)
   go_wp2_with fail
   refine(vJ (w.heap.size+1) (4*k) _ _ 32 26 (bytesOf (s.list.take k)) x _ (hrow.drewN _) dc.out.symm (by omega) (by omega)).mono ?_
   rintro e w' ⟨rfl,hr',hg'⟩
   go_wp2
   go_roundw
   case rel =>
    have Ju:=below_drewN ak nq
    have hne:∀ j,j<w.heap.size→w'.heap[j]? = (wr.drewN nq).heap[j]?:=fun j hj=>hg'.block j (Nat.lt_of_lt_of_le hj Ju.size) (by simp;omega)
    refine⟨k+1,by omega,by go_num,(hz.drewN nq).grown hg' (by simp),?_,?_⟩
    ·rw[Hs.out,mK];exact hr'
    ·exact Ju.trans ⟨hg'.os,hg'.tape,hg'.output,hg'.size,hne⟩
   case measure=>simp [intOf];omega
  ·obtain rfl:k=8:=by omega
   have hfull:Hid ((aS 32 (bytesOf (s.list.take 8))).map V8=(dig s).map V8):=by
    show _=_
    have e:s.list.take 8=s.list:=rfl
    rw[e]
    have:=ix (bytesOf s.list)
    rw[bytesOf_length] at this
    exact congrArg (List.map V8) this
   rw[hfull.out] at hrow
   have aN:=ae (ku (dig s))
   have Hsz:Hid (((dig s).map V8).toArray.size=32):=by show _=_;simp [lW]
   clear hfull
   have dR:=ae hrow
   clear hrow
   generalize hrs:(dig s).map V8=rs at *
   have HRS:=ae hrs
   clear hrs
   rw[show ((8:Nat):Int)=8 from rfl]
   go_wp2_with (first
    | (refine wpList_load_row rfl 26 (.tmp 3) rfl (w.heap.size+1) rfl 26 rs.toArray (0,0) _ dR.out Tryz.underlying26 rfl (by rw[Hsz.out];kernel_rfl) ?_)
    | (refine wpList_store_row rfl 26 (.tmp 2) (.tmp 19) rfl w.heap.size rs.toArray rfl rfl 26 _ hz (by rw[Hsz.out];kernel_rfl) (by rw[Hsz.out];rfl) aN.out ?_))
   have bj:=hz.whole rs
   have hinfo:(Tryz.prog.info? 26).map (·.size)=some rs.toArray.size:=by rw[Hsz.out];kernel_rfl
   refine bodyPost_ret (v:=.agg rs.toArray) (results_cell_row rfl _ _ w.heap.size 26 rs.toArray (0,0) _ rfl bj Tryz.underlying26 rfl hinfo) rfl ?_
   exact⟨congrArg (fun l:List Value=>Ending.returned (.agg l.toArray)) HRS.out.symm,ag ak (Nat.le_refl _) _⟩
end Go.Proofs.YthbmknpbcgnabaaGreatDoor.Hm
end
