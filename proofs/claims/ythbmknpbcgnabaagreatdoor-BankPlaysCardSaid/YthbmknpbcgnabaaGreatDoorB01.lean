/- Of the walk. -/
import Derived.Test.YthbmknpbcgnabaaGreatDoorB00
import Derived.Below
import Derived.Deep.AppendSrc
import Derived.Laws.BitsAllLaws
import Derived.Laws.CopyOwn
set_option maxHeartbeats 40000000
section
namespace Go.Proofs.YthbmknpbcgnabaaGreatDoor.Hm
namespace Sha
def rot (x:UInt32) (n:Nat):UInt32:=UInt32.ofNat (x.toNat / 2 ^ n+x.toNat % 2 ^ n*2 ^ (32 - n))
def shr (x:UInt32) (n:Nat):UInt32:=UInt32.ofNat (x.toNat / 2 ^ n)
def be (a b c d:UInt8):UInt32:=UInt32.ofNat (a.toNat*16777216+b.toNat*65536+c.toNat*256+d.toNat)
theorem nj (x:UInt32):x.toNat<4294967296:=x.toNat_lt
theorem lt8 (x:UInt8):x.toNat<256:=x.toNat_lt
theorem toNat_ofNat32 {n:Nat} (h:n<4294967296):(UInt32.ofNat n).toNat=n:=by
 rw[UInt32.toNat_ofNat'];exact Nat.mod_eq_of_lt h
theorem bF {n:Nat} (h:n<256):(UInt8.ofNat n).toNat=n:=by
 rw[UInt8.toNat_ofNat'];exact Nat.mod_eq_of_lt h
theorem jD (x y:UInt32):((x.toNat:Int)+y.toNat) % 4294967296=((x+y).toNat:Int):=by
 rw[UInt32.toNat_add];omega
theorem j5 (x y:UInt32):bits .xor .u32 (x.toNat:Int) y.toNat=((x ^^^ y).toNat:Int):=by
 rw[u32_xor_nat _ _ (nj x) (nj y),UInt32.toNat_xor]
theorem wG (x y:UInt32):bits .and .u32 (x.toNat:Int) y.toNat=((x &&& y).toNat:Int):=by
 rw[u32_and_nat _ _ (nj x) (nj y),UInt32.toNat_and]
theorem tJ (x n:Nat) (hx:x<4294967296) (h:n≤32):x / 2 ^ n+x % 2 ^ n*2 ^ (32 - n)<4294967296:=by
 have h32:(4294967296:Nat)=2 ^ (32 - n)*2 ^ n:=by rw[← Nat.pow_add,show 32 - n+n=32 by omega]
 have hp:0<2 ^ n:=Nat.two_pow_pos n
 have h1:x / 2 ^ n<2 ^ (32 - n):=by rw[Nat.div_lt_iff_lt_mul hp,← h32];exact hx
 have h2:x % 2 ^ n<2 ^ n:=Nat.mod_lt _ hp
 have h3:x % 2 ^ n*2 ^ (32 - n)+2 ^ (32 - n)≤2 ^ n*2 ^ (32 - n):=by
  rw[← Nat.succ_mul];exact Nat.mul_le_mul_right _ h2
 rw[Nat.mul_comm (2 ^ n)] at h3
 omega
theorem mY (x:UInt32) {n:Nat} (h:n≤32):(rot x n).toNat=x.toNat / 2 ^ n+x.toNat % 2 ^ n*2 ^ (32 - n) :=
 toNat_ofNat32 (tJ _ _ (nj x) h)
theorem rU (x:UInt32) (n:Nat):(shr x n).toNat=x.toNat / 2 ^ n :=
 toNat_ofNat32 (Nat.lt_of_le_of_lt (Nat.div_le_self _ _) (nj x))
theorem wE (a b c d:UInt8):(be a b c d).toNat=a.toNat*16777216+b.toNat*65536+c.toNat*256+d.toNat :=
 toNat_ofNat32 (by have:=lt8 a;have:=lt8 b;have:=lt8 c;have:=lt8 d;omega)
theorem Gz (x:UInt32) (n:Nat) (h:n≤31) (h1:1≤n) :
  bits .or .u32 ((x.toNat:Int) / 2 ^ n) ((x.toNat:Int)*2 ^ (32 - n) % 4294967296)=((rot x n).toNat:Int):=by
 have hx:=nj x
 have h32:(4294967296:Nat)=2 ^ n*2 ^ (32 - n):=by rw[← Nat.pow_add,show n+(32 - n)=32 by omega]
 have hp:0<2 ^ n:=Nat.two_pow_pos n
 have e1:((x.toNat:Int) / 2 ^ n)=((x.toNat / 2 ^ n:Nat):Int):=by
  rw[Int.natCast_ediv,Int.natCast_pow];rfl
 have e2:((x.toNat:Int)*2 ^ (32 - n) % 4294967296)=((x.toNat % 2 ^ n*2 ^ (32 - n):Nat):Int):=by
  have:x.toNat % 2 ^ n*2 ^ (32 - n)=x.toNat*2 ^ (32 - n) % 4294967296:=by
   rw[h32,← Nat.mul_mod_mul_right]
  rw[this,Int.natCast_emod,Int.natCast_mul,Int.natCast_pow];rfl
 have hlt:=tJ x.toNat n hx (by omega)
 have hq:x.toNat / 2 ^ n<2 ^ (32 - n):=by
  rw[Nat.div_lt_iff_lt_mul hp,Nat.mul_comm,← h32];exact hx
 rw[e1,e2,u32_or_nat _ _ (by omega) (by omega),mY x (by omega),Nat.or_comm,
  nat_join (32 - n) _ _ (Nat.mul_mod_left _ _) hq,Nat.add_comm]
theorem DF (x:UInt32):rot x 0=x:=by
 unfold rot;simp [Nat.mod_one]
theorem tI (x n:Nat) (h:n+1≤32) :
  (x / 2 ^ n+x % 2 ^ n*2 ^ (32 - n)) / 2+(x / 2 ^ n+x % 2 ^ n*2 ^ (32 - n)) % 2*2147483648=x / 2 ^ (n+1)+x % 2 ^ (n+1)*2 ^ (32 - (n+1)):=by
 have e:2 ^ (32 - n)=2*2 ^ (32 - (n+1)):=by rw[← Nat.pow_succ'];congr 1;omega
 have e3:2 ^ n*2 ^ (32 - (n+1))=2147483648:=by rw[← Nat.pow_add,show n+(32 - (n+1))=31 by omega]
 have e4:x / 2 ^ (n+1)=x / 2 ^ n / 2:=by rw[Nat.pow_succ,Nat.div_div_eq_div_mul]
 have e5:x % 2 ^ (n+1)=x % 2 ^ n+2 ^ n*(x / 2 ^ n % 2):=by rw[Nat.pow_succ,Nat.mod_mul]
 rw[e,e4,e5,Nat.add_mul,Nat.mul_right_comm (2 ^ n),e3]
 generalize x / 2 ^ n=q
 rw[show x % 2 ^ n*(2*2 ^ (32 - (n+1)))=2*(x % 2 ^ n*2 ^ (32 - (n+1))) by rw[Nat.mul_left_comm]]
 generalize x % 2 ^ n*2 ^ (32 - (n+1))=p
 omega
theorem DG (x:UInt32) (n:Nat) (h:n+1≤32) :
  (((rot x n).toNat:Int) / 2 % 4294967296+((rot x n).toNat:Int) % 2*2147483648) % 4294967296=((rot x (n+1)).toNat:Int):=by
 have hl:=tJ x.toNat (n+1) (nj x) h
 have hs:=tI x.toNat n h
 have hl2:=tJ x.toNat n (nj x) (by omega)
 rw[mY x h,mY x (by omega:n≤32)]
 rw[← hs] at hl ⊢
 generalize x.toNat / 2 ^ n+x.toNat % 2 ^ n*2 ^ (32 - n)=y at *
 omega
theorem AV (a b c d:UInt8) :
  bits .or .u32 (bits .or .u32 (bits .or .u32 ((a.toNat:Int) % 4294967296*16777216 % 4294967296) ((b.toNat:Int) % 4294967296*65536 % 4294967296)) ((c.toNat:Int) % 4294967296*256 % 4294967296)) ((d.toNat:Int) % 4294967296)=((be a b c d).toNat:Int):=by
 have ha:=lt8 a;have hb:=lt8 b;have hc:=lt8 c;have hd:=lt8 d
 rw[wE]
 rw[show ((a.toNat:Int) % 4294967296*16777216 % 4294967296)=((a.toNat*16777216:Nat):Int) by omega,
  show ((b.toNat:Int) % 4294967296*65536 % 4294967296)=((b.toNat*65536:Nat):Int) by omega,
  show ((c.toNat:Int) % 4294967296*256 % 4294967296)=((c.toNat*256:Nat):Int) by omega,
  show ((d.toNat:Int) % 4294967296)=((d.toNat:Nat):Int) by omega]
 rw[u32_or_nat _ _ (by omega) (by omega),nat_join 24 _ _ (by omega) (by omega)]
 rw[u32_or_nat _ _ (by omega) (by omega),nat_join 16 _ _ (by omega) (by omega)]
 rw[u32_or_nat _ _ (by omega) (by omega),nat_join 8 _ _ (by omega) (by omega)]
structure St where
 a:UInt32
 b:UInt32
 c:UInt32
 d:UInt32
 e:UInt32
 f:UInt32
 g:UInt32
 h:UInt32
def St.list (s:St):List UInt32:=[s.a,s.b,s.c,s.d,s.e,s.f,s.g,s.h]
def St.plus (s t:St):St:=⟨s.a+t.a,s.b+t.b,s.c+t.c,s.d+t.d,s.e+t.e,s.f+t.f,s.g+t.g,s.h+t.h⟩
def one (s:St) (c m:UInt32):UInt32:=s.h+(rot s.e 6 ^^^ rot s.e 11 ^^^ rot s.e 25)+((s.e &&& s.f) ^^^ (~~~s.e &&& s.g))+c+m
def two (s:St):UInt32:=(rot s.a 2 ^^^ rot s.a 13 ^^^ rot s.a 22)+((s.a &&& s.b) ^^^ (s.a &&& s.c) ^^^ (s.b &&& s.c))
def rnd (s:St) (c m:UInt32):St:=⟨one s c m+two s,s.a,s.b,s.c,s.d+one s c m,s.e,s.f,s.g⟩
def mix (u v p q:UInt32):UInt32:=u+v+(rot p 7 ^^^ rot p 18 ^^^ shr p 3)+(rot q 17 ^^^ rot q 19 ^^^ shr q 10)
def Eh (bs:List UInt8) (m:List UInt32):UInt32 :=
 if m.length<16 then be (bs.getD (4*m.length) 0) (bs.getD (4*m.length+1) 0) (bs.getD (4*m.length+2) 0) (bs.getD (4*m.length+3) 0)
 else mix (m.getD (m.length - 16) 0) (m.getD (m.length - 7) 0) (m.getD (m.length - 15) 0) (m.getD (m.length - 2) 0)
def words (bs:List UInt8):Nat→List UInt32
 | 0=>[]
 | k+1=>words bs k++[Eh bs (words bs k)]
theorem aH (bs:List UInt8) (k:Nat):(words bs k).length=k:=by
 induction k with
 | zero=>rfl
 | succ k ih=>simp [words,ih]
theorem pg (bs:List UInt8) (k:Nat) (h:k<16):words bs (k+1)=words bs k++[be (bs.getD (4*k) 0) (bs.getD (4*k+1) 0) (bs.getD (4*k+2) 0) (bs.getD (4*k+3) 0)]:=by
 rw[words,Eh,aH,if_pos h]
theorem o9 (bs:List UInt8) (k:Nat) (h:16≤k):words bs (k+1)=words bs k++[mix ((words bs k).getD (k - 16) 0) ((words bs k).getD (k - 7) 0) ((words bs k).getD (k - 15) 0) ((words bs k).getD (k - 2) 0)]:=by
 rw[words,Eh,aH,if_neg (by omega)]
def xT (c m:List UInt32) (s:St):Nat→St
 | 0=>s
 | k+1=>rnd (xT c m s k) (c.getD k 0) (m.getD k 0)
def come (c:List UInt32) (s:St) (bs:List UInt8):St:=s.plus (xT c (words bs 64) s 64)
def run (c:List UInt32) (s:St) (bs:List UInt8):Nat→St
 | 0=>s
 | k+1=>come c (run c s bs k) ((bs.drop (64*k)).take 64)
def pad (n:Nat) (l:List UInt32):List UInt32:=l++List.replicate (n - l.length) 0
theorem xX (n:Nat) (l:List UInt32) (h:l.length≤n):(pad n l).length=n:=by simp [pad];omega
theorem zT (n:Nat) (l:List UInt32) (x:UInt32) (h:l.length<n):(pad n l).set l.length x=pad n (l++[x]):=by
 unfold pad
 rw[List.set_append_right _ _ (Nat.le_refl _),Nat.sub_self,show n - l.length=(n - (l++[x]).length)+1 by simp;omega,List.replicate_succ,List.set_cons_zero]
 simp
theorem zV (n:Nat) (l:List UInt32) (j:Nat) (hj:j<n):(pad n l)[j]? = some (l.getD j 0):=by
 unfold pad
 rcases Nat.lt_or_ge j l.length with h | h
 ·rw[List.getElem?_append_left h];simp [h]
 ·rw[List.getElem?_append_right h,List.getElem?_replicate,if_pos (by omega)];simp [h]
theorem Ea (l:List UInt32):pad l.length l=l:=by simp [pad]
theorem Eo (u v p q:UInt32) :
  ((u.toNat:Int)+v.toNat+bits .xor .u32 (bits .xor .u32 (rot p 7).toNat (rot p 18).toNat) (shr p 3).toNat+bits .xor .u32 (bits .xor .u32 (rot q 17).toNat (rot q 19).toNat) (shr q 10).toNat) % 4294967296=((mix u v p q).toNat:Int):=by
 rw[j5,j5,j5,j5,mix]
 generalize rot p 7 ^^^ rot p 18 ^^^ shr p 3=x
 generalize rot q 17 ^^^ rot q 19 ^^^ shr q 10=y
 rw[UInt32.toNat_add,UInt32.toNat_add,UInt32.toNat_add]
 omega
theorem Nb (e:UInt32):bits .xor .u32 (if IntKind.u32.signed=true then -1 else IntKind.u32.max) (e.toNat:Int)=((~~~e).toNat:Int):=by
 have h:((if IntKind.u32.signed=true then -1 else IntKind.u32.max):Int)=(((4294967295:UInt32).toNat:Nat):Int):=rfl
 rw[h,j5]
 have hx:(4294967295:UInt32) ^^^ e = ~~~e:=by
  apply UInt32.toBitVec_inj.1
  rw[UInt32.toBitVec_xor,UInt32.toBitVec_not]
  exact BitVec.allOnes_xor
 rw[hx]
theorem Mj (e:UInt32):(4294967295:Int) - e.toNat=((~~~e).toNat:Int):=by
 have h:(~~~e).toNat=4294967295 - e.toNat:=by
  rw[← UInt32.toNat_toBitVec,UInt32.toBitVec_not,BitVec.toNat_not]
  rfl
 have:=nj e
 rw[h]
 omega
theorem Ed (a b c d e f g h cc mm:UInt32) :
  ((h.toNat:Int)+bits .xor .u32 (bits .xor .u32 (rot e 6).toNat (rot e 11).toNat) (rot e 25).toNat+bits .xor .u32 (bits .and .u32 e.toNat f.toNat) (bits .and .u32 ((~~~e).toNat:Int) g.toNat)+cc.toNat+mm.toNat) % 4294967296
   = ((one ⟨a,b,c,d,e,f,g,h⟩ cc mm).toNat:Int):=by
 rw[j5,j5,wG,wG,j5]
 unfold one
 dsimp only
 generalize rot e 6 ^^^ rot e 11 ^^^ rot e 25=x
 generalize (e &&& f) ^^^ (~~~e &&& g)=y
 simp only [UInt32.toNat_add]
 omega
theorem Dh (a b c d e f g h:UInt32) :
  (bits .xor .u32 (bits .xor .u32 (rot a 2).toNat (rot a 13).toNat) (rot a 22).toNat+bits .xor .u32 (bits .xor .u32 (bits .and .u32 a.toNat b.toNat) (bits .and .u32 a.toNat c.toNat)) (bits .and .u32 b.toNat c.toNat)) % 4294967296
   = ((two ⟨a,b,c,d,e,f,g,h⟩).toNat:Int):=by
 rw[j5,j5,wG,wG,wG,j5,j5]
 unfold two
 dsimp only
 generalize rot a 2 ^^^ rot a 13 ^^^ rot a 22=x
 generalize (a &&& b) ^^^ (a &&& c) ^^^ (b &&& c)=y
 simp only [UInt32.toNat_add]
 omega
def b4 (x:UInt32):List UInt8:=[UInt8.ofNat (x.toNat / 16777216),UInt8.ofNat (x.toNat / 65536),UInt8.ofNat (x.toNat / 256),UInt8.ofNat x.toNat]
def bytesOf:List UInt32→List UInt8
 | []=>[]
 | x::r=>b4 x++bytesOf r
theorem mK (l:List UInt32) (x:UInt32):bytesOf (l++[x])=bytesOf l++b4 x:=by
 induction l with
 | nil=>simp [bytesOf]
 | cons y r ih=>simp [bytesOf,ih]
theorem bytesOf_length (l:List UInt32):(bytesOf l).length=4*l.length:=by
 induction l with
 | nil=>rfl
 | cons y r ih=>simp [bytesOf,b4,ih];omega
def aS (n:Nat) (l:List UInt8):List UInt8:=l++List.replicate (n - l.length) 0
theorem aB (n:Nat) (l:List UInt8) (h:l.length≤n):(aS n l).length=n:=by simp [aS];omega
theorem eb (n:Nat) (l:List UInt8) (x:UInt8) (h:l.length<n):(aS n l).set l.length x=aS n (l++[x]):=by
 unfold aS
 rw[List.set_append_right _ _ (Nat.le_refl _),Nat.sub_self,show n - l.length=(n - (l++[x]).length)+1 by simp;omega,List.replicate_succ,List.set_cons_zero]
 simp
theorem na (n:Nat) (l:List UInt8) (a b c d:UInt8) (h:l.length+4≤n) :
  ((((aS n l).set l.length a).set (l.length+1) b).set (l.length+2) c).set (l.length+3) d=aS n (l++[a,b,c,d]):=by
 rw[eb n l a (by omega)]
 have h1:=eb n (l++[a]) b (by simp;omega)
 simp only [List.length_append,List.length_cons,List.length_nil,List.append_assoc,List.cons_append,List.nil_append] at h1
 rw[h1]
 have h2:=eb n (l++[a,b]) c (by simp;omega)
 simp only [List.length_append,List.length_cons,List.length_nil,List.append_assoc,List.cons_append,List.nil_append] at h2
 rw[h2]
 have h3:=eb n (l++[a,b,c]) d (by simp;omega)
 simp only [List.length_append,List.length_cons,List.length_nil,List.append_assoc,List.cons_append,List.nil_append] at h3
 exact h3
theorem mB (n:Nat) (l:List UInt8) (j:Nat) (hj:j<n):(aS n l)[j]? = some (l.getD j 0):=by
 unfold aS
 rcases Nat.lt_or_ge j l.length with h | h
 ·rw[List.getElem?_append_left h];simp [h]
 ·rw[List.getElem?_append_right h,List.getElem?_replicate,if_pos (by omega)];simp [h]
theorem ix (l:List UInt8):aS l.length l=l:=by simp [aS]
theorem iu (n:Nat):((n:Int)) % 256=((UInt8.ofNat n).toNat:Int):=by
 rw[UInt8.toNat_ofNat'];omega
theorem iN (x k:Nat):((x:Int)) / (k:Int) % 256=((UInt8.ofNat (x / k)).toNat:Int):=by
 rw[UInt8.toNat_ofNat',Int.natCast_emod,Int.natCast_ediv];rfl
def R0:St:=⟨1779033703,3144134277,1013904242,2773480762,1359893119,2600822924,528734635,1541459225⟩
end Sha
end Go.Proofs.YthbmknpbcgnabaaGreatDoor.Hm
end
section
namespace Go.Proofs.YthbmknpbcgnabaaGreatDoor.Hm
open Go.RowKit
def Row (w:World) (g:Nat) (t:TypeId) (cs:List Value):Prop:=w.heap[g]? = some (.cells cs.toArray t (0,0))
section
variable {w w':World} {g:Nat} {t:TypeId} {cs:List Value}
theorem Row.lt (h:Row w g t cs):g<w.heap.size:=by
 rcases Nat.lt_or_ge g w.heap.size with k | k
 ·exact k
 ·simp [Row,Array.getElem?_eq_none k] at h
theorem Row.cell (h:Row w g t cs) (j:Nat):w.cell? ⟨g,j,none⟩=cs[j]?:=by
 rw[cell_of_row w g j _ t (0,0) h];simp
theorem Row.free (h:Row w g t cs) (j:Nat):w.frozen? ⟨g,j,none⟩=false:=frozen_of_row w g j _ t h
theorem Row.same (h:Row w g t cs) (k:w'.heap[g]? = w.heap[g]?):Row w' g t cs:=k.trans h
theorem Row.drew (h:Row w g t cs):Row w.drew g t cs:=h
theorem Row.drewN (h:Row w g t cs) (n:Nat):Row (w.drewN n) g t cs:=h
theorem Row.alloc (h:Row w g t cs) (o:Obj):Row (w.alloc o) g t cs:=h.same (Below.heap_alloc w o g h.lt)
theorem Row.new (w:World) (t:TypeId) (cs:List Value):Row (w.alloc (.cells cs.toArray t)) w.heap.size t cs:=heap_alloc_new w _
theorem Row.newAt {w:World} {g:Nat} (t:TypeId) (cs:List Value) (h:w.heap.size=g):Row (w.alloc (.cells cs.toArray t)) g t cs:=h ▸ Row.new w t cs
theorem Row.set (h:Row w g t cs) (j:Nat) (u:Value):Row (w.setCell ⟨g,j,none⟩ u) g t (cs.set j u):=by
 have:=heap_setCell_same w g j _ t u h
 unfold Row
 rw[this]
 simp
theorem Row.apart (h:Row w g t cs) {p:Addr} (hp:g≠p.block) (u:Value):Row (w.setCell p u) g t cs:=h.same (heap_setCell_other w p g u hp)
theorem Row.below {B:Nat} (h:Row w g t cs) (hb:Below B w w') (hg:g<B):Row w' g t cs:=h.same (hb.block g hg)
theorem Row.grown {row:Option Nat} (h:Row w g t cs) (hb:w.grownBy w' row) (hg:some g≠row):Row w' g t cs:=h.same (hb.block g h.lt hg)
theorem Row.whole (h:Row w g t cs) (ds:List Value):Row (w.setRow g ds.toArray) g t ds:=setRow_heap w g _ _ t _ h
theorem Row.dG (h:Row w g t cs) {k:Nat} (hk:g≠k) (ds:Array Value):Row (w.setRow k ds) g t cs:=h.same (setRow_other w k g ds hk)
end
theorem jV (w:World) (g:Option Nat):w.grownBy w g:=World.grownBy.refl w g
section
variable {a w w':World} {g:Option Nat}
theorem wy (h:a.grownBy w g) (n:Nat):a.grownBy (w.drewN n) g:=⟨h.os,h.tape,h.output,h.size,h.block⟩
theorem iw (h:a.grownBy w g):a.grownBy w.drew g:=⟨h.os,h.tape,h.output,h.size,h.block⟩
theorem eW (h:a.grownBy w g) (k:w.grownBy w' g):a.grownBy w' g :=
 ⟨k.os.trans h.os,k.tape.trans h.tape,k.output.trans h.output,Nat.le_trans h.size k.size,fun i hi hn=>(k.block i (Nat.lt_of_lt_of_le hi h.size) hn).trans (h.block i hi hn)⟩
theorem jB (h:a.grownBy w g) (o:Obj):a.grownBy (w.alloc o) g:=eW h (World.grownBy_alloc w o g)
theorem qw (h:a.grownBy w g) (k:Below w.heap.size w w'):a.grownBy w' g:=eW h ⟨k.os,k.tape,k.output,k.size,fun i hi _=>k.block i hi⟩
theorem iP (h:a.grownBy w g) {p:Addr} (hp:g=some p.block∨a.heap.size≤p.block) (u:Value):a.grownBy (w.setCell p u) g:=by
 refine⟨h.os,h.tape,h.output,by simpa [World.setCell] using h.size,fun i hi hn=>?_⟩
 rw[heap_setCell_other w p i u (fun e=>by
  rcases hp with hp | hp
  ·exact hn (by rw[hp,e])
  ·omega)]
 exact h.block i hi hn
theorem iA (h:a.grownBy w g) {k:Nat} (hp:g=some k∨a.heap.size≤k) (ds:Array Value):a.grownBy (w.setRow k ds) g:=by
 refine⟨h.os,h.tape,h.output,by simpa using h.size,fun i hi hn=>?_⟩
 rw[setRow_other w k i ds (fun e=>by
  rcases hp with hp | hp
  ·exact hn (by rw[hp,e])
  ·omega)]
 exact h.block i hi hn
theorem ou (h:a.grownBy w none):Below a.heap.size a w:=⟨h.os,h.tape,h.output,h.size,fun i hi=>h.block i hi (by simp)⟩
theorem kK(h:Below a.heap.size a w) (g:Option Nat):a.grownBy w g:=⟨h.os,h.tape,h.output,h.size,fun i hi _=>h.block i hi⟩
theorem below_drewN {B:Nat} (h:Below B a w) (n:Nat):Below B a (w.drewN n):=⟨h.os,h.tape,h.output,h.size,h.block⟩
theorem ag {B:Nat} (h:Below B a w) {k:Nat} (hk:B≤k) (ds:Array Value):Below B a (w.setRow k ds):=below_setRow h hk ds
end
def ah (w:World) (b off:Nat) (xs:List Value):Prop:=∀ j u,xs[j]? = some u→w.cell? ⟨b,off+j,none⟩=some u
section
variable {w w':World} {b off:Nat} {xs:List Value}
theorem ah.at_ (h:ah w b off xs) {j:Nat} {u:Value} (hj:xs[j]? = some u):w.cell? ⟨b,off+j,none⟩=some u:=h j u hj
theorem ah.same (h:ah w b off xs) (k:w'.heap[b]? = w.heap[b]?):ah w' b off xs:=fun j u hu=>(World.cell?_of_block (w:=w) k).trans (h j u hu)
theorem ah.below {B:Nat} (h:ah w b off xs) (hb:Below B w w') (hB:b<B):ah w' b off xs:=h.same (hb.block b hB)
theorem ah.grown {row:Option Nat} (h:ah w b off xs) (hb:w.grownBy w' row) (hl:b<w.heap.size) (hg:some b≠row):ah w' b off xs:=h.same (hb.block b hl hg)
theorem ah.alloc (h:ah w b off xs) (hl:b<w.heap.size) (o:Obj):ah (w.alloc o) b off xs:=h.same (Below.heap_alloc w o b hl)
theorem ah.piece (h:ah w b off xs) (i n:Nat):ah w b (off+i) ((xs.drop i).take n):=fun j u hu=>by
 rw[Nat.add_assoc]
 refine h _ u ?_
 rw[List.getElem?_take] at hu
 split at hu
 ·rwa [List.getElem?_drop] at hu
 ·cases hu
theorem ah.tail (h:ah w b off xs) (i:Nat):ah w b (off+i) (xs.drop i):=fun j u hu=>by
 rw[Nat.add_assoc]
 exact h _ u (by rwa [List.getElem?_drop] at hu)
theorem Row.sees {g:Nat} {t:TypeId} {cs:List Value} (h:Row w g t cs):ah w g 0 cs:=fun j u hu=>by
 rw[Nat.zero_add,h.cell];exact hu
theorem ah.lt (h:ah w b off xs) (hp:0<xs.length):b<w.heap.size:=by
 have hc:=h 0 _ (List.getElem?_eq_getElem hp)
 rcases Nat.lt_or_ge b w.heap.size with k | k
 ·exact k
 ·simp [World.cell?,Array.getElem?_eq_none k] at hc
theorem ah.nil:ah w b off []:=fun j u hu=>by simp at hu
end
theorem gA {P:Program} {c:Code} {Q:Exit→Act→World→Prop} {a:Act} {w:World} (F:World→Prop) (h:F w) (k:∀ w2,F w2→c.wp P Q a w2):c.wp P Q a w:=k w h
end Go.Proofs.YthbmknpbcgnabaaGreatDoor.Hm
end
section
namespace Go.Proofs.YthbmknpbcgnabaaGreatDoor.Hm
namespace Sha
def be8 (L:Nat):List UInt8:=[UInt8.ofNat (L / 256 ^ 7),UInt8.ofNat (L / 256 ^ 6),UInt8.ofNat (L / 256 ^ 5),UInt8.ofNat (L / 256 ^ 4),UInt8.ofNat (L / 256 ^ 3),UInt8.ofNat (L / 256 ^ 2),UInt8.ofNat (L / 256),UInt8.ofNat L]
def filled (b:List UInt8):List UInt8:=b++[128]++List.replicate ((119 - b.length % 64) % 64) 0++be8 (8*b.length)
theorem lz (b:List UInt8):(filled b).length=b.length+1+(119 - b.length % 64) % 64+8:=by simp [filled,be8];omega
theorem yz (b:List UInt8):(filled b).length % 64=0:=by rw[lz];omega
def bu (n:Nat):Nat:=if 64<n+1+8 then 128 else 64
def lays (row:List UInt8) (size L:Nat):Nat→List UInt8
 | 0=>row
 | j+1=>(lays row size L j).set (size - (j+1)) (UInt8.ofNat (L / 256 ^ j))
theorem kB (row:List UInt8) (size L j:Nat):(lays row size L j).length=row.length:=by
 induction j with
 | zero=>rfl
 | succ j ih=>simp [lays,ih]
theorem iX (A X:List UInt8) (i k:Nat) (v:UInt8) (h:i=A.length+k):(A++X).set i v=A++X.set k v:=by
 subst h
 rw[List.set_append_right _ _ (by omega),Nat.add_sub_cancel_left]
theorem Ex (A B:List UInt8) (size L:Nat) (h:A.length+8=size) :
  lays (A++([0,0,0,0,0,0,0,0]++B)) size L 8=A++(be8 L++B):=by
 simp only [lays]
 rw[iX A _ _ 7 _ (by omega),iX A _ _ 6 _ (by omega),iX A _ _ 5 _ (by omega),iX A _ _ 4 _ (by omega),iX A _ _ 3 _ (by omega),iX A _ _ 2 _ (by omega),iX A _ _ 1 _ (by omega),iX A _ _ 0 _ (by omega)]
 simp [be8]
def ended (rest:List UInt8) (total:Nat):List UInt8:=lays (aS 128 (rest++[128])) (bu rest.length) (8*total) 8
theorem dX (rest:List UInt8) (total:Nat) (h:rest.length<64):(ended rest total).length=128:=by
 rw[ended,kB,aB];simp;omega
theorem x6 (l:List UInt8) (m:Nat) (hl:l.length≤m) (hm:m+8≤128):aS 128 l=aS m l++([0,0,0,0,0,0,0,0]++List.replicate (120 - m) 0):=by
 have e8:([0,0,0,0,0,0,0,0]:List UInt8)=List.replicate 8 0:=rfl
 rw[e8,aS,aS,List.append_assoc,← List.append_assoc (List.replicate _ _),List.replicate_append_replicate,List.replicate_append_replicate]
 congr 2
 omega
theorem yB (rest:List UInt8) (total:Nat) (h:rest.length<64) :
  (ended rest total).take (bu rest.length)=rest++[128]++List.replicate ((119 - rest.length) % 64) 0++be8 (8*total):=by
 have hs:bu rest.length=64∧rest.length≤55∨bu rest.length=128∧55<rest.length:=by
  unfold bu;split
  ·right;omega
  ·left;omega
 have key:∀ m,rest.length+1≤m→m+8≤128→m - (rest.length+1)=(119 - rest.length) % 64→bu rest.length=m+8 →
   (ended rest total).take (bu rest.length)=rest++[128]++List.replicate ((119 - rest.length) % 64) 0++be8 (8*total):=by
  intro m h1 h2 h3 h4
  rw[ended,h4,x6 _ m (by simp;omega) h2,Ex _ _ _ _ (by rw[aB _ _ (by simp;omega)])]
  rw[← List.append_assoc,List.take_append_of_le_length (by rw[List.length_append,aB _ _ (by simp;omega)];simp [be8])]
  rw[List.take_of_length_le (by rw[List.length_append,aB _ _ (by simp;omega)];simp [be8])]
  rw[aS]
  simp only [List.length_append,List.length_cons,List.length_nil,Nat.zero_add]
  rw[h3]
 rcases hs with ⟨e,hl⟩ | ⟨e,hl⟩
 ·exact key 56 (by omega) (by omega) (by omega) (by rw[e])
 ·exact key 120 (by omega) (by omega) (by omega) (by rw[e])
theorem lM (c:List UInt32) (s:St) (x y:List UInt8) (q:Nat) (h:64*q≤x.length):run c s (x++y) q=run c s x q:=by
 induction q with
 | zero=>rfl
 | succ q ih =>
  rw[run,run,ih (by omega),List.drop_append_of_le_length (by omega),List.take_append_of_le_length (by simp;omega)]
theorem xQ (c:List UInt32) (s:St) (x y:List UInt8) (q j:Nat) (h:x.length=64*q):run c s (x++y) (q+j)=run c (run c s x q) y j:=by
 induction j with
 | zero=>rw[Nat.add_zero,lM c s x y q (by omega)];rfl
 | succ j ih =>
  rw[← Nat.add_assoc,run,ih,run]
  congr 2
  rw[Nat.mul_add,← h,List.drop_append]
  rw[List.drop_of_length_le (by omega),List.nil_append]
  congr 1
  omega
def rP (c:List UInt32) (b:List UInt8):St:=run c R0 (filled b) ((filled b).length / 64)
theorem rO (c:List UInt32) (b:List UInt8) :
  run c (run c R0 b (b.length / 64)) (ended (b.drop (64*(b.length / 64))) b.length) (bu (b.length % 64) / 64)=rP c b:=by
 have hr:(b.drop (64*(b.length / 64))).length=b.length % 64:=by rw[List.length_drop];omega
 have ht:=yB (b.drop (64*(b.length / 64))) b.length (by rw[hr];omega)
 rw[hr] at ht
 have hf:filled b=b.take (64*(b.length / 64))++(ended (b.drop (64*(b.length / 64))) b.length).take (bu (b.length % 64)):=by
  rw[ht,filled]
  simp only [← List.append_assoc,List.take_append_drop]
 have hq:(b.take (64*(b.length / 64))).length=64*(b.length / 64):=by rw[List.length_take];omega
 have hsz:bu (b.length % 64)=64∨bu (b.length % 64)=128:=by unfold bu;split <;> omega
 have hel:(ended (b.drop (64*(b.length / 64))) b.length).length=128:=dX _ _ (by rw[hr];omega)
 have hd:(filled b).length / 64=b.length / 64+bu (b.length % 64) / 64:=by
  rw[hf,List.length_append,hq,List.length_take,hel]
  rcases hsz with e | e <;> rw[e] <;> omega
 rw[rP,hd,hf,xQ c R0 _ _ _ _ hq]
 have e1:run c R0 (b.take (64*(b.length / 64))) (b.length / 64)=run c R0 b (b.length / 64):=by
  rw[← lM c R0 _ (b.drop (64*(b.length / 64))) _ (by omega),List.take_append_drop]
 rw[e1]
 have e2:=lM c (run c R0 b (b.length / 64)) ((ended (b.drop (64*(b.length / 64))) b.length).take (bu (b.length % 64))) ((ended (b.drop (64*(b.length / 64))) b.length).drop (bu (b.length % 64))) (bu (b.length % 64) / 64)
  (by rw[List.length_take,hel];rcases hsz with e | e <;> rw[e] <;> omega)
 rw[← e2,List.take_append_drop]
end Sha
end Go.Proofs.YthbmknpbcgnabaaGreatDoor.Hm
end
section
namespace Go.Proofs.YthbmknpbcgnabaaGreatDoor.Hm
namespace Sha
def bh (n:Nat):List Nat:=[n % 65536,n / 65536 % 65536,n / 4294967296 % 65536,n / 281474976710656]
def cB (a b:List Nat) (out:List Nat) (i:Nat):Nat→List Nat × Nat
 | 0=>(out,0)
 | k+1=>match cB a b out i k with
  | (o,c)=>match (o.getD (i+k) 0+a.getD i 0*b.getD k 0+c) % 18446744073709551616 with
   | n=>(o.set (i+k) (n % 65536),n / 65536)
def eZ (a b:List Nat):Nat→List Nat
 | 0=>List.replicate (a.length+b.length) 0
 | i+1=>match cB a b (eZ a b i) i b.length with
  | (o,c)=>o.set (i+b.length) ((o.getD (i+b.length) 0+c) % 18446744073709551616)
def bV (a b:List Nat):List Nat:=eZ a b a.length
def jW (a b:List Nat):Nat→Bool
 | 0=>true
 | i+1=>if a.getD i 0=b.getD i 0 then jW a b i else decide (b.getD i 0<a.getD i 0)
def jX (a:List Nat) (n zeros:Nat):Bool:=jW a (List.replicate zeros 0++bh n) (a.length+(zeros+4))
def th (n:Nat) (yE:Bool) (y:List Nat):Bool:=if yE then jX (bV (bV y y) y) n 6 else jX (bV y y) n 4
def fF (n:Nat) (yE:Bool):Nat→Nat
 | 0=>0
 | j+1=>match fF n yE j with
  | x=>if th n yE (bh (x+2 ^ (40 - j))) then x else x+2 ^ (40 - j)
def ax (n:Nat) (yE:Bool):Nat:=fF n yE 41 % 4294967296
def kT (n:Nat):Nat→Nat→Bool
 | 0,_=>true
 | f+1,d=>if d*d≤n then (if n % d=0 then false else kT n f (d+1)) else true
def gU (n:Nat):Bool:=kT n n 2
def bW:Nat→List Nat
 | 0=>[]
 | k+1=>if gU (k+2) then bW k++[k+2] else bW k
def K0:List UInt32:=[1116352408,1899447441,3049323471,3921009573,961987163,1508970993,2453635748,2870763221,3624381080,310598401,607225278,1426881987,1925078388,2162078206,2614888103,3248222580,3835390401,4022224774,264347078,604807628,770255983,1249150122,1555081692,1996064986,2554220882,2821834349,2952996808,3210313671,3336571891,3584528711,113926993,338241895,666307205,773529912,1294757372,1396182291,1695183700,1986661051,2177026350,2456956037,2730485921,2820302411,3259730800,3345764771,3516065817,3600352804,4094571909,275423344,430227734,506948616,659060556,883997877,958139571,1322822218,1537002063,1747873779,1955562222,2024104815,2227730452,2361852424,2428436474,2756734187,3204031479,3329325298]
theorem gi:K0.length=64:=rfl
def jQ (k:Nat):List UInt32:=(bW k).map fun p=>UInt32.ofNat (ax p true)
def lN (k:Nat):List UInt32:=((bW k).take 8).map fun p=>UInt32.ofNat (ax p false)
set_option maxRecDepth 100000
theorem xV:∀ k<310,(bW k).length<64:=by decide +kernel
theorem n4:bW 310=[2,3,5,7,11,13,17,19,23,29,31,37,41,43,47,53,59,61,67,71,73,79,83,89,97,101,103,107,109,113,127,131,137,139,149,151,157,163,167,173,179,181,191,193,197,199,211,223,227,229,233,239,241,251,257,263,269,271,277,281,283,293,307,311]:=by decide +kernel
theorem rc2:ax 2 true=1116352408:=by decide +kernel
theorem rc3:ax 3 true=1899447441:=by decide +kernel
theorem rc5:ax 5 true=3049323471:=by decide +kernel
theorem rc7:ax 7 true=3921009573:=by decide +kernel
theorem PN:ax 11 true=961987163:=by decide +kernel
theorem PM:ax 13 true=1508970993:=by decide +kernel
theorem PL:ax 17 true=2453635748:=by decide +kernel
theorem PK:ax 19 true=2870763221:=by decide +kernel
theorem PJ:ax 23 true=3624381080:=by decide +kernel
theorem PI:ax 29 true=310598401:=by decide +kernel
theorem PH:ax 31 true=607225278:=by decide +kernel
theorem PG:ax 37 true=1426881987:=by decide +kernel
theorem PE:ax 41 true=1925078388:=by decide +kernel
theorem rc43:ax 43 true=2162078206:=by decide +kernel
theorem PD:ax 47 true=2614888103:=by decide +kernel
theorem PC:ax 53 true=3248222580:=by decide +kernel
theorem PB:ax 59 true=3835390401:=by decide +kernel
theorem PA:ax 61 true=4022224774:=by decide +kernel
theorem Pz:ax 67 true=264347078:=by decide +kernel
theorem Py:ax 71 true=604807628:=by decide +kernel
theorem Px:ax 73 true=770255983:=by decide +kernel
theorem Pw:ax 79 true=1249150122:=by decide +kernel
theorem Pv:ax 83 true=1555081692:=by decide +kernel
theorem Pu:ax 89 true=1996064986:=by decide +kernel
theorem Pt:ax 97 true=2554220882:=by decide +kernel
theorem rc101:ax 101 true=2821834349:=by decide +kernel
theorem M9:ax 103 true=2952996808:=by decide +kernel
theorem M8:ax 107 true=3210313671:=by decide +kernel
theorem M7:ax 109 true=3336571891:=by decide +kernel
theorem rc113:ax 113 true=3584528711:=by decide +kernel
theorem M6:ax 127 true=113926993:=by decide +kernel
theorem M5:ax 131 true=338241895:=by decide +kernel
theorem M4:ax 137 true=666307205:=by decide +kernel
theorem M3:ax 139 true=773529912:=by decide +kernel
theorem M1:ax 149 true=1294757372:=by decide +kernel
theorem M0:ax 151 true=1396182291:=by decide +kernel
theorem MZ:ax 157 true=1695183700:=by decide +kernel
theorem MY:ax 163 true=1986661051:=by decide +kernel
theorem rc167:ax 167 true=2177026350:=by decide +kernel
theorem MX:ax 173 true=2456956037:=by decide +kernel
theorem MW:ax 179 true=2730485921:=by decide +kernel
theorem MV:ax 181 true=2820302411:=by decide +kernel
theorem MU:ax 191 true=3259730800:=by decide +kernel
theorem MT:ax 193 true=3345764771:=by decide +kernel
theorem MS:ax 197 true=3516065817:=by decide +kernel
theorem MQ:ax 199 true=3600352804:=by decide +kernel
theorem MP:ax 211 true=4094571909:=by decide +kernel
theorem MO:ax 223 true=275423344:=by decide +kernel
theorem MN:ax 227 true=430227734:=by decide +kernel
theorem MM:ax 229 true=506948616:=by decide +kernel
theorem ML:ax 233 true=659060556:=by decide +kernel
theorem MJ:ax 239 true=883997877:=by decide +kernel
theorem MI:ax 241 true=958139571:=by decide +kernel
theorem MH:ax 251 true=1322822218:=by decide +kernel
theorem MG:ax 257 true=1537002063:=by decide +kernel
theorem MF:ax 263 true=1747873779:=by decide +kernel
theorem ME:ax 269 true=1955562222:=by decide +kernel
theorem MD:ax 271 true=2024104815:=by decide +kernel
theorem MC:ax 277 true=2227730452:=by decide +kernel
theorem MA:ax 281 true=2361852424:=by decide +kernel
theorem Mz:ax 283 true=2428436474:=by decide +kernel
theorem My:ax 293 true=2756734187:=by decide +kernel
theorem Mx:ax 307 true=3204031479:=by decide +kernel
theorem Mw:ax 311 true=3329325298:=by decide +kernel
theorem rr2:ax 2 false=1779033703:=by decide +kernel
theorem rr3:ax 3 false=3144134277:=by decide +kernel
theorem rr5:ax 5 false=1013904242:=by decide +kernel
theorem rr7:ax 7 false=2773480762:=by decide +kernel
theorem Ps:ax 11 false=1359893119:=by decide +kernel
theorem Pr:ax 13 false=2600822924:=by decide +kernel
theorem Pq:ax 17 false=528734635:=by decide +kernel
theorem Pp:ax 19 false=1541459225:=by decide +kernel
theorem xS:jQ 310=K0:=by
 unfold jQ
 rw[n4]
 simp only [List.map_cons,List.map_nil,rc2,rc3,rc5,rc7,PN,PM,PL,PK,PJ,PI,PH,PG,PE,rc43,PD,PC,PB,PA,Pz,Py,Px,Pw,Pv,Pu,Pt,rc101,M9,M8,M7,rc113,M6,M5,M4,M3,M1,M0,MZ,MY,rc167,MX,MW,MV,MU,MT,MS,MQ,MP,MO,MN,MM,ML,MJ,MI,MH,MG,MF,ME,MD,MC,MA,Mz,My,Mx,Mw]
 rfl
theorem xR:lN 310=R0.list:=by
 unfold lN
 rw[n4]
 simp only [List.take_succ_cons,List.take_zero,List.map_cons,List.map_nil,rr2,rr3,rr5,rr7,Ps,Pr,Pq,Pp]
 rfl
end Sha
end Go.Proofs.YthbmknpbcgnabaaGreatDoor.Hm
end
section
namespace Go.Proofs.YthbmknpbcgnabaaGreatDoor.Hm
namespace Sha
end Sha
end Go.Proofs.YthbmknpbcgnabaaGreatDoor.Hm
end
