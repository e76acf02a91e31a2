/- Of the walk. -/
import Derived.Laws.ResultCell
import Derived.Test.YthbmknpbcgnabaaGreatDoorB02
set_option maxHeartbeats 40000000
section
namespace Go.Proofs.YthbmknpbcgnabaaGreatDoor.Hm
open Go.RowKit Sha
structure Slc (w:World) (B:Nat) (A:Option Addr) (n:Nat) (xs:List Value):Prop where
 len:xs.length=n
 some_:0<n→∃ b o,A=some ⟨b,o,none⟩∧b<B∧ah w b o xs
def gG:List Value:=List.replicate 128 (.int .u8 0)
theorem gF:gG.length=128:=List.length_replicate
theorem oU (w:World):(zeroValue 251).run Tryz.prog w=.ok (.agg gG.toArray) w:=by kernel_rfl
theorem copied (rest:List UInt8):splice gG 0 (rest.map V8)=(aS 128 rest).map V8:=by
 rw[gG,splice,aS,List.take_zero,List.nil_append,Nat.zero_add,List.length_map,List.drop_replicate,List.map_append,List.map_replicate]
 rfl
theorem e9 {P:Program} {fn:Func} {p u:Tmp} {ty:TypeId} (h:fn.results=#[.cell p ty,.tmp u]) (tmps:Array Value) (w:World) (g:Nat) (t:TypeId) (cs:Array Value) (fr:Nat × Nat) (d:TypeDesc)
  (hp:tmps.getD p undef=.pointer (some ⟨g,0,none⟩)) (hg:w.heap[g]? = some (.cells cs t fr))
  (hu:P.underlying ty=some d) (hd:(match d with | .struct _ | .array _ _=>true | _=>false)=true) (hi:(P.info? ty).map (·.size)=some cs.size) :
  (results fn tmps).run P w=.ok (.tuple #[.agg cs,tmps.getD u undef]) w:=by
 rw[results_cell_tmp h,hp]
 simp [asAddr,run_loadVar_row w g t ty cs fr d hg hu hd hi]
theorem qj:(Tryz.prog.info? 5).map (·.size)=some 1:=by kernel_rfl
theorem qC {w1:World} {g:Nat} {xs:List Value} {rest:List UInt8} (HX:Hid (xs=rest.map V8)) (hn:xs.length<64) (Hg:Hid (w1.heap[g]? = some (.cells (splice gG 0 xs).toArray 251 (0,0)))) :
  Hid (Row w1 g 251 ((aS 128 rest).map V8))∧(∃ v,w1.cell? ⟨g,xs.length,none⟩=some v)∧w1.frozen? ⟨g,xs.length,none⟩=false:=by
 rw[HX.out,copied] at Hg
 have hr:Row w1 g 251 ((aS 128 rest).map V8):=Hg.out
 exact⟨hr,⟨_,qu hr _ (by omega)⟩,hr.free _⟩
set_option maxRecDepth 100000
theorem BC (A:Option Addr) (n cap total:Nat) (rest:List UInt8) (w:World) (h:Slc w w.heap.size A n (rest.map V8)) (hn:n<64) (hsz:n≤55) (ht:total≤1000000) :
  Calls Tryz.prog 164 #[.slice A n cap,.int .i64 total] w fun e w'=>e=.returned (.tuple #[.agg ((ended rest total).map V8).toArray,.int .i64 (bu n)])∧Below w.heap.size w w':=by
 have Hn:Hid (rest.length=n):=by have:=h.len;rw[List.length_map] at this;exact this
 have h1:∀ v∈rest.map V8,v.oneCell'=true:=fun v hv=>by obtain ⟨x,_,rfl⟩:=List.mem_map.1 hv;rfl
 obtain ⟨xs,hxs⟩:∃ xs,xs=rest.map V8:=⟨_,rfl⟩
 have HX:=ae hxs
 rw[← hxs] at h h1
 clear hxs
 obtain rfl:xs.length=n:=h.len
 have K1:Hid (xs.length=Nat.min xs.length 128):=by rw[show Nat.min xs.length 128=xs.length from Nat.min_eq_left (by omega)];rfl
 have K2:Hid (0<xs.length→(some (⟨w.heap.size,0,none⟩:Addr))=some ⟨w.heap.size,0,none⟩∧∃ ad,A=some ad∧∀ j v,xs[j]? = some v→(w.alloc (.cells gG.toArray 251)).cell? (ad.add j)=some v):=by
  intro hp
  obtain ⟨b,o,e,hl,hs⟩:=h.some_ hp
  refine⟨rfl,_,e,fun j v hv=>?_⟩
  have KU:(⟨b,o,none⟩:Addr).add j=⟨b,o+j,none⟩:=by unfold Addr.add;split <;> simp_all
  rw[KU]
  exact hs.alloc hl _ j v hv
 have K3:Hid (0+xs.length≤gG.length):=by show _≤_;rw[gF];omega
 have K4:=ae h1
 have K5:Hid (Below w.heap.size w (w.alloc (.cells gG.toArray 251))):=(Below.refl _ _).alloc (Nat.le_refl _) _
 have HSZ:Hid (bu xs.length=64):=by show _=_;unfold bu;rw[if_neg (by omega)]
 clear h1 h
 have hz:=oU
 have hd:decide ((64:Int)<(xs.length:Int)+1+8)=false:=by simp;omega
 go_enter Tryz.func164,Tryz.ntmps164
 go_wp2_with (refine wpList_copy_splice rfl (.tmp 9) (.tmp 10) 22 22 rfl 5 Tryz.underlying22 qj _ A 128 128 xs.length cap rfl rfl w.heap.size 0 gG 251 (Row.new w _ gG) xs K1.out K2.out K3.out K4.out w.heap.size w K5.out (Nat.le_refl _) ?_;intro w1 Hg1 hb1;obtain ⟨Hr1,⟨v1,c1⟩,f1⟩:=qC HX hn Hg1;clear Hg1 K1 K2 K3 K4 K5 hz)
 go_loopw [7,8] (fun l i wr=>∃ k X:Nat,k≤8∧i=.int .i64 ((k:Int)+1)∧l=.int .u64 X∧Hid (X=8*total / 256 ^ k)∧Row wr w.heap.size 251 ((lays (aS 128 (rest++[128])) 64 (8*total) k).map V8)∧Below w.heap.size w wr) (fun _ i _=>9 - (intOf i).toNat)
 case atStart =>
  refine⟨0,total*8,by omega,rfl,by go_num,?_,?_,hb1.setCell (Nat.le_refl _) _⟩
  ·show _=_;rw[Nat.pow_zero,Nat.div_one,Nat.mul_comm]
  ·have:=Hr1.out.set xs.length (V8 128)
   rw[← List.map_set,← Hn.out,eb _ _ _ (by rw[Hn.out];omega),Hn.out] at this
   exact this
 case round =>
  clear c1 f1 Hr1 hb1 hd
  obtain ⟨k,X,hk,rfl,rfl,HXk,hrow,ak⟩:=hrel
  by_cases hlt:k<8
  ·obtain ⟨v,hc⟩:∃ v,wr.cell? ⟨w.heap.size,63 - k,none⟩=some v:=by
    refine⟨((lays (aS 128 (rest++[128])) 64 (8*total) k).map V8)[63 - k]'?_,?_⟩
    ·rw[List.length_map,kB,aB _ _ (by rw[List.length_append,Hn.out];simp;omega)];omega
    ·rw[hrow.cell,List.getElem?_eq_getElem]
   have hf:=hrow.free (63 - k)
   go_wp2
   go_roundw
   case rel =>
    refine⟨k+1,X / 256,by omega,by go_num,by go_num,?_,?_,ak.setCell (Nat.le_refl _) _⟩
    ·show _=_;rw[HXk.out,Nat.div_div_eq_div_mul,Nat.pow_succ]
    ·have:=hrow.set (63 - k) (V8 (UInt8.ofNat X))
     rw[← List.map_set] at this
     rw[iu,lays,show 64 - (k+1)=63 - k by omega,← HXk.out]
     exact this
   case measure=>simp [intOf];omega
  ·obtain rfl:k=8:=by omega
   have HE:Hid ((lays (aS 128 (rest++[128])) 64 (8*total) 8).map V8=(ended rest total).map V8):=by show _=_;rw[ended,Hn.out,HSZ.out]
   rw[HE.out] at hrow
   have aN:=ae (ku (ended rest total))
   have Hsz:Hid (((ended rest total).map V8).toArray.size=128):=by show _=_;rw[List.size_toArray,List.length_map,dX _ _ (by rw[Hn.out];omega)]
   have dR:=ae hrow
   clear HE hrow
   generalize hrs:(ended rest total).map V8=rs at *
   have HRS:=ae hrs
   clear hrs
   rw[show ((8:Nat):Int)=8 from rfl]
   go_wp2_with (first
    | (refine wpList_load_row rfl 251 (.tmp 4) rfl w.heap.size rfl 251 rs.toArray (0,0) _ dR.out Tryz.underlying251 rfl (by rw[Hsz.out];kernel_rfl) ?_)
    | (refine wpList_store_row rfl 251 (.tmp 4) (.tmp 33) rfl w.heap.size rs.toArray rfl rfl 251 _ dR.out (by rw[Hsz.out];kernel_rfl) rfl aN.out ?_))
   have bj:=dR.out.whole rs
   have hinfo:(Tryz.prog.info? 251).map (·.size)=some rs.toArray.size:=by rw[Hsz.out];kernel_rfl
   refine bodyPost_ret (v:=.tuple #[.agg rs.toArray,.int .i64 64]) (e9 (p:=4) (u:=5) rfl _ _ w.heap.size 251 rs.toArray (0,0) _ rfl bj Tryz.underlying251 rfl hinfo) rfl ?_
   refine⟨?_,ag ak (Nat.le_refl _) _⟩
   rw[HRS.out,HSZ.out]
   rfl
theorem xZ (A:Option Addr) (n cap total:Nat) (rest:List UInt8) (w:World) (h:Slc w w.heap.size A n (rest.map V8)) (hn:n<64) (hsz:55<n) (ht:total≤1000000) :
  Calls Tryz.prog 164 #[.slice A n cap,.int .i64 total] w fun e w'=>e=.returned (.tuple #[.agg ((ended rest total).map V8).toArray,.int .i64 (bu n)])∧Below w.heap.size w w':=by
 have Hn:Hid (rest.length=n):=by have:=h.len;rw[List.length_map] at this;exact this
 have h1:∀ v∈rest.map V8,v.oneCell'=true:=fun v hv=>by obtain ⟨x,_,rfl⟩:=List.mem_map.1 hv;rfl
 obtain ⟨xs,hxs⟩:∃ xs,xs=rest.map V8:=⟨_,rfl⟩
 have HX:=ae hxs
 rw[← hxs] at h h1
 clear hxs
 obtain rfl:xs.length=n:=h.len
 have K1:Hid (xs.length=Nat.min xs.length 128):=by rw[show Nat.min xs.length 128=xs.length from Nat.min_eq_left (by omega)];rfl
 have K2:Hid (0<xs.length→(some (⟨w.heap.size,0,none⟩:Addr))=some ⟨w.heap.size,0,none⟩∧∃ ad,A=some ad∧∀ j v,xs[j]? = some v→(w.alloc (.cells gG.toArray 251)).cell? (ad.add j)=some v):=by
  intro hp
  obtain ⟨b,o,e,hl,hs⟩:=h.some_ hp
  refine⟨rfl,_,e,fun j v hv=>?_⟩
  have KU:(⟨b,o,none⟩:Addr).add j=⟨b,o+j,none⟩:=by unfold Addr.add;split <;> simp_all
  rw[KU]
  exact hs.alloc hl _ j v hv
 have K3:Hid (0+xs.length≤gG.length):=by show _≤_;rw[gF];omega
 have K4:=ae h1
 have K5:Hid (Below w.heap.size w (w.alloc (.cells gG.toArray 251))):=(Below.refl _ _).alloc (Nat.le_refl _) _
 have HSZ:Hid (bu xs.length=128):=by show _=_;unfold bu;rw[if_pos (by omega)]
 clear h1 h
 have hz:=oU
 have hd:decide ((64:Int)<(xs.length:Int)+1+8)=true:=by simp;omega
 go_enter Tryz.func164,Tryz.ntmps164
 go_wp2_with (refine wpList_copy_splice rfl (.tmp 9) (.tmp 10) 22 22 rfl 5 Tryz.underlying22 qj _ A 128 128 xs.length cap rfl rfl w.heap.size 0 gG 251 (Row.new w _ gG) xs K1.out K2.out K3.out K4.out w.heap.size w K5.out (Nat.le_refl _) ?_;intro w1 Hg1 hb1;obtain ⟨Hr1,⟨v1,c1⟩,f1⟩:=qC HX hn Hg1;clear Hg1 K1 K2 K3 K4 K5 hz)
 go_loopw [7,8] (fun l i wr=>∃ k X:Nat,k≤8∧i=.int .i64 ((k:Int)+1)∧l=.int .u64 X∧Hid (X=8*total / 256 ^ k)∧Row wr w.heap.size 251 ((lays (aS 128 (rest++[128])) 128 (8*total) k).map V8)∧Below w.heap.size w wr) (fun _ i _=>9 - (intOf i).toNat)
 case atStart =>
  refine⟨0,total*8,by omega,rfl,by go_num,?_,?_,hb1.setCell (Nat.le_refl _) _⟩
  ·show _=_;rw[Nat.pow_zero,Nat.div_one,Nat.mul_comm]
  ·have:=Hr1.out.set xs.length (V8 128)
   rw[← List.map_set,← Hn.out,eb _ _ _ (by rw[Hn.out];omega),Hn.out] at this
   exact this
 case round =>
  clear c1 f1 Hr1 hb1 hd
  obtain ⟨k,X,hk,rfl,rfl,HXk,hrow,ak⟩:=hrel
  by_cases hlt:k<8
  ·obtain ⟨v,hc⟩:∃ v,wr.cell? ⟨w.heap.size,127 - k,none⟩=some v:=by
    refine⟨((lays (aS 128 (rest++[128])) 128 (8*total) k).map V8)[127 - k]'?_,?_⟩
    ·rw[List.length_map,kB,aB _ _ (by rw[List.length_append,Hn.out];simp;omega)];omega
    ·rw[hrow.cell,List.getElem?_eq_getElem]
   have hf:=hrow.free (127 - k)
   go_wp2
   go_roundw
   case rel =>
    refine⟨k+1,X / 256,by omega,by go_num,by go_num,?_,?_,ak.setCell (Nat.le_refl _) _⟩
    ·show _=_;rw[HXk.out,Nat.div_div_eq_div_mul,Nat.pow_succ]
    ·have:=hrow.set (127 - k) (V8 (UInt8.ofNat X))
     rw[← List.map_set] at this
     rw[iu,lays,show 128 - (k+1)=127 - k by omega,← HXk.out]
     exact this
   case measure=>simp [intOf];omega
  ·obtain rfl:k=8:=by omega
   have HE:Hid ((lays (aS 128 (rest++[128])) 128 (8*total) 8).map V8=(ended rest total).map V8):=by show _=_;rw[ended,Hn.out,HSZ.out]
   rw[HE.out] at hrow
   have aN:=ae (ku (ended rest total))
   have Hsz:Hid (((ended rest total).map V8).toArray.size=128):=by show _=_;rw[List.size_toArray,List.length_map,dX _ _ (by rw[Hn.out];omega)]
   have dR:=ae hrow
   clear HE hrow
   generalize hrs:(ended rest total).map V8=rs at *
   have HRS:=ae hrs
   clear hrs
   rw[show ((8:Nat):Int)=8 from rfl]
   go_wp2_with (first
    | (refine wpList_load_row rfl 251 (.tmp 4) rfl w.heap.size rfl 251 rs.toArray (0,0) _ dR.out Tryz.underlying251 rfl (by rw[Hsz.out];kernel_rfl) ?_)
    | (refine wpList_store_row rfl 251 (.tmp 4) (.tmp 33) rfl w.heap.size rs.toArray rfl rfl 251 _ dR.out (by rw[Hsz.out];kernel_rfl) rfl aN.out ?_))
   have bj:=dR.out.whole rs
   have hinfo:(Tryz.prog.info? 251).map (·.size)=some rs.toArray.size:=by rw[Hsz.out];kernel_rfl
   refine bodyPost_ret (v:=.tuple #[.agg rs.toArray,.int .i64 128]) (e9 (p:=4) (u:=5) rfl _ _ w.heap.size 251 rs.toArray (0,0) _ rfl bj Tryz.underlying251 rfl hinfo) rfl ?_
   refine⟨?_,ag ak (Nat.le_refl _) _⟩
   rw[HRS.out,HSZ.out]
   rfl
set_option maxRecDepth 512
theorem xY (A:Option Addr) (n cap total:Nat) (rest:List UInt8) (w:World) (h:Slc w w.heap.size A n (rest.map V8)) (hn:n<64) (ht:total≤1000000) :
  Calls Tryz.prog 164 #[.slice A n cap,.int .i64 total] w fun e w'=>e=.returned (.tuple #[.agg ((ended rest total).map V8).toArray,.int .i64 (bu n)])∧Below w.heap.size w w':=by
 rcases Nat.lt_or_ge 55 n with h55 | h55
 ·exact xZ A n cap total rest w h hn h55 ht
 ·exact BC A n cap total rest w h hn h55 ht
end Go.Proofs.YthbmknpbcgnabaaGreatDoor.Hm
end
section
namespace Go.Proofs.YthbmknpbcgnabaaGreatDoor.Hm
open Go.RowKit Sha
theorem Lr:Tryz.prog.underlying 251=some (.array (Tryz.prog.arrayLen 251) (Tryz.prog.elem 251)):=by kernel_rfl
theorem Ew:Tryz.prog.arrayLen 251=128:=by kernel_rfl
theorem Od (W:World):(sizeOf (Tryz.prog.elem 251)).run Tryz.prog W=.ok 1 W:=by kernel_rfl
theorem fS (O j:Nat) (hj:j<2) (lo hi:Int) (h1:lo=64*(j:Int)) (h2:hi=64*(j:Int)+64) (W:World) :
  (Instr.sliceAt 251 (.pointer (some ⟨O,0,none⟩)) (some (.int .i64 lo)) (some (.int .i64 hi)) none).run Tryz.prog W=.ok (.slice (some ⟨O,64*j,none⟩) 64 (128 - 64*j)) W:=by
 subst h1 h2
 rw[run_sliceAt_array_lh W 251 ⟨O,0,none⟩ Lr .i64 .i64 _ _ (by omega) (by omega) (by rw[Ew];omega),Od,Ew,show (64*(j:Int)).toNat=64*j by omega,show (64*(j:Int)+64).toNat=64*j+64 by omega]
 simp only [Result.andThen_ok,slicedAt]
 rw[if_neg (by omega),Nat.mul_one,show 64*j+64 - 64*j=64 by omega]
 congr 3
 unfold Addr.add
 split <;> simp_all
theorem kJ {a b c:World} {g:Option Nat} (h:a.grownBy b g) (k:b.grownBy c g):a.grownBy c g:=eW h k
theorem tN {w:World} {b o:Nat} {bs:List UInt8} (h:ah w b o (bs.map V8)) (i n:Nat):ah w b (o+i) (((bs.drop i).take n).map V8):=by
 have:=h.piece i n
 rwa [← List.map_drop,← List.map_take] at this
theorem lR (A:Option Addr) (n cap total:Nat) (rest:List UInt8) (w:World) (h:Slc w w.heap.size A n (rest.map V8)) (hn:n<64) (ht:total≤1000000) :
  Calls Tryz.prog 164 #[.slice A n cap,.int .i64 total] w fun e w'=>∃ (rs:List Value) (Z:Nat),Hid (rs=(ended rest total).map V8)∧Hid (rs.toArray.size=128)∧Hid (rs.toArray.all (·.oneCell')=true)∧Hid (Z=bu n)∧(Z=64∨Z=128)∧e=.returned (.tuple #[.agg rs.toArray,.int .i64 Z])∧Below w.heap.size w w':=by
 refine(xY A n cap total rest w h hn ht).mono fun e w' h2=>?_
 have hl:=h.len
 rw[List.length_map] at hl
 refine⟨_,_,rfl,?_,ku _,rfl,by unfold bu;split <;> omega,h2⟩
 show _=_
 rw[List.size_toArray,List.length_map,dX _ _ (by omega)]
set_option maxRecDepth 100000
theorem qm (S b o n cap:Nat) (s:St) (K:List UInt32) (hKl:K.length=64) (bs:List UInt8) (hbs:bs.length=n) (hn:n≤1000000) (hcap:n≤cap) (w:World) (hb:b<w.heap.size) (hbS:b≠S) (hS0:0≠S)
  (hS:Row w S 233 (s.list.map V32)) (hK:ah w 0 0 (K.map V32)) (h:ah w b o (bs.map V8)) :
  Calls Tryz.prog 147 #[.slice (some ⟨b,o,none⟩) n cap,.func (.func 148) #[.pointer (some ⟨S,0,none⟩)] #[]] w fun e w' =>
   e=.returned (.tuple #[])∧Row w' S 233 ((run K (run K s bs (n / 64)) (ended (bs.drop (64*(n / 64))) n) (bu (n % 64) / 64)).list.map V32)∧w.grownBy w' (some S):=by
 have HKl:=ae hKl
 have Hbs:=ae hbs
 have HK:=ae hK
 have h0:0<w.heap.size:=hK.lt (by rw[List.length_map,hKl];decide)
 clear hKl hbs hK
 go_enter Tryz.func147,Tryz.ntmps147
 go_wp2
 go_loopw [5] (fun i wr=>∃ k:Nat,k≤n / 64∧i=.int .i64 ((64*k:Nat):Int)∧Row wr S 233 ((run K s bs k).list.map V32)∧w.grownBy wr (some S)) (fun i _=>n - (intOf i).toNat)
 case atStart=>exact⟨0,Nat.zero_le _,rfl,hS,jV _ _⟩
 case round =>
  obtain ⟨k,hk,rfl,hrow,hg⟩:=hrel
  have hsz:=hg.size
  by_cases hlt:k<n / 64
  ·have hp:ah wr b (o+64*k) (((bs.drop (64*k)).take 64).map V8):=tN (h.grown hg hb (by simpa using hbS)) _ _
   have HP:=ae hp
   have HKw:Hid (ah wr 0 0 (K.map V32)):=HK.out.grown hg h0 (by simpa using hS0)
   have Hpl:Hid (((bs.drop (64*k)).take 64).length=64):=by show _=_;rw[List.length_take,List.length_drop,Hbs.out];omega
   have HR:=ae hrow
   have uM:Hid (run K s bs (k+1)=come K (run K s bs k) ((bs.drop (64*k)).take 64)):=rfl
   clear hp hrow
   generalize run K s bs k=sk at *
   generalize (bs.drop (64*k)).take 64=piece at *
   have hkc:64*k<cap:=by omega
   go_wp2_with fail
   refine(iY S b _ _ sk K HKl.out piece Hpl.out wr (by omega) HR.out HKw.out HP.out).mono ?_
   rintro e w1 ⟨rfl,hr1,hg1⟩
   go_wp2
   go_roundw
   case rel=>exact⟨k+1,by omega,by go_num,by rw[uM.out];exact hr1,eW hg hg1⟩
   case measure=>simp [intOf];omega
  ·obtain rfl:k=n / 64:=by omega
   obtain ⟨q,hq⟩:∃ q,q=n / 64:=⟨_,rfl⟩
   rw[show ((n:Int) - (n:Int) % 64)=((64*q:Nat):Int) by omega]
   rw[← hq] at hrow hlt ⊢
   have hq1:64*q≤n:=by omega
   have hq2:n<64*q+64:=by omega
   have HQ:=ae hq
   clear hq
   have HR:=ae hrow
   clear hrow
   have hz:=oU
   have AR:Hid ((bs.drop (64*q)).length=n - 64*q):=by show _=_;rw[List.length_drop,Hbs.out]
   have NW:cap≤64*q∨64*q<cap:=by omega
   rcases NW with hc | hc
   ·have HSL:Hid (Slc wr wr.heap.size (some ⟨b,o,none⟩) (n - 64*q) ((bs.drop (64*q)).map V8)):=⟨by rw[List.length_map];exact AR.out,fun hp=>by omega⟩
    go_wp2_with fail
    refine(lR (some ⟨b,o,none⟩) _ _ n _ wr HSL.out (by omega) hn).mono ?_
    rintro e w1 ⟨rs,Z,Hrs,Hsz,aN,HZ,hZ,rfl,hb1⟩
    go_wp2_with (refine wpList_store_row rfl 251 (.tmp 6) (.tmp 34) rfl w1.heap.size rs.toArray rfl rfl 251 _ (Row.new w1 _ gG) (by rw[Hsz.out];kernel_rfl) (by rw[Hsz.out];exact gF) aN.out ?_)
    try go_frame
    refine gA (fun w2=>Hid (Row w2 w1.heap.size 251 rs)∧Hid (Row w2 S 233 ((run K s bs q).list.map V32))∧Hid (ah w2 0 0 (K.map V32))∧w.grownBy w2 (some S)∧w1.heap.size<w2.heap.size) ?_ ?_
    ·have hz1:=hb1.size
     have hSl:=HR.out.lt
     refine⟨(Row.new w1 _ gG).whole rs,((HR.out.below hb1 hSl).alloc _).dG (by omega) _,?_,?_,by simp⟩
     ·exact(((HK.out.grown hg h0 (by simpa using hS0)).below hb1 (by omega)).alloc (by omega) _).same (setRow_other _ _ _ _ (by omega))
     ·exact iA (jB (qw hg hb1) _) (.inr (by omega)) _
    rintro w2 ⟨HP,HR2,HK2,hg2,EN⟩
    have hSl:S<w1.heap.size:=Nat.lt_of_lt_of_le HR.out.lt hb1.size
    clear HR hg hsz hz hb1 HSL
    generalize hs1:run K s bs q=s1 at *
    have Hs1:=ae hs1
    clear hs1
    go_loopw [8] (fun i wr=>∃ j:Nat,64*j≤Z∧i=.int .i64 ((64*j:Nat):Int)∧Row wr S 233 ((run K s1 (ended (bs.drop (64*q)) n) j).list.map V32)∧w2.grownBy wr (some S)) (fun i _=>128 - (intOf i).toNat)
    case atStart=>exact⟨0,by omega,rfl,HR2.out,jV _ _⟩
    case round =>
     obtain ⟨j,hj,rfl,hrow,hg⟩:=hrel
     have hsz:=hg.size
     by_cases hlt:64*j<Z
     ·have HP2:Hid (ah wr w1.heap.size (64*j) ((((ended (bs.drop (64*q)) n).drop (64*j)).take 64).map V8)):=by
       have h1:=(HP.out.grown hg (by simp;omega)).sees
       rw[Hrs.out] at h1
       have h2:=tN h1 (64*j) 64
       rwa [Nat.zero_add] at h2
      have HKw:Hid (ah wr 0 0 (K.map V32)):=HK2.out.grown hg (by omega) (by simpa using hS0)
      have Hpl:Hid ((((ended (bs.drop (64*q)) n).drop (64*j)).take 64).length=64):=by
       show _=_
       rw[List.length_take,List.length_drop,dX _ _ (by rw[AR.out];omega)];omega
      have HRw:=ae hrow
      have uM:Hid (run K s1 (ended (bs.drop (64*q)) n) (j+1)=come K (run K s1 (ended (bs.drop (64*q)) n) j) (((ended (bs.drop (64*q)) n).drop (64*j)).take 64)):=rfl
      clear hrow
      generalize run K s1 (ended (bs.drop (64*q)) n) j=sk at *
      generalize ((ended (bs.drop (64*q)) n).drop (64*j)).take 64=piece at *
      have EI:=fS w1.heap.size j (by omega) ((64*j:Nat):Int) (64*(j:Int)+64) (by omega) rfl wr
      have ny:=fS w1.heap.size j (by omega) (64*(j:Int)) (64*(j:Int)+64) rfl rfl wr
      go_wp2_with fail
      refine(iY S w1.heap.size _ _ sk K HKl.out piece Hpl.out wr (by omega) HRw.out HKw.out HP2.out).mono ?_
      rintro e w3 ⟨rfl,hr3,hg3⟩
      clear EI ny
      go_wp2
      go_roundw
      case rel=>exact⟨j+1,by omega,by go_num,by rw[uM.out];exact hr3,eW hg hg3⟩
      case measure=>simp [intOf];omega
     ·have hj2:j=Z / 64:=by omega
      have Hj:=ae hj2
      clear hj2
      go_wp2
      go_end0
      refine⟨rfl,?_,kJ hg2 hg⟩
      rw[← HQ.out,Hs1.out,show n % 64=n - 64*q by omega,← HZ.out,← Hj.out]
      exact hrow
   ·have HSL:Hid (Slc wr wr.heap.size (some ⟨b,o+64*q,none⟩) (n - 64*q) ((bs.drop (64*q)).map V8)):=by
     refine⟨by rw[List.length_map];exact AR.out,fun hp=>⟨b,o+64*q,rfl,by omega,?_⟩⟩
     have:=(h.grown hg hb (by simpa using hbS)).tail (64*q)
     rwa [← List.map_drop] at this
    go_wp2_with fail
    refine(lR (some ⟨b,o+64*q,none⟩) _ _ n _ wr HSL.out (by omega) hn).mono ?_
    rintro e w1 ⟨rs,Z,Hrs,Hsz,aN,HZ,hZ,rfl,hb1⟩
    go_wp2_with (refine wpList_store_row rfl 251 (.tmp 6) (.tmp 34) rfl w1.heap.size rs.toArray rfl rfl 251 _ (Row.new w1 _ gG) (by rw[Hsz.out];kernel_rfl) (by rw[Hsz.out];exact gF) aN.out ?_)
    try go_frame
    refine gA (fun w2=>Hid (Row w2 w1.heap.size 251 rs)∧Hid (Row w2 S 233 ((run K s bs q).list.map V32))∧Hid (ah w2 0 0 (K.map V32))∧w.grownBy w2 (some S)∧w1.heap.size<w2.heap.size) ?_ ?_
    ·have hz1:=hb1.size
     have hSl:=HR.out.lt
     refine⟨(Row.new w1 _ gG).whole rs,((HR.out.below hb1 hSl).alloc _).dG (by omega) _,?_,?_,by simp⟩
     ·exact(((HK.out.grown hg h0 (by simpa using hS0)).below hb1 (by omega)).alloc (by omega) _).same (setRow_other _ _ _ _ (by omega))
     ·exact iA (jB (qw hg hb1) _) (.inr (by omega)) _
    rintro w2 ⟨HP,HR2,HK2,hg2,EN⟩
    have hSl:S<w1.heap.size:=Nat.lt_of_lt_of_le HR.out.lt hb1.size
    clear HR hg hsz hz hb1 HSL
    generalize hs1:run K s bs q=s1 at *
    have Hs1:=ae hs1
    clear hs1
    go_loopw [8] (fun i wr=>∃ j:Nat,64*j≤Z∧i=.int .i64 ((64*j:Nat):Int)∧Row wr S 233 ((run K s1 (ended (bs.drop (64*q)) n) j).list.map V32)∧w2.grownBy wr (some S)) (fun i _=>128 - (intOf i).toNat)
    case atStart=>exact⟨0,by omega,rfl,HR2.out,jV _ _⟩
    case round =>
     obtain ⟨j,hj,rfl,hrow,hg⟩:=hrel
     have hsz:=hg.size
     by_cases hlt:64*j<Z
     ·have HP2:Hid (ah wr w1.heap.size (64*j) ((((ended (bs.drop (64*q)) n).drop (64*j)).take 64).map V8)):=by
       have h1:=(HP.out.grown hg (by simp;omega)).sees
       rw[Hrs.out] at h1
       have h2:=tN h1 (64*j) 64
       rwa [Nat.zero_add] at h2
      have HKw:Hid (ah wr 0 0 (K.map V32)):=HK2.out.grown hg (by omega) (by simpa using hS0)
      have Hpl:Hid ((((ended (bs.drop (64*q)) n).drop (64*j)).take 64).length=64):=by
       show _=_
       rw[List.length_take,List.length_drop,dX _ _ (by rw[AR.out];omega)];omega
      have HRw:=ae hrow
      have uM:Hid (run K s1 (ended (bs.drop (64*q)) n) (j+1)=come K (run K s1 (ended (bs.drop (64*q)) n) j) (((ended (bs.drop (64*q)) n).drop (64*j)).take 64)):=rfl
      clear hrow
      generalize run K s1 (ended (bs.drop (64*q)) n) j=sk at *
      generalize ((ended (bs.drop (64*q)) n).drop (64*j)).take 64=piece at *
      have EI:=fS w1.heap.size j (by omega) ((64*j:Nat):Int) (64*(j:Int)+64) (by omega) rfl wr
      have ny:=fS w1.heap.size j (by omega) (64*(j:Int)) (64*(j:Int)+64) rfl rfl wr
      go_wp2_with fail
      refine(iY S w1.heap.size _ _ sk K HKl.out piece Hpl.out wr (by omega) HRw.out HKw.out HP2.out).mono ?_
      rintro e w3 ⟨rfl,hr3,hg3⟩
      clear EI ny
      go_wp2
      go_roundw
      case rel=>exact⟨j+1,by omega,by go_num,by rw[uM.out];exact hr3,eW hg hg3⟩
      case measure=>simp [intOf];omega
     ·have hj2:j=Z / 64:=by omega
      have Hj:=ae hj2
      clear hj2
      go_wp2
      go_end0
      refine⟨rfl,?_,kJ hg2 hg⟩
      rw[← HQ.out,Hs1.out,show n % 64=n - 64*q by omega,← HZ.out,← Hj.out]
      exact hrow
theorem rq (A:Option Addr) (S:Nat) (s:St) (K:List UInt32) (hKl:K.length=64) (w:World) (hS0:0≠S) (h0:0<w.heap.size)
  (hS:Row w S 233 (s.list.map V32)) (hK:ah w 0 0 (K.map V32)) :
  Calls Tryz.prog 147 #[.slice A 0 0,.func (.func 148) #[.pointer (some ⟨S,0,none⟩)] #[]] w fun e w' =>
   e=.returned (.tuple #[])∧Row w' S 233 ((run K s (ended [] 0) (bu 0 / 64)).list.map V32)∧w.grownBy w' (some S):=by
 have HKl:=ae hKl
 have HK:=ae hK
 have HS:=ae hS
 clear hKl hK hS
 have hz:=oU
 have HSL:Hid (Slc w w.heap.size A 0 (([]:List UInt8).map V8)):=⟨rfl,fun hp=>by omega⟩
 go_enter Tryz.func147,Tryz.ntmps147
 go_wp2
 refine wp_loop_rounds 1 ?_
 rw[rounds_succ]
 go_wp2_with fail
 refine(lR A 0 0 0 [] w HSL.out (by omega) (by omega)).mono ?_
 rintro e w1 ⟨rs,Z,Hrs,Hsz,aN,HZ,hZ,rfl,hb1⟩
 go_wp2_with (refine wpList_store_row rfl 251 (.tmp 6) (.tmp 34) rfl w1.heap.size rs.toArray rfl rfl 251 _ (Row.new w1 _ gG) (by rw[Hsz.out];kernel_rfl) (by rw[Hsz.out];exact gF) aN.out ?_)
 try go_frame
 refine gA (fun w2=>Hid (Row w2 w1.heap.size 251 rs)∧Hid (Row w2 S 233 ((s).list.map V32))∧Hid (ah w2 0 0 (K.map V32))∧w.grownBy w2 (some S)∧w1.heap.size<w2.heap.size) ?_ ?_
 ·have hz1:=hb1.size
  have hSl:=HS.out.lt
  refine⟨(Row.new w1 _ gG).whole rs,((HS.out.below hb1 hSl).alloc _).dG (by omega) _,?_,?_,by simp⟩
  ·exact(((HK.out).below hb1 (by omega)).alloc (by omega) _).same (setRow_other _ _ _ _ (by omega))
  ·exact iA (jB (kK hb1 _) _) (.inr (by omega)) _
 rintro w2 ⟨HP,HR2,HK2,hg2,EN⟩
 have hSl:S<w1.heap.size:=Nat.lt_of_lt_of_le HS.out.lt hb1.size
 clear HS hz hb1 HSL
 go_loopw [8] (fun i wr=>∃ j:Nat,64*j≤Z∧i=.int .i64 ((64*j:Nat):Int)∧Row wr S 233 ((run K s (ended [] 0) j).list.map V32)∧w2.grownBy wr (some S)) (fun i _=>128 - (intOf i).toNat)
 case atStart=>exact⟨0,by omega,rfl,HR2.out,jV _ _⟩
 case round =>
  obtain ⟨j,hj,rfl,hrow,hg⟩:=hrel
  have hsz:=hg.size
  by_cases hlt:64*j<Z
  ·have HP2:Hid (ah wr w1.heap.size (64*j) ((((ended [] 0).drop (64*j)).take 64).map V8)):=by
    have h1:=(HP.out.grown hg (by simp;omega)).sees
    rw[Hrs.out] at h1
    have h2:=tN h1 (64*j) 64
    rwa [Nat.zero_add] at h2
   have HKw:Hid (ah wr 0 0 (K.map V32)):=HK2.out.grown hg (by omega) (by simpa using hS0)
   have Hpl:Hid ((((ended [] 0).drop (64*j)).take 64).length=64):=by
    show _=_
    rw[List.length_take,List.length_drop,dX _ _ (by simp)];omega
   have HRw:=ae hrow
   have uM:Hid (run K s (ended [] 0) (j+1)=come K (run K s (ended [] 0) j) (((ended [] 0).drop (64*j)).take 64)):=rfl
   clear hrow
   generalize run K s (ended [] 0) j=sk at *
   generalize ((ended [] 0).drop (64*j)).take 64=piece at *
   have EI:=fS w1.heap.size j (by omega) ((64*j:Nat):Int) (64*(j:Int)+64) (by omega) rfl wr
   have ny:=fS w1.heap.size j (by omega) (64*(j:Int)) (64*(j:Int)+64) rfl rfl wr
   go_wp2_with fail
   refine(iY S w1.heap.size _ _ sk K HKl.out piece Hpl.out wr (by omega) HRw.out HKw.out HP2.out).mono ?_
   rintro e w3 ⟨rfl,hr3,hg3⟩
   clear EI ny
   go_wp2
   go_roundw
   case rel=>exact⟨j+1,by omega,by go_num,by rw[uM.out];exact hr3,eW hg hg3⟩
   case measure=>simp [intOf];omega
  ·have hj2:j=Z / 64:=by omega
   have Hj:=ae hj2
   clear hj2
   go_wp2
   go_end0
   refine⟨rfl,?_,kJ hg2 hg⟩
   rw[← HZ.out,← Hj.out]
   exact hrow
end Go.Proofs.YthbmknpbcgnabaaGreatDoor.Hm
end
section
namespace Go.Proofs.YthbmknpbcgnabaaGreatDoor.Hm
open Go.RowKit Sha
def Arg (w:World) (v:Value) (bs:List UInt8):Prop :=
 (∃ A,v=.slice A 0 0∧bs=[])∨∃ b o cap,v=.slice (some ⟨b,o,none⟩) bs.length cap∧b<w.heap.size∧bs.length≤cap∧ah w b o (bs.map V8)
theorem Arg.below {w w':World} {v:Value} {bs:List UInt8} (h:Arg w v bs) (hb:Below w.heap.size w w'):Arg w' v bs:=by
 rcases h with h | ⟨b,o,cap,e,hl,hc,hs⟩
 ·exact .inl h
 ·exact .inr ⟨b,o,cap,e,Nat.lt_of_lt_of_le hl hb.size,hc,hs.below hb hl⟩
def Gq (w:World) (S:Nat) (v:Value) (bs:List UInt8):Prop :=
 (∃ A,v=.slice A 0 0∧bs=[])∨∃ b o cap,v=.slice (some ⟨b,o,none⟩) bs.length cap∧b<w.heap.size∧b≠S∧bs.length≤cap∧ah w b o (bs.map V8)
theorem Arg.off {w w':World} {S:Nat} {v:Value} {bs:List UInt8} (h:Arg w v bs) (hb:Below w.heap.size w w') (hS:w.heap.size≤S):Gq w' S v bs:=by
 rcases h with h | ⟨b,o,cap,e,hl,hc,hs⟩
 ·exact .inl h
 ·exact .inr ⟨b,o,cap,e,Nat.lt_of_lt_of_le hl hb.size,by omega,hc,hs.below hb hl⟩
theorem ru (S:Nat) (v:Value) (K:List UInt32) (hKl:K.length=64) (bs:List UInt8) (hn:bs.length≤1000000) (w:World) (hS0:0≠S) (h0:0<w.heap.size)
  (hS:Row w S 233 (R0.list.map V32)) (hK:ah w 0 0 (K.map V32)) (h:Gq w S v bs) :
  Calls Tryz.prog 147 #[v,.func (.func 148) #[.pointer (some ⟨S,0,none⟩)] #[]] w fun e w' =>
   e=.returned (.tuple #[])∧Hid (Row w' S 233 ((rP K bs).list.map V32))∧w.grownBy w' (some S):=by
 rcases h with ⟨A,rfl,rfl⟩ | ⟨b,o,cap,rfl,hl,hbS,hc,hs⟩
 ·refine(rq A S R0 K hKl w hS0 h0 hS hK).mono fun e w' h=>?_
  rw[← rO K []]
  exact h
 ·refine(qm S b o bs.length cap R0 K hKl bs rfl hn hc w hl hbS hS0 hS hK hs).mono fun e w' h=>?_
  rw[← rO K bs]
  exact h
theorem qg (w:World) :
  Calls Tryz.prog 146 #[] w fun e w'=>∃ rs:List Value,Hid (rs=R0.list.map V32)∧e=.returned (.agg rs.toArray)∧Below w.heap.size w w' :=
 (qh w).mono fun _ _ h=>⟨_,rfl,h⟩
theorem yC (S:Nat) (s:St) (w:World) (hS:Row w S 233 (s.list.map V32)) :
  Calls Tryz.prog 149 #[.pointer (some ⟨S,0,none⟩)] w fun e w'=>∃ rs:List Value,Hid (rs=(dig s).map V8)∧Hid (rs.toArray.size=32)∧Hid (rs.toArray.all (·.oneCell')=true)∧e=.returned (.agg rs.toArray)∧Below w.heap.size w w' :=
 (yD S s w hS).mono fun _ _ h=>⟨_,rfl,by show _=_;rw[List.size_toArray,List.length_map,lW],ku _,h⟩
def Z32:List Value:=List.replicate 32 (.int .u8 0)
def Z8:List Value:=List.replicate 8 (.int .u32 0)
theorem sU (w:World):(zeroValue 26).run Tryz.prog w=.ok (.agg Z32.toArray) w:=by kernel_rfl
theorem AU (w:World):(zeroValue 233).run Tryz.prog w=.ok (.agg Z8.toArray) w:=by kernel_rfl
set_option maxRecDepth 100000
theorem IG (v:Value) (K:List UInt32) (hKl:K.length=64) (bs:List UInt8) (hn:bs.length≤1000000) (w:World) (h0:0<w.heap.size) (hK:ah w 0 0 (K.map V32)) (h:Arg w v bs) :
  Calls Tryz.prog 128 #[v] w fun e w'=>e=.returned (.agg ((dig (rP K bs)).map V8).toArray)∧Below w.heap.size w w':=by
 have HKl:=ae hKl
 have HK:=ae hK
 have HA:=ae h
 clear hKl hK h
 have hz1:=sU
 have hz2:=AU
 have hmf:∀ (fn:Fn) (first cap:Array Value) (w:World),(Instr.makeFunc fn first cap).run Tryz.prog w=.ok (.func fn first cap) w:=fun _ _ _ _=>rfl
 go_enter Tryz.func128,Tryz.ntmps128
 go_wp2_with fail
 refine(qg _).mono ?_
 rintro e w1 ⟨rs,Hrs,rfl,hb1⟩
 have jf:w.heap.size<w1.heap.size:=by have:=hb1.size;simp at this;omega
 have Hsz:Hid (rs.toArray.size=8):=by rw[Hrs.out];rfl
 have aN:Hid (rs.toArray.all (·.oneCell')=true):=by rw[Hrs.out];exact Ee _
 go_wp2_with (refine wpList_store_row rfl 233 (.tmp 3) (.tmp 4) rfl w1.heap.size rs.toArray rfl rfl 233 _ (Row.new w1 _ Z8) (by rw[Hsz.out];kernel_rfl) (by rw[Hsz.out];rfl) aN.out ?_)
 have hbw:Below w.heap.size w w1:=((Below.refl _ _).alloc (Nat.le_refl _) _).trans (hb1.mono (by simp))
 have H2:Hid (Below w.heap.size w ((w1.alloc (.cells Z8.toArray 233)).setRow w1.heap.size rs.toArray)):=ag (hbw.alloc (by omega) _) (by omega) _
 have HN:Hid (Row ((w1.alloc (.cells Z8.toArray 233)).setRow w1.heap.size rs.toArray) w.heap.size 26 Z32):=(((Row.new w _ Z32).below hb1 (by simp)).alloc _).dG (by omega) _
 have HR:Hid (Row ((w1.alloc (.cells Z8.toArray 233)).setRow w1.heap.size rs.toArray) w1.heap.size 233 (R0.list.map V32)):=by
  have:=(Row.new w1 233 Z8).whole rs
  rw[Hrs.out] at this ⊢
  exact this
 have kC:((w1.alloc (.cells Z8.toArray 233)).setRow w1.heap.size rs.toArray).heap.size=w1.heap.size+1:=by simp
 generalize (w1.alloc (.cells Z8.toArray 233)).setRow w1.heap.size rs.toArray=w2 at *
 refine(ru w1.heap.size v K HKl.out bs hn w2 (by omega) (by omega) HR.out (HK.out.below H2.out h0) (HA.out.off H2.out (by omega))).mono ?_
 rintro e w3 ⟨rfl,HR3,hg3⟩
 have H3:Hid (Below w.heap.size w w3):=H2.out.trans ⟨hg3.os,hg3.tape,hg3.output,hg3.size,fun k hk=>hg3.block k (by omega) (by simp;omega)⟩
 have HN3:Hid (Row w3 w.heap.size 26 Z32):=HN.out.grown hg3 (by simp;omega)
 clear hz1 hz2 hmf kC HR hg3 HN H2 hbw hb1 Hrs Hsz aN
 go_wp2_with fail
 refine(yC w1.heap.size (rP K bs) w3 HR3.out).mono ?_
 rintro e w4 ⟨ds,Hds,Hdz,Hd1,rfl,hb4⟩
 have HN4:Hid (Row w4 w.heap.size 26 Z32):=HN3.out.below hb4 (Row.lt HN3.out)
 have H4:Hid (Below w.heap.size w w4):=H3.out.trans (hb4.mono H3.out.size)
 go_wp2_with (refine wpList_store_row rfl 26 (.tmp 2) (.tmp 8) rfl w.heap.size ds.toArray rfl rfl 26 _ HN4.out (by rw[Hdz.out];kernel_rfl) (by rw[Hdz.out];rfl) Hd1.out ?_)
 have bj:=HN4.out.whole ds
 have hinfo:(Tryz.prog.info? 26).map (·.size)=some ds.toArray.size:=by rw[Hdz.out];kernel_rfl
 refine bodyPost_ret (v:=.agg ds.toArray) (results_cell_row rfl _ _ w.heap.size 26 ds.toArray (0,0) _ rfl bj Tryz.underlying26 rfl hinfo) rfl ?_
 exact⟨congrArg (fun l:List Value=>Ending.returned (.agg l.toArray)) Hds.out,ag H4.out (Nat.le_refl _) _⟩
end Go.Proofs.YthbmknpbcgnabaaGreatDoor.Hm
end
