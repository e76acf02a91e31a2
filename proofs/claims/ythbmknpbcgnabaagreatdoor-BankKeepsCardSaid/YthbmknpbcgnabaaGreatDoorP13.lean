/-
  OF THE WALK: CE.
-/
import Derived.Deep.OwnRows
import Derived.Test.YthbmknpbcgnabaaGreatDoorP08
import Derived.Test.YthbmknpbcgnabaaGreatDoorP09
import Derived.Test.YthbmknpbcgnabaaGreatDoorP12
section
namespace Go.Proofs.YthbmknpbcgnabaaGreatDoor
namespace Ctr
open Aes
def big : Nat → Nat → List UInt8
  | 0, _ => []
  | k + 1, n => big k (n / 256) ++ [UInt8.ofNat n]
theorem big_length (k : Nat) : ∀ n, (big k n).length = k := by
  induction k with
  | zero => intro n; rfl
  | succ k ih => intro n; simp [big, ih]
theorem ofNat_congr {n m : Nat} (h : n % 256 = m % 256) : UInt8.ofNat n = UInt8.ofNat m := by
  apply UInt8.toNat_inj.1
  rw [UInt8.toNat_ofNat', UInt8.toNat_ofNat']
  exact h
theorem big_congr (k : Nat) : ∀ n m, n % 256 ^ k = m % 256 ^ k → big k n = big k m := by
  induction k with
  | zero => intro n m _; rfl
  | succ k ih =>
    intro n m h
    rw [Nat.pow_succ, Nat.mul_comm, Nat.mod_mul, Nat.mod_mul] at h
    have h1 : n % 256 = m % 256 := by omega
    have h2 : n / 256 % 256 ^ k = m / 256 % 256 ^ k := by omega
    rw [big, big, ih _ _ h2, ofNat_congr h1]
def put (l : List UInt8) (o : Nat) : Nat → Nat → List UInt8
  | 0, _ => l
  | k + 1, x => put (l.set (o + k) (UInt8.ofNat x)) o k (x / 256)
theorem put_mid (k : Nat) : ∀ (pre mid post : List UInt8) (x : Nat), mid.length = k → put (pre ++ mid ++ post) pre.length k x = pre ++ big k x ++ post := by
  induction k with
  | zero =>
    intro pre mid post x h
    rw [List.eq_nil_of_length_eq_zero h]
    rfl
  | succ k ih =>
    intro pre mid post x h
    have hne : mid ≠ [] := fun e => by rw [e] at h; simp at h
    have hd : mid = mid.dropLast ++ [mid.getLast hne] := (List.dropLast_concat_getLast hne).symm
    have hl : mid.dropLast.length = k := by simp [h]
    rw [hd]
    generalize mid.dropLast = m at *
    generalize mid.getLast hne = z
    have hs : (pre ++ (m ++ [z]) ++ post).set (pre.length + k) (UInt8.ofNat x) = pre ++ m ++ (UInt8.ofNat x :: post) := by
      rw [show pre ++ (m ++ [z]) ++ post = (pre ++ m) ++ (z :: post) by simp, List.set_append_right _ _ (by simp [hl]), show pre.length + k - (pre ++ m).length = 0 by simp [hl], List.set_cons_zero]
    rw [put, hs, ih pre m _ _ hl, big]
    simp
def blk (key nonce : List UInt8) (i : Nat) : List UInt8 := enc key (nonce ++ big 4 i)
def ksAt (key nonce : List UInt8) (j : Nat) : UInt8 := (blk key nonce (j / 16)).getD (j % 16) 0
def strm (key nonce : List UInt8) (n : Nat) : List UInt8 := (List.range n).map (ksAt key nonce)
theorem strm_length (key nonce : List UInt8) (n : Nat) : (strm key nonce n).length = n := by simp [strm]
theorem strm_at (key nonce : List UInt8) (n j : Nat) (h : j < n) : (strm key nonce n).getD j 0 = ksAt key nonce j := by
  simp [strm, List.getD_eq_getElem?_getD, h]
def code (key nonce b : List UInt8) : List UInt8 := xorL b (strm key nonce b.length)
theorem code_length (key nonce b : List UInt8) : (code key nonce b).length = b.length := by simp [code, xorL, strm_length]
theorem code_at (key nonce b : List UInt8) (j : Nat) (h : j < b.length) : (code key nonce b).getD j 0 = b.getD j 0 ^^^ ksAt key nonce j := by
  rw [code, xorL_at _ _ _ h (by rw [strm_length]; exact h), strm_at _ _ _ _ h]
theorem getD_eq {a b : List UInt8} (hl : a.length = b.length) (h : ∀ j, j < a.length → a.getD j 0 = b.getD j 0) : a = b := by
  apply List.ext_getElem hl
  intro i h1 h2
  have h3 := h i h1
  simpa [List.getD_eq_getElem?_getD, h1, h2] using h3
theorem code_code (key nonce b : List UInt8) : code key nonce (code key nonce b) = b := by
  refine getD_eq (by rw [code_length, code_length]) fun j hj => ?_
  rw [code_length, code_length] at hj
  rw [code_at _ _ _ _ (by rw [code_length]; exact hj), code_at _ _ _ _ hj, UInt8.xor_assoc, UInt8.xor_self, UInt8.xor_zero]
def nnc (b v : Nat) : List UInt8 := big 4 b ++ big 8 v
theorem nnc_length (b v : Nat) : (nnc b v).length = 12 := by simp [nnc, big_length]
end Ctr
end Go.Proofs.YthbmknpbcgnabaaGreatDoor
end
section
namespace Go.Proofs.YthbmknpbcgnabaaGreatDoor
open Go.RowKit Ctr
def putK (l : List UInt8) (o k x : Nat) : List UInt8 := put l o k x
theorem putK_zero (l : List UInt8) (o x : Nat) : putK l o 0 x = l := rfl
theorem putK_succ (l : List UInt8) (o k x : Nat) : putK l o (k + 1) x = putK (l.set (o + k) (UInt8.ofNat x)) o k (x / 256) := rfl
set_option maxRecDepth 100000 in
set_option maxHeartbeats 400000 in
theorem putNumber_row (g o n cap x : Nat) (hx : x < 2 ^ 64) (hn : n ≤ 8) (t : TypeId) (l : List UInt8) (ho : o + n ≤ l.length) (w : World) (h : Row w g t (l.map V8)) :
    Calls Tryz.prog 144 #[.slice (some ⟨g, o, none⟩) n cap, .int .u64 x] w fun e w' => e = .returned (.tuple #[]) ∧ Hid (Row w' g t ((putK l o n x).map V8)) ∧ w.grownBy w' (some g) := by
  have HR := Lib.hid h
  clear h
  go_enter Tryz.func144, Tryz.ntmps144
  go_wp2
  go_loopw [1, 4] (fun y i wr => ∃ (k z : Nat) (m : List UInt8), k ≤ n ∧ i = .int .i64 ((k : Int) - 1) ∧ y = .int .u64 z ∧ z < 2 ^ 64 ∧ Hid (m.length = l.length) ∧ Hid (putK m o k z = putK l o n x) ∧ Hid (Row wr g t (m.map V8)) ∧ w.grownBy wr (some g)) (fun _ i _ => (intOf i + 1).toNat)
  case atStart => exact ⟨n, x, l, Nat.le_refl _, rfl, rfl, hx, rfl, rfl, HR, by_refl _ _⟩
  case round =>
    obtain ⟨k, z, m, hk, rfl, rfl, hz, Hml, Hput, Hrow, hgr⟩ := hrel
    clear HR
    rcases Nat.eq_zero_or_pos k with rfl | hpos
    · go_wp2
      go_end0
      rw [putK_zero] at Hput
      exact ⟨rfl, by rw [← Hput.out]; exact Hrow, hgr⟩
    · obtain ⟨j, rfl⟩ : ∃ j, k = j + 1 := ⟨k - 1, by omega⟩
      have e1 : ((j + 1 : Nat) : Int) - 1 = (j : Int) := by omega
      rw [e1]
      have c0 : wr.cell? ⟨g, o + j, none⟩ = some (.int .u8 (m.getD (o + j) 0).toNat) := by
        have := row8 Hrow.out (o + j) (by rw [Hml.out]; omega)
        exact this
      have f0 := Hrow.out.free (o + j)
      rw [putK_succ] at Hput
      generalize (m.getD (o + j) 0).toNat = y at *
      clear e1
      go_wp2
      go_roundw
      case rel =>
        refine ⟨j, z / 256, m.set (o + j) (UInt8.ofNat z), by omega, rfl, by rw [Int.natCast_ediv]; rfl, by omega, ?_, Hput, ?_, by_setCell hgr (.inl rfl) _⟩
        · show _ = _
          rw [List.length_set]; exact Hml.out
        · show Row _ _ _ _
          rw [List.map_set, byte_eq z]
          exact Hrow.out.set (o + j) _
      case measure => simp only [intOf]; omega
theorem putNumber_any (g o n cap x : Nat) (hx : x < 2 ^ 64) (hn : n ≤ 8) (t : TypeId) (pre mid post : List UInt8) (ho : pre.length = o) (hm : mid.length = n) (w : World) (h : Row w g t ((pre ++ mid ++ post).map V8)) :
    Calls Tryz.prog 144 #[.slice (some ⟨g, o, none⟩) n cap, .int .u64 x] w fun e w' => e = .returned (.tuple #[]) ∧ Hid (Row w' g t ((pre ++ big n x ++ post).map V8)) ∧ w.grownBy w' (some g) := by
  have := putNumber_row g o n cap x hx hn t (pre ++ mid ++ post) (by simp; omega) w h
  rw [← put_mid n pre mid post x hm, ho]
  exact this
end Go.Proofs.YthbmknpbcgnabaaGreatDoor
end
section
namespace Go.Proofs.YthbmknpbcgnabaaGreatDoor
open Go.RowKit Aes Ctr
theorem copied16 (nonce : List UInt8) (hn : nonce.length = 12) : splice Z16 0 (nonce.map V8) = (nonce ++ [0, 0, 0, 0] ++ []).map V8 := by
  rw [Z16_eq, splice, List.take_zero, List.nil_append, Nat.zero_add, List.length_map, hn, List.map_append, List.map_append]
  simp
theorem big4_length (i : Nat) : (big 4 i).length = 4 := big_length 4 i
set_option maxRecDepth 100000 in
set_option maxHeartbeats 1000000 in
theorem streamBlock_any (key nonce : List UInt8) (kr nr : List Value) (hk : Vec 16 key kr) (hn : Vec 12 nonce nr) (i : Nat) (hi : i < 2 ^ 32) (w : World) :
    Calls Tryz.prog 143 #[.agg kr.toArray, .agg nr.toArray, .int .u32 i] w fun e w' => ∃ ts : List Value, Hid (Vec 16 (blk key nonce i) ts) ∧ e = .returned (.agg ts.toArray) ∧ Below w.heap.size w w' := by
  have HK := Lib.hid hk
  have HN := Lib.hid hn
  have Hzk : Hid (kr.toArray.size = 16) := hk.size
  have Hzn : Hid (nr.toArray.size = 12) := hn.size
  have hz := zero16
  obtain ⟨w0, hw0⟩ : ∃ w0, w0 = (((w.alloc (.cells kr.toArray 25)).alloc (.cells nr.toArray 212)).alloc (.cells Z16.toArray 25)).alloc (.cells Z16.toArray 25) := ⟨_, rfl⟩
  have HR0 : Hid (Row w0 w.heap.size 25 kr) := by rw [hw0]; exact (((Row.new w 25 kr).alloc _).alloc _).alloc _
  have HR1 : Hid (Row w0 (w.heap.size + 1) 212 nr) := by rw [hw0]; exact ((Row.newAt 212 nr (by simp)).alloc _).alloc _
  have HR2 : Hid (Row w0 (w.heap.size + 1 + 1) 25 Z16) := by rw [hw0]; exact (Row.newAt 25 Z16 (by simp)).alloc _
  have HR3 : Hid (Row w0 (w.heap.size + 1 + 1 + 1) 25 Z16) := by rw [hw0]; exact Row.newAt 25 Z16 (by simp)
  have HBL : Hid (Below w.heap.size w w0) := by rw [hw0]; exact ((((Below.refl _ _).alloc (Nat.le_refl _) _).alloc (by simp) _).alloc (by simp; omega) _).alloc (by simp; omega) _
  have K1 : Hid (nr.length = Nat.min 12 16) := hn.len
  have K3 : Hid (0 + nr.length ≤ Z16.length) := by show _ ≤ _; rw [hn.len]; decide
  have K4 : Hid (∀ v ∈ nr, v.oneCell' = true) := by rw [hn.1]; exact oneC8 _
  clear hk hn
  go_enter Tryz.func143, Tryz.ntmps143
  go_wp2
  rw [← hw0]
  clear hw0 hz
  have K2 : Hid (0 < nr.length → (some (⟨w.heap.size + 1 + 1 + 1, 0, none⟩ : Addr)) = some ⟨w.heap.size + 1 + 1 + 1, 0, none⟩ ∧ ∃ ad, some (⟨w.heap.size + 1, 0, none⟩ : Addr) = some ad ∧ ∀ (j : Nat) v, nr[j]? = some v → w0.drew.cell? (ad.add j) = some v) := by
    intro _
    refine ⟨rfl, _, rfl, fun j v hv => ?_⟩
    rw [add_off, Nat.zero_add]
    exact (HR1.out.drew.cell j).trans hv
  go_region_law (refine step_copy_splice rfl (.tmp 8) (.tmp 9) 22 22 rfl 5 Tryz.underlying22 elem8 _ _ 16 16 12 12 rfl rfl (w.heap.size + 1 + 1 + 1) 0 Z16 25 HR3.out nr K1.out K2.out K3.out K4.out (w.heap.size + 1 + 1 + 1) w0 ⟨rfl, rfl, rfl, Nat.le_refl _, fun _ _ => rfl⟩ (Nat.le_refl _) ?_; intro w3 Hg3 hb3)
  all_goals
    have HC3 : Hid (Row w3 (w.heap.size + 1 + 1 + 1) 25 ((nonce ++ [0, 0, 0, 0] ++ []).map V8)) := by
      have := Hg3.out
      rw [HN.out.1, copied16 nonce HN.out.2] at this
      exact this
    have HK3 : Hid (Row w3 w.heap.size 25 kr) := HR0.out.below hb3 (by omega)
    have HS3 : Hid (Row w3 (w.heap.size + 1 + 1) 25 Z16) := HR2.out.below hb3 (by omega)
    have HB3 : Hid (Below w.heap.size w w3) := HBL.out.trans (hb3.mono (by omega))
    clear Hg3 hb3 HR0 HR1 HR2 HR3 HBL K1 K2 K3 K4 Hzn
    go_wp2_with fail
    refine (putNumber_any (w.heap.size + 1 + 1 + 1) 12 4 4 i (by omega) (by omega) 25 nonce [0, 0, 0, 0] [] HN.out.2 rfl w3 HC3.out).mono ?_
    rintro e w4 ⟨rfl, Hr4, hg4⟩
    have HV4 : Hid (Vec 16 (nonce ++ big 4 i) ((nonce ++ big 4 i).map V8)) := Vec.mk 16 _ (by rw [List.length_append, big4_length, HN.out.2])
    rw [List.append_nil] at Hr4
    obtain ⟨cs, hcs⟩ : ∃ cs, cs = (nonce ++ big 4 i).map V8 := ⟨_, rfl⟩
    rw [← hcs] at Hr4 HV4
    have Hzc : Hid (cs.toArray.size = 16) := HV4.out.size
    have HK4 : Hid (Row w4 w.heap.size 25 kr) := HK3.out.grown hg4 (by simp; omega)
    have HS4 : Hid (Row w4 (w.heap.size + 1 + 1) 25 Z16) := HS3.out.grown hg4 (by simp)
    have HB4 : Hid (Below w.heap.size w w4) := HB3.out.grown hg4 HB3.out.size (fun k hk => by injection hk with hk; omega)
    clear hcs hg4 HC3 HK3 HS3 HB3
    go_wp2_with (first
      | (refine wpList_load_row rfl 25 (.tmp 3) rfl w.heap.size rfl 25 kr.toArray (0, 0) _ HK4.out Tryz.underlying25 rfl (by rw [Hzk.out]; kernel_rfl) ?_)
      | (refine wpList_load_row rfl 25 (.tmp 7) rfl (w.heap.size + 1 + 1 + 1) rfl 25 cs.toArray (0, 0) _ Hr4.out Tryz.underlying25 rfl (by rw [Hzc.out]; kernel_rfl) ?_))
    refine (AEnc_any key (nonce ++ big 4 i) kr cs HK.out HV4.out w4).mono ?_
    rintro e w5 ⟨ts, Hts, rfl, hb5⟩
    have Hzt : Hid (ts.toArray.size = 16) := Hts.out.size
    have Hone : Hid (ts.toArray.all (·.oneCell') = true) := Hts.out.one
    have HS5 : Hid (Row w5 (w.heap.size + 1 + 1) 25 Z16) := HS4.out.below hb5 HS4.out.lt
    have HB5 : Hid (Below w.heap.size w w5) := HB4.out.trans (hb5.mono HB4.out.size)
    clear hb5 HK4 HS4 HB4 Hr4
    go_wp2_with (refine wpList_store_row rfl 25 (.tmp 6) (.tmp 17) rfl (w.heap.size + 1 + 1) ts.toArray rfl rfl 25 _ HS5.out (by rw [Hzt.out]; kernel_rfl) (by rw [Hzt.out]; rfl) Hone.out ?_)
    have hlast := HS5.out.whole ts
    have hinfo : (Tryz.prog.info? 25).map (·.size) = some ts.toArray.size := by rw [Hzt.out]; kernel_rfl
    refine bodyPost_ret (v := .agg ts.toArray) (results_cell_row rfl _ _ (w.heap.size + 1 + 1) 25 ts.toArray (0, 0) _ rfl hlast Tryz.underlying25 rfl hinfo) rfl ?_
    exact ⟨ts, Hts, rfl, below_setRow' HB5.out (by omega) _⟩
end Go.Proofs.YthbmknpbcgnabaaGreatDoor
end
section
namespace Go.Proofs.YthbmknpbcgnabaaGreatDoor
open Go.RowKit Ctr
def Z12 : List Value := List.replicate 12 (.int .u8 0)
theorem zero12 (w : World) : (zeroValue 212).run Tryz.prog w = .ok (.agg Z12.toArray) w := by kernel_rfl
set_option maxRecDepth 100000 in
set_option maxHeartbeats 400000 in
theorem Nonce_any (d : Int) (b : Nat) (hb : (b : Int) = d % 4294967296) (v : Nat) (hv : v < 2 ^ 64) (w : World) :
    Calls Tryz.prog 126 #[.int .i64 d, .int .u64 v] w fun e w' => ∃ ts : List Value, Hid (Vec 12 (nnc b v) ts) ∧ e = .returned (.agg ts.toArray) ∧ Below w.heap.size w w' := by
  have hz := zero12
  obtain ⟨w0, hw0⟩ : ∃ w0, w0 = (w.alloc (.cells Z12.toArray 212)).alloc (.cells Z12.toArray 212) := ⟨_, rfl⟩
  have HR0 : Hid (Row w0 w.heap.size 212 Z12) := by rw [hw0]; exact (Row.new w 212 Z12).alloc _
  have HR1 : Hid (Row w0 (w.heap.size + 1) 212 (([] ++ [0, 0, 0, 0] ++ [0, 0, 0, 0, 0, 0, 0, 0] : List UInt8).map V8)) := by rw [hw0]; exact Row.newAt 212 Z12 (by simp)
  have HBL : Hid (Below w.heap.size w w0) := by rw [hw0]; exact ((Below.refl _ _).alloc (Nat.le_refl _) _).alloc (by simp) _
  have HBd := Lib.hid hb
  clear hb
  go_enter Tryz.func126, Tryz.ntmps126
  go_wp2_with fail
  rw [← hw0]
  clear hw0 hz
  rw [← HBd.out]
  refine (putNumber_any (w.heap.size + 1) 0 4 12 b (by have := HBd.out; omega) (by omega) 212 [] [0, 0, 0, 0] [0, 0, 0, 0, 0, 0, 0, 0] rfl rfl w0 HR1.out).mono ?_
  rintro e w1 ⟨rfl, Hr1, hg1⟩
  have HN1 : Hid (Row w1 w.heap.size 212 Z12) := HR0.out.grown hg1 (by simp)
  have HB1 : Hid (Below w.heap.size w w1) := HBL.out.grown hg1 HBL.out.size (fun k hk => by injection hk with hk; omega)
  have HC1 : Hid (Row w1 (w.heap.size + 1) 212 ((big 4 b ++ [0, 0, 0, 0, 0, 0, 0, 0] ++ []).map V8)) := by
    have := Hr1.out
    rw [List.nil_append] at this
    rw [List.append_nil]
    exact this
  clear HR0 HR1 HBL Hr1 hg1 HBd
  go_wp2_with fail
  refine (putNumber_any (w.heap.size + 1) 4 8 8 v hv (by omega) 212 (big 4 b) [0, 0, 0, 0, 0, 0, 0, 0] [] (big_length 4 b) rfl w1 HC1.out).mono ?_
  rintro e w2 ⟨rfl, Hr2, hg2⟩
  have HN2 : Hid (Row w2 w.heap.size 212 Z12) := HN1.out.grown hg2 (by simp)
  have HB2 : Hid (Below w.heap.size w w2) := HB1.out.grown hg2 HB1.out.size (fun k hk => by injection hk with hk; omega)
  rw [List.append_nil] at Hr2
  have HV : Hid (Vec 12 (nnc b v) ((big 4 b ++ big 8 v).map V8)) := Vec.mk 12 _ (nnc_length b v)
  obtain ⟨ts, hts⟩ : ∃ ts, ts = (big 4 b ++ big 8 v).map V8 := ⟨_, rfl⟩
  rw [← hts] at Hr2 HV
  have Hzt : Hid (ts.toArray.size = 12) := HV.out.size
  have Hone : Hid (ts.toArray.all (·.oneCell') = true) := HV.out.one
  clear hts hg2 HN1 HB1 HC1
  go_wp2_with (first
    | (refine wpList_load_row rfl 212 (.tmp 5) rfl (w.heap.size + 1) rfl 212 ts.toArray (0, 0) _ Hr2.out Tryz.underlying212 rfl (by rw [Hzt.out]; kernel_rfl) ?_)
    | (refine wpList_store_row rfl 212 (.tmp 4) (.tmp 14) rfl w.heap.size ts.toArray rfl rfl 212 _ HN2.out (by rw [Hzt.out]; kernel_rfl) (by rw [Hzt.out]; rfl) Hone.out ?_))
  have hlast := HN2.out.whole ts
  have hinfo : (Tryz.prog.info? 212).map (·.size) = some ts.toArray.size := by rw [Hzt.out]; kernel_rfl
  refine bodyPost_ret (v := .agg ts.toArray) (results_cell_row rfl _ _ w.heap.size 212 ts.toArray (0, 0) _ rfl hlast Tryz.underlying212 rfl hinfo) rfl ?_
  exact ⟨ts, HV, rfl, below_setRow' HB2.out (Nat.le_refl _) _⟩
end Go.Proofs.YthbmknpbcgnabaaGreatDoor
end
section
namespace Go.Proofs.YthbmknpbcgnabaaGreatDoor
open Go.RowKit Aes Ctr
theorem made_n (n : Nat) (hn : n ≤ 1000000) (W : World) : (Instr.makeSlice 22 (.int .i64 (n : Int)) (.int .i64 (n : Int))).run Tryz.prog W = .ok (.slice (some ⟨W.heap.size, 0, none⟩) n n) (W.alloc (.cells ((List.replicate n (0 : UInt8)).map V8).toArray 5)) := by
  have h := run_make_row' (P := Tryz.prog) 22 5 (.int .u8 0) 1 Tryz.underlying22 info8 rfl .i64 .i64 n (by omega) (by omega) W
  rw [show madeCells #[Value.int .u8 0] n = ((List.replicate n (0 : UInt8)).map V8).toArray from by
    unfold madeCells
    apply Array.ext
    · simp
    · intro i h1 h2
      simp [V8, Nat.mod_one]] at h
  exact h
structure Cod (w W : World) (kr nr : List Value) (cs : List Value) (out : List UInt8) : Prop where
  key : Row W w.heap.size 25 kr
  non : Row W (w.heap.size + 1) 212 nr
  out : Row W (w.heap.size + 1 + 1) 5 (out.map V8)
  str : Row W (w.heap.size + 1 + 1 + 1) 25 cs
  bel : Below w.heap.size w W
theorem streamBlock_at (key nonce : List UInt8) (kr nr : List Value) (hk : Vec 16 key kr) (hn : Vec 12 nonce nr) (j : Int) (i : Nat) (hi : i < 2 ^ 32) (hj : j = (i : Int)) (w : World) :
    Calls Tryz.prog 143 #[.agg kr.toArray, .agg nr.toArray, .int .u32 j] w fun e w' => ∃ ts : List Value, Hid (Vec 16 (blk key nonce i) ts) ∧ e = .returned (.agg ts.toArray) ∧ Below w.heap.size w w' := by
  subst hj
  exact streamBlock_any key nonce kr nr hk hn i hi w
section
variable {w W V : World} {kr nr cs : List Value} {out new old : List UInt8} {k : Nat}
theorem Cod.call (h : Cod w W kr nr cs out) (hb : Below W.heap.size W V) : Cod w V kr nr cs out :=
  ⟨h.key.below hb h.key.lt, h.non.below hb h.non.lt, h.out.below hb h.out.lt, h.str.below hb h.str.lt, h.bel.trans (hb.mono h.bel.size)⟩
theorem Cod.stream (h : Cod w W kr nr cs out) (ds : List Value) : Cod w (W.setRow (w.heap.size + 1 + 1 + 1) ds.toArray) kr nr ds out :=
  ⟨h.key.wholeOff (by omega) _, h.non.wholeOff (by omega) _, h.out.wholeOff (by omega) _, h.str.whole ds, below_setRow' h.bel (by omega) _⟩
theorem Cod.put (h : Cod w W kr nr cs (upd new old k)) (hl : old.length = new.length) (hk : k < new.length) {z : Int} (hz : z = ((new.getD k 0).toNat : Int)) :
    Cod w (W.setCell ⟨w.heap.size + 1 + 1, k, none⟩ (.int .u8 z)) kr nr cs (upd new old (k + 1)) :=
  ⟨h.key.apart (by show w.heap.size ≠ w.heap.size + 1 + 1; omega) _, h.non.apart (by show w.heap.size + 1 ≠ w.heap.size + 1 + 1; omega) _, upd_put h.out hl hk hz, h.str.apart (by show w.heap.size + 1 + 1 + 1 ≠ w.heap.size + 1 + 1; omega) _, h.bel.setCell (by show w.heap.size ≤ w.heap.size + 1 + 1; omega) _⟩
theorem Cod.ks (h : Cod w W kr nr cs out) {key nonce s : List UInt8} (hv : Vec 16 s cs) (hs : s = blk key nonce (k / 16)) : W.cell? ⟨w.heap.size + 1 + 1 + 1, k % 16, none⟩ = some (.int .u8 (ksAt key nonce k).toNat) := by
  rw [h.str.cell, hv.at_ (k % 16) (Nat.mod_lt _ (by omega)), hs]
  rfl
end
set_option maxRecDepth 100000 in
set_option maxHeartbeats 400000 in
theorem Code_any (key nonce b : List UInt8) (kr nr : List Value) (hk : Vec 16 key kr) (hn : Vec 12 nonce nr) (v : Value) (hbl : b.length ≤ 100000) (w : World) (h : Arg w v b) :
    Calls Tryz.prog 125 #[.agg kr.toArray, .agg nr.toArray, v] w fun e w' => ∃ g, e = .returned (.slice (some ⟨g, 0, none⟩) b.length b.length) ∧ w.heap.size ≤ g ∧ Hid (Row w' g 5 ((code key nonce b).map V8)) ∧ Below w.heap.size w w' := by
  obtain ⟨A, cap, rfl⟩ := h.form
  obtain ⟨n, hnl⟩ : ∃ n, n = b.length := ⟨_, rfl⟩
  rw [← hnl] at h hbl ⊢
  have HNl := Lib.hid hnl
  have HK := Lib.hid hk
  have HN := Lib.hid hn
  have HA := Lib.hid h
  have Hzk : Hid (kr.toArray.size = 16) := hk.size
  have Hzn : Hid (nr.toArray.size = 12) := hn.size
  obtain ⟨zs, hzs⟩ : ∃ zs, zs = (List.replicate n (0 : UInt8)).map V8 := ⟨_, rfl⟩
  have hmk : ∀ W, (Instr.makeSlice 22 (.int .i64 (n : Int)) (.int .i64 (n : Int))).run Tryz.prog W = .ok (.slice (some ⟨W.heap.size, 0, none⟩) n n) (W.alloc (.cells zs.toArray 5)) := fun W => by rw [hzs]; exact made_n n (by omega) W
  have hz := zero16
  have HC0 : Hid (Cod w ((((w.alloc (.cells kr.toArray 25)).alloc (.cells nr.toArray 212)).alloc (.cells zs.toArray 5)).alloc (.cells Z16.toArray 25)) kr nr Z16 (upd (code key nonce b) (List.replicate n 0) 0)) := by
    refine ⟨(((Row.new w 25 kr).alloc _).alloc _).alloc _, ((Row.newAt 212 nr (by simp)).alloc _).alloc _, ?_, Row.newAt 25 Z16 (by simp), ((((Below.refl _ _).alloc (Nat.le_refl _) _).alloc (by simp) _).alloc (by simp; omega) _).alloc (by simp; omega) _⟩
    rw [upd_zero, ← hzs]
    exact (Row.newAt 5 zs (by simp)).alloc _
  have HLen : Hid ((code key nonce b).length = n) := by show _ = _; rw [code_length, hnl]
  have HLz : Hid ((List.replicate n (0 : UInt8)).length = (code key nonce b).length) := by show _ = _; rw [code_length, List.length_replicate, hnl]
  clear hnl hk hn h hzs
  go_enter Tryz.func125, Tryz.ntmps125
  go_wp2
  go_loopw [9, 10, 16] (fun _ _ i wr => ∃ (k : Nat) (cs : List Value) (s : List UInt8), k ≤ n ∧ i = .int .i64 k ∧ Hid (Vec 16 s cs) ∧ Hid (k % 16 ≠ 0 → s = blk key nonce (k / 16)) ∧ Hid (Cod w wr kr nr cs (upd (code key nonce b) (List.replicate n 0) k))) (fun _ _ i _ => n - (intOf i).toNat)
  case atStart => exact ⟨0, Z16, List.replicate 16 0, by omega, rfl, ⟨Z16_eq, List.length_replicate⟩, fun h => absurd rfl h, HC0⟩
  case round =>
    obtain ⟨k, cs, s, hk, rfl, Hcs, Hs, HC⟩ := hrel
    clear HC0 hmk hz
    by_cases hlt : k < n
    · obtain ⟨bb, o, rfl, hbb, hsee⟩ : ∃ bb o, A = some ⟨bb, o, none⟩ ∧ bb < w.heap.size ∧ Sees w bb o (b.map V8) := by
        rcases HA.out with ⟨A', e, _⟩ | ⟨bb, o, c, e, hbb, _, hs⟩
        · injection e with _ e2 _; omega
        · injection e with e1 _ _; exact ⟨bb, o, e1, hbb, hs⟩
      have c1 : wr.cell? ⟨bb, o + k, none⟩ = some (.int .u8 (b.getD k 0).toNat) := at8 (hsee.below HC.out.bel hbb) k (by rw [← HNl.out]; exact hlt)
      have Hcode : Hid ((code key nonce b).getD k 0 = b.getD k 0 ^^^ ksAt key nonce k) := code_at key nonce b k (by rw [← HNl.out]; exact hlt)
      generalize b.getD k 0 = x at *
      have c3 : wr.cell? ⟨w.heap.size + 1 + 1, k, none⟩ = some (.int .u8 ((List.replicate n (0 : UInt8)).getD k 0).toNat) := upd_cell HC.out.out HLz.out k (Nat.le_refl _) (by rw [HLen.out]; exact hlt)
      generalize ((List.replicate n (0 : UInt8)).getD k 0).toNat = y at *
      have hkl : k < (code key nonce b).length := by rw [HLen.out]; exact hlt
      have HX := Lib.hid (xor8 x (ksAt key nonce k))
      have Hkl := Lib.hid hkl
      clear hkl hsee
      by_cases hm : k % 16 = 0
      · clear Hs c3
        go_wp2_with (first
          | (refine wpList_load_row rfl 25 (.tmp 3) rfl w.heap.size rfl 25 kr.toArray (0, 0) _ HC.out.key Tryz.underlying25 rfl (by rw [Hzk.out]; kernel_rfl) ?_)
          | (refine wpList_load_row rfl 212 (.tmp 4) rfl (w.heap.size + 1) rfl 212 nr.toArray (0, 0) _ HC.out.non Tryz.underlying212 rfl (by rw [Hzn.out]; kernel_rfl) ?_))
        refine (streamBlock_at key nonce kr nr HK.out HN.out _ (k / 16) (by omega) (by omega) wr).mono ?_
        rintro e w1 ⟨ts, Hts, rfl, hb1⟩
        have Hzt : Hid (ts.toArray.size = 16) := Hts.out.size
        have Hone : Hid (ts.toArray.all (·.oneCell') = true) := Hts.out.one
        have HC1 : Hid (Cod w w1 kr nr cs (upd (code key nonce b) (List.replicate n 0) k)) := HC.out.call hb1
        have HC2 : Hid (Cod w (w1.setRow (w.heap.size + 1 + 1 + 1) ts.toArray) kr nr ts (upd (code key nonce b) (List.replicate n 0) k)) := HC1.out.stream ts
        have c2 := HC2.out.ks Hts.out rfl
        have f3 := HC2.out.out.free k
        have c4 : (w1.setRow (w.heap.size + 1 + 1 + 1) ts.toArray).cell? ⟨w.heap.size + 1 + 1, k, none⟩ = some (.int .u8 ((List.replicate n (0 : UInt8)).getD k 0).toNat) := upd_cell HC2.out.out HLz.out k (Nat.le_refl _) Hkl.out
        generalize ((List.replicate n (0 : UInt8)).getD k 0).toNat = y at *
        generalize ksAt key nonce k = z at *
        have Hzc : Hid (cs.toArray.size = 16) := Hcs.out.size
        have Hm := Lib.hid hm
        clear hb1 HC c1 Hcs hm
        go_wp2_with (refine wpList_store_row rfl 25 (.tmp 8) (.tmp 29) rfl (w.heap.size + 1 + 1 + 1) ts.toArray rfl rfl 25 _ HC1.out.str (by rw [Hzt.out]; kernel_rfl) (by rw [Hzt.out]; exact Hzc.out) Hone.out ?_)
        clear HC1
        generalize w1.setRow (w.heap.size + 1 + 1 + 1) ts.toArray = w2 at *
        go_wp2
        go_roundw
        case rel =>
          refine ⟨k + 1, ts, blk key nonce (k / 16), by omega, by go_num, Hts, ?_, HC2.out.put HLz.out Hkl.out ?_⟩
          · intro _
            rw [show (k + 1) / 16 = k / 16 by have := Hm.out; omega]
          · rw [HX.out, Hcode.out]
        case measure => simp [intOf]; omega
      · have c2 := HC.out.ks Hcs.out (Hs.out hm)
        have f3 := HC.out.out.free k
        generalize ksAt key nonce k = z at *
        go_wp2
        go_roundw
        case rel =>
          refine ⟨k + 1, cs, s, by omega, by go_num, Hcs, ?_, HC.out.put HLz.out Hkl.out ?_⟩
          · intro h1
            rw [show (k + 1) / 16 = k / 16 by omega]
            exact Hs.out hm
          · rw [HX.out, Hcode.out]
        case measure => simp [intOf]; omega
    · obtain rfl : k = n := by omega
      have Hall : Hid (upd (code key nonce b) (List.replicate k 0) k = code key nonce b) := upd_all HLen.out List.length_replicate
      rw [Hall.out] at HC
      clear Hall
      go_wp2
      go_ret
      exact ⟨_, rfl, by omega, HC.out.out, HC.out.bel⟩
end Go.Proofs.YthbmknpbcgnabaaGreatDoor
end
