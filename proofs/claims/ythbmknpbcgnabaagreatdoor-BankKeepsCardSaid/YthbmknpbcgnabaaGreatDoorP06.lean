/-
  OF THE WALK: HmTK.
-/
import Derived.BigQuiet
import Derived.Deep.RegionHeld3
import Derived.Deep.RegionLaw
import Derived.Deep.RegionWith
import Derived.Laws.BytesArg
import Derived.Laws.MakeOwn
import Derived.Laws.StructEq
import Derived.Lib.Hide
import Derived.Test.YthbmknpbcgnabaaGreatDoorP02
import Derived.Test.YthbmknpbcgnabaaGreatDoorP03
import Derived.Test.YthbmknpbcgnabaaGreatDoorP04
import Derived.Test.YthbmknpbcgnabaaGreatDoorP05
import Derived.Test.YthbmknpbcgnabaaGreatDoorRows
import Derived.WalkLawsBesides
import Derived.WalkSpells
section
namespace Go.Proofs.YthbmknpbcgnabaaGreatDoor.Hm
open Go.RowKit Sha
def PEq (n f d : Nat) : Prop := primeN n = primeGo n f d
theorem PEq.on {n f d : Nat} (h : PEq n (f + 1) d) (hd : d * d ≤ n) (hm : ¬ n % d = 0) : PEq n f (d + 1) := by
  unfold PEq at h ⊢
  rw [h, primeGo, if_pos hd, if_neg hm]
def CEq (k : Nat) (l : List UInt32) : Prop := l = rootsC k
def REq (k : Nat) (l : List UInt32) : Prop := l = rootsR k
theorem CEq.few {k : Nat} {l : List UInt32} (h : CEq k l) (hk : k < 310) : l.length < 64 := by
  rw [h, rootsC, List.length_map]; exact primes_few k hk
theorem CEq.all {l : List UInt32} (h : CEq 310 l) : l = K0 := h.trans rootsC_all
theorem REq.all {l : List UInt32} (h : REq 310 l) : l = R0.list := h.trans rootsR_all
theorem RC_len {k : Nat} {l m : List UInt32} (h : REq k l) (g : CEq k m) : l.length = min 8 m.length := by
  rw [h, g, rootsR, rootsC, List.length_map, List.length_map, List.length_take]
theorem CEq.skip {k : Nat} {l : List UInt32} (h : CEq k l) (hp : primeN (k + 2) = false) : CEq (k + 1) l := by
  unfold CEq rootsC at *
  rw [primesTo, hp]
  exact h
theorem REq.skip {k : Nat} {l : List UInt32} (h : REq k l) (hp : primeN (k + 2) = false) : REq (k + 1) l := by
  unfold REq rootsR at *
  rw [primesTo, hp]
  exact h
theorem CEq.more {k : Nat} {l : List UInt32} (h : CEq k l) (hp : primeN (k + 2) = true) {x : UInt32} (hx : x = UInt32.ofNat (rootN (k + 2) true)) : CEq (k + 1) (l ++ [x]) := by
  unfold CEq rootsC at *
  rw [primesTo, hp, if_pos rfl, List.map_append, h, hx]
  rfl
theorem REq.more {k : Nat} {l m : List UInt32} (h : REq k l) (g : CEq k m) (hl : l.length < 8) (hp : primeN (k + 2) = true) {x : UInt32} (hx : x = UInt32.ofNat (rootN (k + 2) false)) : REq (k + 1) (l ++ [x]) := by
  have hlen := RC_len h g
  have hm : (primesTo k).length < 8 := by
    rw [g, rootsC, List.length_map] at hlen
    omega
  unfold REq rootsR at *
  have e1 : (primesTo k ++ [k + 2]).take 8 = primesTo k ++ [k + 2] := List.take_of_length_le (by rw [List.length_append]; simp only [List.length_cons, List.length_nil]; omega)
  have e2 : (primesTo k).take 8 = primesTo k := List.take_of_length_le (by omega)
  rw [primesTo, hp, if_pos rfl, e1, h, e2, hx, List.map_append]
  rfl
theorem REq.full {k : Nat} {l m : List UInt32} (h : REq k l) (g : CEq k m) (hl : ¬ l.length < 8) (hp : primeN (k + 2) = true) : REq (k + 1) l := by
  have hlen := RC_len h g
  have hm : 8 ≤ (primesTo k).length := by
    rw [g, rootsC, List.length_map] at hlen
    omega
  unfold REq rootsR at *
  rw [primesTo, hp, if_pos rfl, h, List.take_append_of_le_length hm]
def Apart (r c : Value) : Prop := ∀ g, r.ownBlock = some g → c.ownBlock ≠ some g
theorem Apart.symm {r c : Value} (h : Apart r c) : Apart c r := fun g e k => h g k e
theorem Apart.keep {w w' : World} {B : Nat} {e : TypeId} {r c : Value} {ys : List Value} (h : Apart r c) (hc : Own w B e c ys) (hg : w.grownBy w' r.ownBlock) : Own w' B e c ys := by
  refine hc.kept hg ?_
  cases hr : r.ownBlock with
  | none => cases c.ownBlock <;> simp
  | some g => exact .inr (h g hr)
theorem Apart.next {w : World} {B : Nat} {e : TypeId} {r r' c : Value} {ys : List Value} (h : Apart r c) (hc : Own w B e c ys) (hr : r'.ownBlock = r.ownBlock ∨ r'.ownBlock = some w.heap.size) : Apart r' c := by
  intro g e1 e2
  rcases hr with k | k
  · exact h g (k ▸ e1) e2
  · have := (hc.lt e2).2
    rw [k] at e1
    cases e1
    omega
end Go.Proofs.YthbmknpbcgnabaaGreatDoor.Hm
end
section
namespace Go.Proofs.YthbmknpbcgnabaaGreatDoor.Hm
open Go.RowKit Sha
theorem Own.arg {w : World} {B : Nat} {v : Value} {bs : List UInt8} (h : Own w B 5 v (bs.map V8)) : Arg w v bs := by
  rcases h.2 with ⟨rfl, h0⟩ | ⟨g, cap, cur, rfl, _, hg, hc, _⟩
  · exact .inl ⟨none, rfl, List.eq_nil_of_length_eq_zero (by simpa using h0)⟩
  · rw [List.length_map] at hc
    refine .inr ⟨g, 0, cap, by rw [List.length_map], (Array.getElem?_eq_some_iff.1 hg).1, hc, fun j u hu => ?_⟩
    have := World.ownsRow.cells h (g := g) rfl j u hu
    rwa [add_off] at this
theorem arg_from {w : World} {v : Value} {bs : List UInt8} (h : Arg w v bs) : From w v (bs.map V8) := by
  rcases h with ⟨A, e, rfl⟩ | ⟨b, o, c, e, hb, _, hs⟩
  · exact .inl ⟨A, e, rfl⟩
  · exact .inr ⟨b, o, c, by rw [List.length_map]; exact e, hb, hs⟩
theorem Arg.src {w : World} {A : Option Addr} {n cap : Nat} {bs : List UInt8} (h : Arg w (.slice A n cap) bs) (hp : 0 < bs.length) : ∃ ad, A = some ad ∧ ∀ (j : Nat) v, (bs.map V8)[j]? = some v → w.cell? (ad.add j) = some v := by
  rcases h with ⟨A', e, rfl⟩ | ⟨b, o, c, e, _, _, hs⟩
  · simp at hp
  · injection e with e1 _ _
    refine ⟨_, e1, fun j v hv => ?_⟩
    rw [add_off]
    exact hs j v hv
theorem Arg.form {w : World} {v : Value} {bs : List UInt8} (h : Arg w v bs) : ∃ A cap, v = .slice A bs.length cap := by
  rcases h with ⟨A, e, rfl⟩ | ⟨b, o, c, e, _⟩
  · exact ⟨A, 0, e⟩
  · exact ⟨_, c, e⟩
theorem Row.arg {w : World} {g : Nat} {t : TypeId} {bs : List UInt8} (h : Row w g t (bs.map V8)) (n : Nat) (hn : bs.length = n) : Arg w (.slice (some ⟨g, 0, none⟩) n n) bs :=
  .inr ⟨g, 0, n, by rw [hn], h.lt, by omega, h.sees⟩
def strB (bs : List UInt8) : ByteArray := ⟨bs.toArray⟩
set_option maxRecDepth 100000 in
theorem conv_arg {w : World} {v : Value} {bs : List UInt8} (h : Arg w v bs) : (convert 22 9 v).run Tryz.prog w = .ok (.string (strB bs)) w := by
  rcases h with ⟨A, rfl, rfl⟩ | ⟨b, o, cap, rfl, _, _, hs⟩
  · cases A with
    | none => exact run_convert_bytes_nil w 22 5 Tryz.underlying22 Tryz.underlying5 0 0 9 Tryz.underlying9
    | some ad =>
      rw [run_convert_bytes_string w 22 9 5 (some ad) 0 0 Tryz.underlying22 Tryz.underlying5 Tryz.underlying9]
      exact run_bytesToString w ad 0 0 [] (by simp [loadCells, loadCellsFrom])
  · have hx := run_convert_bytes_arg (P := Tryz.prog) w 22 5 Tryz.underlying22 Tryz.underlying5 b o bs.length cap (bs.map fun x => (x.toNat : Int)) (by simp) (fun i hi => by
      have := at8 hs i hi
      rw [this]
      simp [hi]) 9 Tryz.underlying9
    rw [hx]
    congr 2
    unfold strB
    have : (strOfNums (bs.map fun x => (x.toNat : Int))).data.toList = bs := by
      rw [strOfNums_data, List.map_map]
      conv => rhs; rw [← List.map_id bs]
      apply List.map_congr_left
      intro x _
      simp
    cases hq : strOfNums (bs.map fun x => (x.toNat : Int)) with
    | mk d => rw [hq] at this; simp at this; rw [← this]
def dg (bs : List UInt8) : List UInt8 := dig (sumSt K0 bs)
theorem dg_length (bs : List UInt8) : (dg bs).length = 32 := dig_length _
def Tab (w : World) : Prop := 0 < w.heap.size ∧ Sees w 0 0 (K0.map V32)
theorem Tab.below {w w' : World} (h : Tab w) (hb : Below w.heap.size w w') : Tab w' := ⟨Nat.lt_of_lt_of_le h.1 hb.size, h.2.below hb h.1⟩
def Vec (n : Nat) (bs : List UInt8) (rs : List Value) : Prop := rs = bs.map V8 ∧ bs.length = n
section
variable {n : Nat} {bs : List UInt8} {rs : List Value}
theorem Vec.len (h : Vec n bs rs) : rs.length = n := by rw [h.1, List.length_map, h.2]
theorem Vec.size (h : Vec n bs rs) : rs.toArray.size = n := by rw [List.size_toArray, h.len]
theorem Vec.one (h : Vec n bs rs) : rs.toArray.all (·.oneCell') = true := by rw [h.1]; exact one8 bs
theorem Vec.mk (n : Nat) (bs : List UInt8) (h : bs.length = n) : Vec n bs (bs.map V8) := ⟨rfl, h⟩
theorem Vec.row {w : World} {g : Nat} {t : TypeId} (h : Vec n bs rs) (hr : Row w g t rs) : Row w g t (bs.map V8) := h.1 ▸ hr
end
theorem Sum_vec (v : Value) (bs : List UInt8) (hn : bs.length ≤ 1000000) (w : World) (hT : Tab w) (h : Arg w v bs) :
    Calls Tryz.prog 128 #[v] w fun e w' => ∃ rs : List Value, Hid (Vec 32 (dg bs) rs) ∧ e = .returned (.agg rs.toArray) ∧ Below w.heap.size w w' :=
  (Sum_any v K0 K0_length bs hn w hT.1 hT.2 h).mono fun _ _ h => ⟨_, Vec.mk 32 (dg bs) (dg_length bs), h⟩
def fullK (key : List UInt8) : List UInt8 := pad8 64 (if 64 < key.length then dg key else key)
theorem fullK_length (key : List UInt8) : (fullK key).length = 64 := by
  rw [fullK]
  split
  · exact pad8_length _ _ (by rw [dg_length]; omega)
  · exact pad8_length _ _ (by omega)
def xorK (k : List UInt8) (m : UInt8) : List UInt8 := k.map (· ^^^ m)
theorem xorK_length (k : List UInt8) (m : UInt8) : (xorK k m).length = k.length := List.length_map _
def mac (key b : List UInt8) : List UInt8 := dg (xorK (fullK key) 92 ++ dg (xorK (fullK key) 54 ++ b))
theorem mac_length (key b : List UInt8) : (mac key b).length = 32 := dg_length _
theorem xor8 (x y : UInt8) : bits .xor .u8 (x.toNat : Int) y.toNat = ((x ^^^ y).toNat : Int) := by
  rw [u8_xor_nat _ _ (lt8 x) (lt8 y), UInt8.toNat_xor]
theorem xorK_take (k : List UInt8) (m : UInt8) (j : Nat) (h : j < k.length) : xorK (k.take (j + 1)) m = xorK (k.take j) m ++ [k.getD j 0 ^^^ m] := by
  unfold xorK
  rw [List.take_succ_eq_append_getElem h, List.map_append, List.getD_eq_getElem?_getD, List.getElem?_eq_getElem h]
  rfl
def lenB (n : Nat) : List UInt8 := [UInt8.ofNat (n / 16777216), UInt8.ofNat (n / 65536), UInt8.ofNat (n / 256), UInt8.ofNat n]
def joined : List (List UInt8) → List UInt8
  | [] => []
  | p :: r => lenB p.length ++ p ++ joined r
theorem joined_snoc (l : List (List UInt8)) (p : List UInt8) : joined (l ++ [p]) = joined l ++ (lenB p.length ++ p) := by
  induction l with
  | nil => simp [joined]
  | cons a r ih => rw [List.cons_append, joined, joined, ih]; simp only [List.append_assoc]
theorem joined_take (l : List (List UInt8)) (j : Nat) (p : List UInt8) (h : l[j]? = some p) : joined (l.take (j + 1)) = joined (l.take j) ++ (lenB p.length ++ p) := by
  rw [List.take_add_one, h, Option.toList_some, joined_snoc]
def Vals (w : World) (vs : List Value) (ps : List (List UInt8)) : Prop := vs.length = ps.length ∧ ∀ (j : Nat) v p, vs[j]? = some v → ps[j]? = some p → Arg w v p
def Parts (w : World) (v : Value) (ps : List (List UInt8)) : Prop :=
  ∃ A cap vs, v = .slice A ps.length cap ∧ Vals w vs ps ∧ (0 < ps.length → ∃ b o, A = some ⟨b, o, none⟩ ∧ b < w.heap.size ∧ Sees w b o vs)
theorem Vals.below {w w' : World} {vs : List Value} {ps : List (List UInt8)} (h : Vals w vs ps) (hb : Below w.heap.size w w') : Vals w' vs ps := ⟨h.1, fun j v p hv hp => (h.2 j v p hv hp).below hb⟩
theorem Parts.below {w w' : World} {v : Value} {ps : List (List UInt8)} (h : Parts w v ps) (hb : Below w.heap.size w w') : Parts w' v ps := by
  obtain ⟨A, cap, vs, e, hv, hs⟩ := h
  refine ⟨A, cap, vs, e, hv.below hb, fun hp => ?_⟩
  obtain ⟨b, o, eA, hl, hs⟩ := hs hp
  exact ⟨b, o, eA, Nat.lt_of_lt_of_le hl hb.size, hs.below hb hl⟩
theorem Parts.at_ {w : World} {A : Option Addr} {n cap : Nat} {ps : List (List UInt8)} (h : Parts w (.slice A n cap) ps) (j : Nat) (hj : j < n) :
    ∃ b o A' c' p, A = some ⟨b, o, none⟩ ∧ b < w.heap.size ∧ ps[j]? = some p ∧ w.cell? ⟨b, o + j, none⟩ = some (.slice A' p.length c') ∧ Arg w (.slice A' p.length c') p := by
  obtain ⟨A0, cap0, vs, e, hv, hs⟩ := h
  injection e with e1 e2 e3
  subst e1 e2 e3
  obtain ⟨b, o, eA, hl, hs⟩ := hs (by omega)
  have hvj : j < vs.length := by rw [hv.1]; exact hj
  have hp := List.getElem?_eq_getElem hj
  have hvv := List.getElem?_eq_getElem hvj
  have ha := hv.2 j _ _ hvv hp
  obtain ⟨A', c', e'⟩ := ha.form
  refine ⟨b, o, A', c', _, eA, hl, hp, ?_, ?_⟩
  · rw [← e']; exact hs j _ hvv
  · rw [← e']; exact ha
theorem Parts.len {w : World} {A : Option Addr} {n cap : Nat} {ps : List (List UInt8)} (h : Parts w (.slice A n cap) ps) : ps.length = n := by
  obtain ⟨A0, cap0, vs, e, hv, hs⟩ := h
  injection e with e1 e2 e3
  exact e2.symm
end Go.Proofs.YthbmknpbcgnabaaGreatDoor.Hm
end
section
namespace Go.Proofs.YthbmknpbcgnabaaGreatDoor.Hm
open Go.RowKit Sha
end Go.Proofs.YthbmknpbcgnabaaGreatDoor.Hm
end
