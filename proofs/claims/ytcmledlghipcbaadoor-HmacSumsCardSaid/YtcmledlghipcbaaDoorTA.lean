/-
  TOOLS for the laws on tags: bytes as arguments, as arrays, as strings; the digest, the full key, the tag, joined parts.
-/
import Derived.Test.YtcmledlghipcbaaDoorW
import Derived.Test.YtcmledlghipcbaaDoorX
import Derived.Test.YtcmledlghipcbaaDoorG
import Derived.Laws.BytesArg
import Derived.Laws.MakeOwn
import Derived.Deep.RegionHeld3
import Derived.Deep.RegionWith
namespace Go.Proofs.YtcmledlghipcbaaDoor
open Go.RowKit Sha

theorem Own.arg {w : World} {B : Nat} {v : Value} {bs : List UInt8} (h : Own w B 5 v (bs.map V8)) : Arg w v bs := by
  rcases h.2 with ⟨rfl, h0⟩ | ⟨g, cap, cur, rfl, _, hg, hc, _⟩
  · exact .inl ⟨none, rfl, List.eq_nil_of_length_eq_zero (by simpa using h0)⟩
  · rw [List.length_map] at hc
    refine .inr ⟨g, 0, cap, by rw [List.length_map], (Array.getElem?_eq_some_iff.1 hg).1, hc, fun j u hu => ?_⟩
    have := World.ownsRow.cells h (g := g) rfl j u hu
    rwa [add_off] at this
theorem arg_from {w : World} {v : Value} {bs : List UInt8} (h : Arg w v bs) : From w v (bs.map V8) := by
  rcases h with ⟨A, e, rfl⟩ | ⟨b, o, c, e, hb, _, hs⟩
  · exact .inl ⟨A, e, rfl⟩
  · exact .inr ⟨b, o, c, by rw [List.length_map]; exact e, hb, hs⟩
theorem Arg.src {w : World} {A : Option Addr} {n cap : Nat} {bs : List UInt8} (h : Arg w (.slice A n cap) bs) (hp : 0 < bs.length) : ∃ ad, A = some ad ∧ ∀ (j : Nat) v, (bs.map V8)[j]? = some v → w.cell? (ad.add j) = some v := by
  rcases h with ⟨A', e, rfl⟩ | ⟨b, o, c, e, _, _, hs⟩
  · simp at hp
  · injection e with e1 _ _
    refine ⟨_, e1, fun j v hv => ?_⟩
    rw [add_off]
    exact hs j v hv
theorem Arg.form {w : World} {v : Value} {bs : List UInt8} (h : Arg w v bs) : ∃ A cap, v = .slice A bs.length cap := by
  rcases h with ⟨A, e, rfl⟩ | ⟨b, o, c, e, _⟩
  · exact ⟨A, 0, e⟩
  · exact ⟨_, c, e⟩
theorem Row.arg {w : World} {g : Nat} {t : TypeId} {bs : List UInt8} (h : Row w g t (bs.map V8)) (n : Nat) (hn : bs.length = n) : Arg w (.slice (some ⟨g, 0, none⟩) n n) bs :=
  .inr ⟨g, 0, n, by rw [hn], h.lt, by omega, h.sees⟩

/-- Bytes as a string. -/
def strB (bs : List UInt8) : ByteArray := ⟨bs.toArray⟩
theorem strB_inj {a b : List UInt8} : strB a = strB b ↔ a = b := by
  constructor
  · intro h
    have := congrArg (fun x : ByteArray => x.data.toList) h
    simpa [strB] using this
  · intro h; rw [h]
theorem conv_arg {w : World} {v : Value} {bs : List UInt8} (h : Arg w v bs) : (convert 22 9 v).run Tryd.prog w = .ok (.string (strB bs)) w := by
  rcases h with ⟨A, rfl, rfl⟩ | ⟨b, o, cap, rfl, _, _, hs⟩
  · cases A with
    | none => exact run_convert_bytes_nil w 22 5 Tryd.underlying22 Tryd.underlying5 0 0 9 Tryd.underlying9
    | some ad =>
      rw [run_convert_bytes_string w 22 9 5 (some ad) 0 0 Tryd.underlying22 Tryd.underlying5 Tryd.underlying9]
      exact run_bytesToString w ad 0 0 [] (by simp [loadCells, loadCellsFrom])
  · have hx := run_convert_bytes_arg (P := Tryd.prog) w 22 5 Tryd.underlying22 Tryd.underlying5 b o bs.length cap (bs.map fun x => (x.toNat : Int)) (by simp) (fun i hi => by
      have := at8 hs i hi
      rw [this]
      simp [hi]) 9 Tryd.underlying9
    rw [hx]
    congr 2
    unfold strB
    have : (strOfNums (bs.map fun x => (x.toNat : Int))).data.toList = bs := by
      rw [strOfNums_data, List.map_map]
      conv => rhs; rw [← List.map_id bs]
      apply List.map_congr_left
      intro x _
      simp
    cases hq : strOfNums (bs.map fun x => (x.toNat : Int)) with
    | mk d => rw [hq] at this; simp at this; rw [← this]

/-- The digest of some bytes. -/
def dg (bs : List UInt8) : List UInt8 := dig (sumSt K0 bs)
theorem dg_length (bs : List UInt8) : (dg bs).length = 32 := dig_length _
/-- The table of the cube roots lies where it is laid. -/
def Tab (w : World) : Prop := 0 < w.heap.size ∧ Sees w 0 0 (K0.map V32)
theorem Tab.below {w w' : World} (h : Tab w) (hb : Below w.heap.size w w') : Tab w' := ⟨Nat.lt_of_lt_of_le h.1 hb.size, h.2.below hb h.1⟩
/-- The cells of an array of n bytes. -/
def Vec (n : Nat) (bs : List UInt8) (rs : List Value) : Prop := rs = bs.map V8 ∧ bs.length = n
section
variable {n : Nat} {bs : List UInt8} {rs : List Value}
theorem Vec.len (h : Vec n bs rs) : rs.length = n := by rw [h.1, List.length_map, h.2]
theorem Vec.size (h : Vec n bs rs) : rs.toArray.size = n := by rw [List.size_toArray, h.len]
theorem Vec.one (h : Vec n bs rs) : rs.toArray.all (·.oneCell') = true := by rw [h.1]; exact one8 bs
theorem Vec.mk (n : Nat) (bs : List UInt8) (h : bs.length = n) : Vec n bs (bs.map V8) := ⟨rfl, h⟩
theorem Vec.row {w : World} {g : Nat} {t : TypeId} (h : Vec n bs rs) (hr : Row w g t rs) : Row w g t (bs.map V8) := h.1 ▸ hr
end

theorem Sum_vec (v : Value) (bs : List UInt8) (hn : bs.length ≤ 1000000) (w : World) (hT : Tab w) (h : Arg w v bs) :
    Calls Tryd.prog 22 #[v] w fun e w' => ∃ rs : List Value, Hid (Vec 32 (dg bs) rs) ∧ e = .returned (.agg rs.toArray) ∧ Below w.heap.size w w' :=
  (Sum_any v K0 K0_length bs hn w hT.1 hT.2 h).mono fun _ _ h => ⟨_, Vec.mk 32 (dg bs) (dg_length bs), h⟩

/-- The full key, the key with a mask, the tag. -/
def fullK (key : List UInt8) : List UInt8 := pad8 64 (if 64 < key.length then dg key else key)
theorem fullK_length (key : List UInt8) : (fullK key).length = 64 := by
  rw [fullK]
  split
  · exact pad8_length _ _ (by rw [dg_length]; omega)
  · exact pad8_length _ _ (by omega)
def xorK (k : List UInt8) (m : UInt8) : List UInt8 := k.map (· ^^^ m)
theorem xorK_length (k : List UInt8) (m : UInt8) : (xorK k m).length = k.length := List.length_map _
def mac (key b : List UInt8) : List UInt8 := dg (xorK (fullK key) 92 ++ dg (xorK (fullK key) 54 ++ b))
theorem mac_length (key b : List UInt8) : (mac key b).length = 32 := dg_length _
theorem xor8 (x y : UInt8) : bits .xor .u8 (x.toNat : Int) y.toNat = ((x ^^^ y).toNat : Int) := by
  rw [u8_xor_nat _ _ (lt8 x) (lt8 y), UInt8.toNat_xor]
theorem xorK_take (k : List UInt8) (m : UInt8) (j : Nat) (h : j < k.length) : xorK (k.take (j + 1)) m = xorK (k.take j) m ++ [k.getD j 0 ^^^ m] := by
  unfold xorK
  rw [List.take_succ_eq_append_getElem h, List.map_append, List.getD_eq_getElem?_getD, List.getElem?_eq_getElem h]
  rfl

theorem fullK_short (key : List UInt8) (n : Nat) (h1 : key.length ≤ n) (h2 : n ≤ 64) : fullK ((fullK key).take n) = fullK key := by
  have hs : ¬ 64 < key.length := by omega
  have e1 : fullK key = pad8 64 key := by rw [fullK, if_neg hs]
  rw [e1]
  have hl : ((pad8 64 key).take n).length = n := by rw [List.length_take, pad8_length _ _ (by omega)]; omega
  rw [fullK, if_neg (by rw [hl]; omega)]
  unfold pad8 at *
  rw [hl, List.take_append, List.take_of_length_le h1, List.take_replicate, List.append_assoc, List.replicate_append_replicate]
  congr 2
  omega
theorem fullK_long (key : List UInt8) (h : 64 < key.length) : fullK ((fullK key).take 32) = fullK key := by
  have hd := dg_length key
  rw [fullK.eq_1 key, if_pos h]
  have e : (pad8 64 (dg key)).take 32 = dg key := by
    unfold pad8
    rw [List.take_append_of_le_length (by omega), List.take_of_length_le (by omega)]
  rw [e, fullK, if_neg (by omega)]

/-- A number of bytes, in four bytes; all parts, each behind its number of bytes. -/
def lenB (n : Nat) : List UInt8 := [UInt8.ofNat (n / 16777216), UInt8.ofNat (n / 65536), UInt8.ofNat (n / 256), UInt8.ofNat n]
def joined : List (List UInt8) → List UInt8
  | [] => []
  | p :: r => lenB p.length ++ p ++ joined r
theorem joined_snoc (l : List (List UInt8)) (p : List UInt8) : joined (l ++ [p]) = joined l ++ (lenB p.length ++ p) := by
  induction l with
  | nil => simp [joined]
  | cons a r ih => rw [List.cons_append, joined, joined, ih]; simp only [List.append_assoc]
theorem joined_take (l : List (List UInt8)) (j : Nat) (p : List UInt8) (h : l[j]? = some p) : joined (l.take (j + 1)) = joined (l.take j) ++ (lenB p.length ++ p) := by
  rw [List.take_add_one, h, Option.toList_some, joined_snoc]
theorem lenB_inj {a b : Nat} (ha : a < 4294967296) (hb : b < 4294967296) (h : lenB a = lenB b) : a = b := by
  simp only [lenB, List.cons.injEq] at h
  obtain ⟨h1, h2, h3, h4, _⟩ := h
  have e1 := congrArg UInt8.toNat h1
  have e2 := congrArg UInt8.toNat h2
  have e3 := congrArg UInt8.toNat h3
  have e4 := congrArg UInt8.toNat h4
  simp only [UInt8.toNat_ofNat'] at e1 e2 e3 e4
  omega
theorem joined_inj : ∀ {a b : List (List UInt8)}, (∀ p ∈ a, p.length < 4294967296) → (∀ p ∈ b, p.length < 4294967296) → joined a = joined b → a = b
  | [], [], _, _, _ => rfl
  | [], p :: r, _, _, h => by simp [joined, lenB] at h
  | p :: r, [], _, _, h => by simp [joined, lenB] at h
  | p :: r, q :: s, ha, hb, h => by
    rw [joined, joined, List.append_assoc, List.append_assoc] at h
    have h1 := List.append_inj h (by simp [lenB])
    have hl := lenB_inj (ha p (by simp)) (hb q (by simp)) h1.1
    have h2 := List.append_inj h1.2 hl
    rw [h2.1, joined_inj (fun x hx => ha x (by simp [hx])) (fun x hx => hb x (by simp [hx])) h2.2]

/-- Parts of bytes: a slice of slices. -/
def Vals (w : World) (vs : List Value) (ps : List (List UInt8)) : Prop := vs.length = ps.length ∧ ∀ (j : Nat) v p, vs[j]? = some v → ps[j]? = some p → Arg w v p
def Parts (w : World) (v : Value) (ps : List (List UInt8)) : Prop :=
  ∃ A cap vs, v = .slice A ps.length cap ∧ Vals w vs ps ∧ (0 < ps.length → ∃ b o, A = some ⟨b, o, none⟩ ∧ b < w.heap.size ∧ Sees w b o vs)
theorem Vals.below {w w' : World} {vs : List Value} {ps : List (List UInt8)} (h : Vals w vs ps) (hb : Below w.heap.size w w') : Vals w' vs ps := ⟨h.1, fun j v p hv hp => (h.2 j v p hv hp).below hb⟩
theorem Parts.below {w w' : World} {v : Value} {ps : List (List UInt8)} (h : Parts w v ps) (hb : Below w.heap.size w w') : Parts w' v ps := by
  obtain ⟨A, cap, vs, e, hv, hs⟩ := h
  refine ⟨A, cap, vs, e, hv.below hb, fun hp => ?_⟩
  obtain ⟨b, o, eA, hl, hs⟩ := hs hp
  exact ⟨b, o, eA, Nat.lt_of_lt_of_le hl hb.size, hs.below hb hl⟩
/-- The part at place j, and where it lies. -/
theorem Parts.at_ {w : World} {A : Option Addr} {n cap : Nat} {ps : List (List UInt8)} (h : Parts w (.slice A n cap) ps) (j : Nat) (hj : j < n) :
    ∃ b o A' c' p, A = some ⟨b, o, none⟩ ∧ b < w.heap.size ∧ ps[j]? = some p ∧ w.cell? ⟨b, o + j, none⟩ = some (.slice A' p.length c') ∧ Arg w (.slice A' p.length c') p := by
  obtain ⟨A0, cap0, vs, e, hv, hs⟩ := h
  injection e with e1 e2 e3
  subst e1 e2 e3
  obtain ⟨b, o, eA, hl, hs⟩ := hs (by omega)
  have hvj : j < vs.length := by rw [hv.1]; exact hj
  have hp := List.getElem?_eq_getElem hj
  have hvv := List.getElem?_eq_getElem hvj
  have ha := hv.2 j _ _ hvv hp
  obtain ⟨A', c', e'⟩ := ha.form
  refine ⟨b, o, A', c', _, eA, hl, hp, ?_, ?_⟩
  · rw [← e']; exact hs j _ hvv
  · rw [← e']; exact ha
theorem Parts.len {w : World} {A : Option Addr} {n cap : Nat} {ps : List (List UInt8)} (h : Parts w (.slice A n cap) ps) : ps.length = n := by
  obtain ⟨A0, cap0, vs, e, hv, hs⟩ := h
  injection e with e1 e2 e3
  exact e2.symm
end Go.Proofs.YtcmledlghipcbaaDoor
