/-
  OCTETS: bytes as cells, as rows, as arrays, as slices, as strings (no function of the program).
-/
import Derived.Test.YtaamhdgngnpmoaaRows
import Derived.Test.YtaamhdgngnpmoaaN
import Derived.WalkKit
import Derived.WalkSpells
import Derived.WalkLawsBesides
import Derived.Deep.QuietTactic
import Derived.BigQuiet
import Derived.Lib.Hide
import Derived.Laws.BitsAllLaws
import Derived.Laws.BytesArg
import Derived.Laws.MakeOwn
namespace Go.Proofs.Ytaamhdgngnpmoaa
open Go.RowKit

theorem lt8 (x : UInt8) : x.toNat < 256 := x.toNat_lt
theorem toNat_ofNat8 {n : Nat} (h : n < 256) : (UInt8.ofNat n).toNat = n := by
  rw [UInt8.toNat_ofNat']; exact Nat.mod_eq_of_lt h
theorem byte_eq (n : Nat) : ((n : Int)) % 256 = ((UInt8.ofNat n).toNat : Int) := by
  rw [UInt8.toNat_ofNat']; omega
theorem byte_eq' (x k : Nat) : ((x : Int)) / (k : Int) % 256 = ((UInt8.ofNat (x / k)).toNat : Int) := by
  rw [UInt8.toNat_ofNat', Int.natCast_emod, Int.natCast_ediv]; rfl
theorem xor8 (x y : UInt8) : bits .xor .u8 (x.toNat : Int) y.toNat = ((x ^^^ y).toNat : Int) := by
  rw [u8_xor_nat _ _ (lt8 x) (lt8 y), UInt8.toNat_xor]
theorem ret8 {a b : Int} (h : a = b) : Ending.returned (.int .u8 a) = .returned (.int .u8 b) := by rw [h]
theorem int8 {a b : Int} (h : a = b) : Value.int .u8 a = .int .u8 b := by rw [h]

/-- A row of bytes filled up with zeros to n places. -/
def pad8 (n : Nat) (l : List UInt8) : List UInt8 := l ++ List.replicate (n - l.length) 0
theorem pad8_length (n : Nat) (l : List UInt8) (h : l.length ≤ n) : (pad8 n l).length = n := by simp [pad8]; omega
theorem pad8_set (n : Nat) (l : List UInt8) (x : UInt8) (h : l.length < n) : (pad8 n l).set l.length x = pad8 n (l ++ [x]) := by
  unfold pad8
  rw [List.set_append_right _ _ (Nat.le_refl _), Nat.sub_self, show n - l.length = (n - (l ++ [x]).length) + 1 by simp; omega, List.replicate_succ, List.set_cons_zero]
  simp
theorem pad8_set4 (n : Nat) (l : List UInt8) (a b c d : UInt8) (h : l.length + 4 ≤ n) :
    ((((pad8 n l).set l.length a).set (l.length + 1) b).set (l.length + 2) c).set (l.length + 3) d = pad8 n (l ++ [a, b, c, d]) := by
  rw [pad8_set n l a (by omega)]
  have h1 := pad8_set n (l ++ [a]) b (by simp; omega)
  simp only [List.length_append, List.length_cons, List.length_nil, List.append_assoc, List.cons_append, List.nil_append] at h1
  rw [h1]
  have h2 := pad8_set n (l ++ [a, b]) c (by simp; omega)
  simp only [List.length_append, List.length_cons, List.length_nil, List.append_assoc, List.cons_append, List.nil_append] at h2
  rw [h2]
  have h3 := pad8_set n (l ++ [a, b, c]) d (by simp; omega)
  simp only [List.length_append, List.length_cons, List.length_nil, List.append_assoc, List.cons_append, List.nil_append] at h3
  exact h3
theorem pad8_get (n : Nat) (l : List UInt8) (j : Nat) (hj : j < n) : (pad8 n l)[j]? = some (l.getD j 0) := by
  unfold pad8
  rcases Nat.lt_or_ge j l.length with h | h
  · rw [List.getElem?_append_left h]; simp [h]
  · rw [List.getElem?_append_right h, List.getElem?_replicate, if_pos (by omega)]; simp [h]
theorem pad8_full (l : List UInt8) : pad8 l.length l = l := by simp [pad8]

/-- Bytes as cells. -/
def V8 (x : UInt8) : Value := .int .u8 x.toNat
theorem at8 {w : World} {b off : Nat} {bs : List UInt8} (h : Sees w b off (bs.map V8)) (i : Nat) (hi : i < bs.length) : w.cell? ⟨b, off + i, none⟩ = some (.int .u8 (bs.getD i 0).toNat) :=
  h.at_ (by rw [List.getElem?_map, List.getElem?_eq_getElem hi]; simp [V8, hi])
theorem row8 {w : World} {g : Nat} {t : TypeId} {bs : List UInt8} (h : Row w g t (bs.map V8)) (i : Nat) (hi : i < bs.length) : w.cell? ⟨g, i, none⟩ = some (.int .u8 (bs.getD i 0).toNat) := by
  rw [h.cell, List.getElem?_map, List.getElem?_eq_getElem hi]; simp [V8, hi]
theorem cell8 {w : World} {g : Nat} {t : TypeId} {n : Nat} {l : List UInt8} (h : Row w g t ((pad8 n l).map V8)) (i : Nat) (hi : i < n) : w.cell? ⟨g, i, none⟩ = some (.int .u8 (l.getD i 0).toNat) := by
  rw [h.cell, List.getElem?_map, pad8_get _ _ _ hi]; rfl
theorem one8 (l : List UInt8) : ((l.map V8).toArray).all (·.oneCell') = true := by
  rw [Array.all_eq_true_iff_forall_mem]
  intro u hu
  obtain ⟨x, _, rfl⟩ := List.mem_map.1 (by simpa using hu)
  rfl
theorem oneC8 (l : List UInt8) : ∀ y ∈ l.map V8, y.oneCell' = true := fun y hy => by obtain ⟨x, _, rfl⟩ := List.mem_map.1 hy; rfl
theorem from_new (w : World) (e : TypeId) (ys : List Value) : From (w.alloc (.cells ys.toArray e)) (.slice (some ⟨w.heap.size, 0, none⟩) ys.length ys.length) ys :=
  .inr ⟨w.heap.size, 0, ys.length, rfl, by simp, (Row.new w e ys).sees⟩
theorem info8 : (Try.prog.info? 5).map (fun i => (i.zero, i.size, i.bytes)) = some (some (.int .u8 0), 1, 1) := by kernel_rfl
theorem elem8 : (Try.prog.info? 5).map (·.size) = some 1 := by kernel_rfl

/-- A slice of bytes, nil let in. -/
def Arg (w : World) (v : Value) (bs : List UInt8) : Prop :=
  (∃ A, v = .slice A 0 0 ∧ bs = []) ∨ ∃ b o cap, v = .slice (some ⟨b, o, none⟩) bs.length cap ∧ b < w.heap.size ∧ bs.length ≤ cap ∧ Sees w b o (bs.map V8)
theorem Arg.below {w w' : World} {v : Value} {bs : List UInt8} (h : Arg w v bs) (hb : Below w.heap.size w w') : Arg w' v bs := by
  rcases h with h | ⟨b, o, cap, e, hl, hc, hs⟩
  · exact .inl h
  · exact .inr ⟨b, o, cap, e, Nat.lt_of_lt_of_le hl hb.size, hc, hs.below hb hl⟩
theorem Arg.form {w : World} {v : Value} {bs : List UInt8} (h : Arg w v bs) : ∃ A cap, v = .slice A bs.length cap := by
  rcases h with ⟨A, e, rfl⟩ | ⟨b, o, c, e, _⟩
  · exact ⟨A, 0, e⟩
  · exact ⟨_, c, e⟩
theorem Own.arg {w : World} {B : Nat} {v : Value} {bs : List UInt8} (h : Own w B 5 v (bs.map V8)) : Arg w v bs := by
  rcases h.2 with ⟨rfl, h0⟩ | ⟨g, cap, cur, rfl, _, hg, hc, _⟩
  · exact .inl ⟨none, rfl, List.eq_nil_of_length_eq_zero (by simpa using h0)⟩
  · rw [List.length_map] at hc
    refine .inr ⟨g, 0, cap, by rw [List.length_map], (Array.getElem?_eq_some_iff.1 hg).1, hc, fun j u hu => ?_⟩
    have := World.ownsRow.cells h (g := g) rfl j u hu
    rwa [add_off] at this
theorem arg_from {w : World} {v : Value} {bs : List UInt8} (h : Arg w v bs) : From w v (bs.map V8) := by
  rcases h with ⟨A, e, rfl⟩ | ⟨b, o, c, e, hb, _, hs⟩
  · exact .inl ⟨A, e, rfl⟩
  · exact .inr ⟨b, o, c, by rw [List.length_map]; exact e, hb, hs⟩
theorem Arg.src {w : World} {A : Option Addr} {n cap : Nat} {bs : List UInt8} (h : Arg w (.slice A n cap) bs) (hp : 0 < bs.length) : ∃ ad, A = some ad ∧ ∀ (j : Nat) v, (bs.map V8)[j]? = some v → w.cell? (ad.add j) = some v := by
  rcases h with ⟨A', e, rfl⟩ | ⟨b, o, c, e, _, _, hs⟩
  · simp at hp
  · injection e with e1 _ _
    refine ⟨_, e1, fun j v hv => ?_⟩
    rw [add_off]
    exact hs j v hv
theorem Row.arg {w : World} {g : Nat} {t : TypeId} {bs : List UInt8} (h : Row w g t (bs.map V8)) (n : Nat) (hn : bs.length = n) : Arg w (.slice (some ⟨g, 0, none⟩) n n) bs :=
  .inr ⟨g, 0, n, by rw [hn], h.lt, by omega, h.sees⟩

/-- The cells of an array of n bytes. -/
def Vec (n : Nat) (bs : List UInt8) (rs : List Value) : Prop := rs = bs.map V8 ∧ bs.length = n
section
variable {n : Nat} {bs : List UInt8} {rs : List Value}
theorem Vec.len (h : Vec n bs rs) : rs.length = n := by rw [h.1, List.length_map, h.2]
theorem Vec.size (h : Vec n bs rs) : rs.toArray.size = n := by rw [List.size_toArray, h.len]
theorem Vec.one (h : Vec n bs rs) : rs.toArray.all (·.oneCell') = true := by rw [h.1]; exact one8 bs
theorem Vec.mk (n : Nat) (bs : List UInt8) (h : bs.length = n) : Vec n bs (bs.map V8) := ⟨rfl, h⟩
theorem Vec.row {w : World} {g : Nat} {t : TypeId} (h : Vec n bs rs) (hr : Row w g t rs) : Row w g t (bs.map V8) := h.1 ▸ hr
theorem Vec.at_ (h : Vec n bs rs) (j : Nat) (hj : j < n) : rs[j]? = some (.int .u8 (bs.getD j 0).toNat) := by
  rw [h.1, List.getElem?_map, List.getElem?_eq_getElem (by rw [h.2]; exact hj), List.getD_eq_getElem?_getD, List.getElem?_eq_getElem (by rw [h.2]; exact hj)]
  rfl
end

/-- a[j] of an array of bytes by value. -/
theorem run_index8 (t : TypeId) (n : Nat) (ht : Try.prog.underlying t = some (.array n 5)) (ks : List Value) (j : Nat) (hj : j < n) (x : Int) (h : ks[j]? = some (.int .u8 x)) (w : World) :
    (Instr.index t (.agg ks.toArray) (.int .i64 (j : Int))).run Try.prog w = .ok (.int .u8 x) w := by
  have hb : 0 ≤ (j : Int) ∧ (j : Int) < n := by omega
  have hs : (sizeOf 5).run Try.prog w = .ok 1 w := by kernel_rfl
  simp only [Instr.index, asIntOf, run_underlying ht, Sem.run_bind, Sem.run_pure, Result.andThen_ok, part]
  simp [h, hs, hj]

/-- A row that is turned place by place: the first k places are new. -/
def upd (new old : List UInt8) (k : Nat) : List UInt8 := new.take k ++ old.drop k
section
variable {new old : List UInt8} {k : Nat}
theorem upd_zero : upd new old 0 = old := by simp [upd]
theorem upd_all (h : new.length = k) (h2 : old.length = k) : upd new old k = new := by
  rw [upd, List.take_of_length_le (by omega), List.drop_eq_nil_of_le (by omega), List.append_nil]
theorem upd_length (h : old.length = new.length) : (upd new old k).length = new.length := by simp [upd]; omega
theorem upd_set (h : old.length = new.length) (hk : k < new.length) : (upd new old k).set k (new.getD k 0) = upd new old (k + 1) := by
  unfold upd
  rw [List.set_append_right _ _ (by simp; omega), List.take_succ_eq_append_getElem hk, List.append_assoc]
  congr 1
  have h1 : k - (new.take k).length = 0 := by simp; omega
  rw [h1, List.drop_eq_getElem_cons (by omega : k < old.length), List.set_cons_zero, List.getD_eq_getElem?_getD, List.getElem?_eq_getElem hk]
  rfl
theorem upd_old (h : old.length = new.length) (j : Nat) (hj : k ≤ j) : (upd new old k).getD j 0 = old.getD j 0 := by
  unfold upd
  rcases Nat.lt_or_ge k new.length with hk | hk
  · rw [List.getD_eq_getElem?_getD, List.getElem?_append_right (by simp; omega), List.getElem?_drop, List.length_take, Nat.min_eq_left (by omega), show k + (j - k) = j by omega, List.getD_eq_getElem?_getD]
  · rw [List.drop_eq_nil_of_le (by omega), List.append_nil, List.take_of_length_le hk, List.getD_eq_getElem?_getD, List.getD_eq_getElem?_getD, List.getElem?_eq_none (by omega), List.getElem?_eq_none (by omega)]
end
theorem upd_cell {w : World} {g : Nat} {t : TypeId} {new old : List UInt8} {k : Nat} (h : Row w g t ((upd new old k).map V8)) (hl : old.length = new.length) (j : Nat) (hj : k ≤ j) (hn : j < new.length) : w.cell? ⟨g, j, none⟩ = some (.int .u8 (old.getD j 0).toNat) := by
  rw [row8 h j (by rw [upd_length hl]; exact hn), upd_old hl j hj]
theorem upd_put {w : World} {g : Nat} {t : TypeId} {new old : List UInt8} {k : Nat} (h : Row w g t ((upd new old k).map V8)) (hl : old.length = new.length) (hk : k < new.length) {z : Int} (hz : z = ((new.getD k 0).toNat : Int)) :
    Row (w.setCell ⟨g, k, none⟩ (.int .u8 z)) g t ((upd new old (k + 1)).map V8) := by
  rw [← upd_set hl hk, List.map_set, hz]
  exact h.set k _

/-- Bytes as a string. -/
def strB (bs : List UInt8) : ByteArray := ⟨bs.toArray⟩
theorem strB_inj {a b : List UInt8} : strB a = strB b ↔ a = b := by
  constructor
  · intro h
    have := congrArg (fun x : ByteArray => x.data.toList) h
    simpa [strB] using this
  · intro h; rw [h]
set_option maxRecDepth 100000 in
theorem conv_arg {w : World} {v : Value} {bs : List UInt8} (h : Arg w v bs) : (convert 23 9 v).run Try.prog w = .ok (.string (strB bs)) w := by
  rcases h with ⟨A, rfl, rfl⟩ | ⟨b, o, cap, rfl, _, _, hs⟩
  · cases A with
    | none => exact run_convert_bytes_nil w 23 5 Try.underlying23 Try.underlying5 0 0 9 Try.underlying9
    | some ad =>
      rw [run_convert_bytes_string w 23 9 5 (some ad) 0 0 Try.underlying23 Try.underlying5 Try.underlying9]
      exact run_bytesToString w ad 0 0 [] (by simp [loadCells, loadCellsFrom])
  · have hx := run_convert_bytes_arg (P := Try.prog) w 23 5 Try.underlying23 Try.underlying5 b o bs.length cap (bs.map fun x => (x.toNat : Int)) (by simp) (fun i hi => by
      have := at8 hs i hi
      rw [this]
      simp [hi]) 9 Try.underlying9
    rw [hx]
    congr 2
    unfold strB
    have : (strOfNums (bs.map fun x => (x.toNat : Int))).data.toList = bs := by
      rw [strOfNums_data, List.map_map]
      conv => rhs; rw [← List.map_id bs]
      apply List.map_congr_left
      intro x _
      simp
    cases hq : strOfNums (bs.map fun x => (x.toNat : Int)) with
    | mk d => rw [hq] at this; simp at this; rw [← this]
end Go.Proofs.Ytaamhdgngnpmoaa
