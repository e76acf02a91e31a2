/-
  WHAT A LATER STAGE WANTS OF MERKLE: rows of tags read; the contracts of Height, Node, Root; arrays compared.
-/
import Derived.Test.YtepbnimheedodaaDoorMF
import Derived.Laws.StructEq
namespace Go.Proofs.YtepbnimheedodaaDoor
open Go.RowKit Mk

/-- A slice of tags, read. -/
def Tags (w : World) (v : Value) (l : List Tg) : Prop :=
  (∀ t ∈ l, t.length = 32) ∧ ∃ A cap, v = .slice A l.length cap ∧ (0 < l.length → ∃ b o, A = some ⟨b, o, none⟩ ∧ b < w.heap.size ∧ ∀ j t, l[j]? = some t → Sees w b (o + 32 * j) (t.map V8))
theorem Tags.below {w w' : World} {v : Value} {l : List Tg} (h : Tags w v l) (hb : Below w.heap.size w w') : Tags w' v l := by
  obtain ⟨h32, A, cap, e, hs⟩ := h
  refine ⟨h32, A, cap, e, fun hp => ?_⟩
  obtain ⟨b, o, eA, hl, hs⟩ := hs hp
  exact ⟨b, o, eA, Nat.lt_of_lt_of_le hl hb.size, fun j t ht => (hs j t ht).below hb hl⟩

def HeightC : Prop := ∀ (m : Int) (w : World), m ≤ 100000 → Calls Tryd.prog 19 #[.int .i64 m] w fun e w' => (∃ h : Nat, Hid (IsH m h) ∧ h ≤ 9 ∧ e = .returned (.int .i64 (h : Int))) ∧ Below w.heap.size w w'
def NodeC : Prop := ∀ (key : Tg) (four : List Tg) (v : Value) (ks : List Value) (w : World), key.length ≤ 1000 → four.length = 4 → (∀ t ∈ four, t.length = 32) → ks = four.flatten.map V8 → Hm.Tab w → Arg w v key →
  Calls Tryd.prog 33 #[v, .agg ks.toArray] w fun e w' => (∃ rs : List Value, Hid (Vec 32 (node key four) rs) ∧ e = .returned (.agg rs.toArray)) ∧ Below w.heap.size w w'
def RootC : Prop := ∀ (key : Tg) (l : List Tg) (v x : Value) (w : World), key.length ≤ 1000 → l.length ≤ 100 → Hm.Tab w → Arg w v key → Tags w x l →
  Calls Tryd.prog 18 #[v, x] w fun e w' => (∃ (h : Nat) (rs : List Value), Hid (IsH l.length h) ∧ Hid (Vec 32 (root key l h) rs) ∧ e = .returned (.agg rs.toArray)) ∧ Below w.heap.size w w'
theorem arr_eq (t : TypeId) (n : Nat) (ht : Tryd.prog.underlying t = some (.array n 5)) (a b : List UInt8) (rs ss : List Value) (ha : Vec n a rs) (hb : Vec n b ss) (w : World) :
    (Op.equalIn 10000 t (.agg rs.toArray) (.agg ss.toArray)).run Tryd.prog w = .ok (decide (a = b)) w := by
  have hs : (sizeOf 5).run Tryd.prog w = .ok 1 w := by kernel_rfl
  have hag : (isAgg 5).run Tryd.prog w = .ok false w := by kernel_rfl
  rw [show (10000 : Nat) = 9999 + 1 from rfl, Op.equalIn]
  simp only [Sem.run_bind, run_underlying ht, Result.andThen_ok, hs]
  simp only [Std.Legacy.Range.forIn_eq_forIn_range', Std.Legacy.Range.size, Nat.sub_zero, Nat.add_sub_cancel, Nat.div_one]
  have key : ∀ L : List Nat, (∀ i ∈ L, i < n) → (forIn (m := Sem) L ((none, ()) : Option Bool × Unit) fun i _ => do
            let a ← part 5 rs.toArray (i * 1)
            let b ← part 5 ss.toArray (i * 1)
            let c ← Op.equalIn 9999 5 a b
            if (!c) = true then pure (ForInStep.done ((some false, ()) : Option Bool × Unit)) else pure (ForInStep.yield (none, ()))).run Tryd.prog w = .ok (if ∀ i ∈ L, a.getD i 0 = b.getD i 0 then (none, ()) else (some false, ())) w := by
    intro L
    induction L with
    | nil => intro _; simp
    | cons i r ih =>
      intro hL
      have hi : i < n := hL i (by simp)
      have hp : (part 5 rs.toArray (i * 1)).run Tryd.prog w = .ok (.int .u8 (a.getD i 0).toNat) w := by
        have hx := ha.at_ i hi
        simp only [part, Sem.run_bind, hag, Result.andThen_ok]
        simp [hx]
      have hq : (part 5 ss.toArray (i * 1)).run Tryd.prog w = .ok (.int .u8 (b.getD i 0).toNat) w := by
        have hx := hb.at_ i hi
        simp only [part, Sem.run_bind, hag, Result.andThen_ok]
        simp [hx]
      have he : (Op.equalIn 9999 5 (.int .u8 ((a.getD i 0).toNat : Int)) (.int .u8 ((b.getD i 0).toNat : Int))).run Tryd.prog w = .ok (((a.getD i 0).toNat : Int) == ((b.getD i 0).toNat : Int)) w := by
        rw [show (9999 : Nat) = 9998 + 1 from rfl, run_equalIn_int w 9998 5 .u8 .u8 _ _ Tryd.underlying5]
      rw [List.forIn_cons]
      by_cases hxy : a.getD i 0 = b.getD i 0
      · have hbb : (((a.getD i 0).toNat : Int) == ((b.getD i 0).toNat : Int)) = true := by rw [hxy]; simp
        rw [hbb] at he
        simp only [Sem.run_bind, hp, hq, Result.andThen_ok, he, Bool.not_true, Bool.false_eq_true, if_false, Sem.run_pure]
        rw [ih (fun j hj => hL j (by simp [hj]))]
        simp only [List.mem_cons, forall_eq_or_imp, hxy, true_and]
      · have hbb : (((a.getD i 0).toNat : Int) == ((b.getD i 0).toNat : Int)) = false := by
          rw [beq_eq_false_iff_ne]
          intro hh
          exact hxy (UInt8.toNat_inj.1 (by omega))
        rw [hbb] at he
        simp only [Sem.run_bind, hp, hq, Result.andThen_ok, he, Bool.not_false, if_true, Sem.run_pure]
        simp only [List.mem_cons, forall_eq_or_imp, hxy, false_and, if_false]
  rw [key _ (fun i hi => by simpa using (List.mem_range'_1.1 hi).2)]
  by_cases hab : a = b
  · rw [if_pos (fun i _ => by rw [hab])]
    simp [hab]
  · have hne : ¬ ∀ i ∈ List.range' 0 n 1, a.getD i 0 = b.getD i 0 := by
      intro hh
      apply hab
      apply List.ext_getElem (by rw [ha.2, hb.2])
      intro i h1 h2
      have h3 := hh i (by rw [List.mem_range'_1]; have := ha.2; omega)
      simpa [List.getD_eq_getElem?_getD, h1, h2] using h3
    rw [if_neg hne]
    simp [hab]

theorem Vec.same {n : Nat} {a b : List UInt8} {rs ss : List Value} (ha : Vec n a rs) (hb : Vec n b ss) (h : a = b) : rs = ss := by rw [ha.1, hb.1, h]

def Z128 : List Value := List.replicate 128 (.int .u8 0)
theorem zero4 (w : World) : (zeroValue 80).run Tryd.prog w = .ok (.agg Z128.toArray) w := by kernel_rfl
theorem Z128_eq : Z128 = (List.replicate 4 zero).flatten.map V8 := by kernel_rfl
end Go.Proofs.YtepbnimheedodaaDoor
