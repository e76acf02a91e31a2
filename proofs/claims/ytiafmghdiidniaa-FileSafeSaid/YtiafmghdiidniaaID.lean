/-
  TWO INODES COMPARED.
-/
import Derived.Test.YtiafmghdiidniaaIB
import Derived.Laws.StructEq
import Derived.ChangeKeysEq
set_option maxRecDepth 100000
namespace Go.Proofs.Ytiafmghdiidniaa
open Go.RowKit Cdc Inn

theorem ino_stood : Try.prog.stoodInHeld 40 = false := by kernel_rfl
def inoFields : List Field := [{ name := "Kind", type := 3, offset := 0, embedded := false, tag := "", pkgPath := "", byteOffset := 0 }, { name := "Bytes", type := 3, offset := 1, embedded := false, tag := "", pkgPath := "", byteOffset := 8 }, { name := "Blocks", type := 38, offset := 2, embedded := false, tag := "", pkgPath := "", byteOffset := 16 }, { name := "Indirect", type := 3, offset := 6, embedded := false, tag := "", pkgPath := "", byteOffset := 48 }]
theorem ino_fields : Try.prog.fieldsOf 40 = inoFields.toArray := by
  unfold Program.fieldsOf
  rw [Try.underlying40]
  rfl
theorem ino_ht : Try.prog.underlying 40 = some (.struct (Try.prog.fieldsOf 40)) := by rw [ino_fields]; exact Try.underlying40
theorem int_eq (D : Nat) (a b : Int) (w : World) : (Op.equalIn (D + 1) 3 (.int .i64 a) (.int .i64 b)).run Try.prog w = .ok (a == b) w := run_equalIn_int w D 3 .i64 .i64 a b Try.underlying3
theorem part_int (cs : Array Value) (j : Nat) (v : Value) (h : cs[j]? = some v) (w : World) : (part 3 cs j).run Try.prog w = .ok v w := by
  have ha0 : (isAgg 3).run Try.prog w = .ok false w := by kernel_rfl
  simp [part, ha0, h]
theorem part_arr (x : Ino) (w : World) : (part 38 (inoC x) 2).run Try.prog w = .ok (.agg #[.int .i64 x.b0, .int .i64 x.b1, .int .i64 x.b2, .int .i64 x.b3]) w := by
  have ha2 : (isAgg 38).run Try.prog w = .ok true w := by kernel_rfl
  simp only [part, Sem.run_bind, ha2, Result.andThen_ok]
  rfl
theorem infoI : ∃ i, Try.prog.info? 3 = some i := ⟨_, rfl⟩
theorem cellsInt : Try.prog.cellsOf 3 = 1 := by kernel_rfl
theorem arr4_eq (D : Nat) (a0 a1 a2 a3 b0 b1 b2 b3 : Int) (w : World) :
    (Op.equalIn (D + 2) 38 (.agg #[.int .i64 a0, .int .i64 a1, .int .i64 a2, .int .i64 a3]) (.agg #[.int .i64 b0, .int .i64 b1, .int .i64 b2, .int .i64 b3])).run Try.prog w = .ok (decide ([a0, a1, a2, a3] = [b0, b1, b2, b3])) w := by
  obtain ⟨i, hi⟩ := infoI
  rw [run_equalIn_array w (D + 1) _ _ Try.underlying38 hi, cellsInt]
  have hp : ∀ (c0 c1 c2 c3 : Int), (part 3 #[.int .i64 c0, .int .i64 c1, .int .i64 c2, .int .i64 c3] 0).run Try.prog w = .ok (.int .i64 c0) w ∧ (part 3 #[.int .i64 c0, .int .i64 c1, .int .i64 c2, .int .i64 c3] 1).run Try.prog w = .ok (.int .i64 c1) w ∧
      (part 3 #[.int .i64 c0, .int .i64 c1, .int .i64 c2, .int .i64 c3] 2).run Try.prog w = .ok (.int .i64 c2) w ∧ (part 3 #[.int .i64 c0, .int .i64 c1, .int .i64 c2, .int .i64 c3] 3).run Try.prog w = .ok (.int .i64 c3) w := fun c0 c1 c2 c3 =>
    ⟨part_int _ 0 _ rfl w, part_int _ 1 _ rfl w, part_int _ 2 _ rfl w, part_int _ 3 _ rfl w⟩
  have pa := hp a0 a1 a2 a3
  have pb := hp b0 b1 b2 b3
  have e := fun a b => int_eq D a b w
  clear hp
  generalize (#[.int .i64 a0, .int .i64 a1, .int .i64 a2, .int .i64 a3] : Array Value) = xs at *
  generalize (#[.int .i64 b0, .int .i64 b1, .int .i64 b2, .int .i64 b3] : Array Value) = ys at *
  show (Op.eqItems (D + 1) 3 1 _ _ [0, 1, 2, 3]).run Try.prog w = _
  by_cases h0 : a0 = b0
  · by_cases h1 : a1 = b1
    · by_cases h2 : a2 = b2
      · by_cases h3 : a3 = b3
        · simp [Op.eqItems, pa, pb, e, h0, h1, h2, h3]
        · simp [Op.eqItems, pa, pb, e, h0, h1, h2, h3]
      · simp [Op.eqItems, pa, pb, e, h0, h1, h2]
    · simp [Op.eqItems, pa, pb, e, h0, h1]
  · simp [Op.eqItems, pa, pb, e, h0]
theorem ino_eqD (x y : Ino) (w : World) : (Op.equalIn 10000 40 (.agg (inoC x)) (.agg (inoC y))).run Try.prog w = .ok (decide (x = y)) w := by
  have key : ∀ D : Nat, (Op.equalIn (D + 3) 40 (.agg (inoC x)) (.agg (inoC y))).run Try.prog w = .ok (decide (x = y)) w := fun D => by
    rw [run_equalIn_struct w (D + 2) 40 _ _ ino_ht ino_stood, ino_fields]
    have p0 : ∀ z : Ino, (part 3 (inoC z) 0).run Try.prog w = .ok (.int .i64 z.k) w := fun z => part_int _ 0 _ rfl w
    have p1 : ∀ z : Ino, (part 3 (inoC z) 1).run Try.prog w = .ok (.int .i64 z.b) w := fun z => part_int _ 1 _ rfl w
    have p6 : ∀ z : Ino, (part 3 (inoC z) 6).run Try.prog w = .ok (.int .i64 z.d) w := fun z => part_int _ 6 _ rfl w
    have p2 : ∀ z : Ino, (part 38 (inoC z) 2).run Try.prog w = .ok (.agg #[.int .i64 z.b0, .int .i64 z.b1, .int .i64 z.b2, .int .i64 z.b3]) w := fun z => part_arr z w
    have e := fun a b => int_eq (D + 1) a b w
    have e4 := arr4_eq D x.b0 x.b1 x.b2 x.b3 y.b0 y.b1 y.b2 y.b3 w
    have hxy : x = y ↔ x.k = y.k ∧ x.b = y.b ∧ [x.b0, x.b1, x.b2, x.b3] = [y.b0, y.b1, y.b2, y.b3] ∧ x.d = y.d := by
      constructor
      · rintro rfl; exact ⟨rfl, rfl, rfl, rfl⟩
      · rintro ⟨h1, h2, h3, h4⟩
        apply Ino.ext_l
        simp only [List.cons.injEq, and_true] at h3
        simp only [Ino.l, List.cons.injEq, and_true]
        exact ⟨h1, h2, h3.1, h3.2.1, h3.2.2.1, h3.2.2.2, h4⟩
    rw [show decide (x = y) = decide (x.k = y.k ∧ x.b = y.b ∧ [x.b0, x.b1, x.b2, x.b3] = [y.b0, y.b1, y.b2, y.b3] ∧ x.d = y.d) from decide_eq_decide.2 hxy]
    generalize [x.b0, x.b1, x.b2, x.b3] = l1 at *
    generalize [y.b0, y.b1, y.b2, y.b3] = l2 at *
    by_cases h0 : x.k = y.k
    · by_cases h1 : x.b = y.b
      · by_cases h2 : l1 = l2
        · by_cases h3 : x.d = y.d
          · simp [inoFields, Op.eqFields, p0, p1, p2, p6, e, e4, h0, h1, h2, h3]
          · simp [inoFields, Op.eqFields, p0, p1, p2, p6, e, e4, h0, h1, h2, h3]
        · simp [inoFields, Op.eqFields, p0, p1, p2, e, e4, h0, h1, h2]
      · simp [inoFields, Op.eqFields, p0, p1, e, h0, h1]
    · simp [inoFields, Op.eqFields, p0, e, h0]
  exact key 9997
end Go.Proofs.Ytiafmghdiidniaa
