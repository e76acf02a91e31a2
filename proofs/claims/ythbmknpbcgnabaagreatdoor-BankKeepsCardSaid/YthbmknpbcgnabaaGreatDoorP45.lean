/-
  OF THE WALK: WE.
-/
import Derived.Test.YthbmknpbcgnabaaGreatDoorP43
import Derived.Test.YthbmknpbcgnabaaGreatDoorP44
namespace Go.Proofs.YthbmknpbcgnabaaGreatDoor
open Go.RowKit Aes Ctr Sl Dsk
theorem arr_eqD (D : Nat) (t : TypeId) (n : Nat) (ht : Tryz.prog.underlying t = some (.array n 5)) (a b : List UInt8) (rs ss : List Value) (ha : Vec n a rs) (hb : Vec n b ss) (w : World) :
    (Op.equalIn (D + 2) t (.agg rs.toArray) (.agg ss.toArray)).run Tryz.prog w = .ok (decide (a = b)) w := by
  have hs : (sizeOf 5).run Tryz.prog w = .ok 1 w := by kernel_rfl
  have hag : (isAgg 5).run Tryz.prog w = .ok false w := by kernel_rfl
  rw [Op.equalIn]
  simp only [Sem.run_bind, run_underlying ht, Result.andThen_ok, hs]
  simp only [Std.Legacy.Range.forIn_eq_forIn_range', Std.Legacy.Range.size, Nat.sub_zero, Nat.add_sub_cancel, Nat.div_one]
  have key : ∀ L : List Nat, (∀ i ∈ L, i < n) → (forIn (m := Sem) L ((none, ()) : Option Bool × Unit) fun i _ => do
            let a ← part 5 rs.toArray (i * 1)
            let b ← part 5 ss.toArray (i * 1)
            let c ← Op.equalIn (D + 1) 5 a b
            if (!c) = true then pure (ForInStep.done ((some false, ()) : Option Bool × Unit)) else pure (ForInStep.yield (none, ()))).run Tryz.prog w = .ok (if ∀ i ∈ L, a.getD i 0 = b.getD i 0 then (none, ()) else (some false, ())) w := by
    intro L
    induction L with
    | nil => intro _; simp
    | cons i r ih =>
      intro hL
      have hi : i < n := hL i (by simp)
      have hp : (part 5 rs.toArray (i * 1)).run Tryz.prog w = .ok (.int .u8 (a.getD i 0).toNat) w := by
        have hx := ha.at_ i hi
        simp only [part, Sem.run_bind, hag, Result.andThen_ok]
        simp [hx]
      have hq : (part 5 ss.toArray (i * 1)).run Tryz.prog w = .ok (.int .u8 (b.getD i 0).toNat) w := by
        have hx := hb.at_ i hi
        simp only [part, Sem.run_bind, hag, Result.andThen_ok]
        simp [hx]
      have he : (Op.equalIn (D + 1) 5 (.int .u8 ((a.getD i 0).toNat : Int)) (.int .u8 ((b.getD i 0).toNat : Int))).run Tryz.prog w = .ok (((a.getD i 0).toNat : Int) == ((b.getD i 0).toNat : Int)) w := by
        rw [run_equalIn_int w D 5 .u8 .u8 _ _ Tryz.underlying5]
      rw [List.forIn_cons]
      by_cases hxy : a.getD i 0 = b.getD i 0
      · have hbb : (((a.getD i 0).toNat : Int) == ((b.getD i 0).toNat : Int)) = true := by rw [hxy]; simp
        rw [hbb] at he
        simp only [Sem.run_bind, hp, hq, Result.andThen_ok, he, Bool.not_true, Bool.false_eq_true, if_false, Sem.run_pure]
        rw [ih (fun j hj => hL j (by simp [hj]))]
        simp only [List.mem_cons, forall_eq_or_imp, hxy, true_and]
      · have hbb : (((a.getD i 0).toNat : Int) == ((b.getD i 0).toNat : Int)) = false := by
          rw [beq_eq_false_iff_ne]
          intro hh
          exact hxy (UInt8.toNat_inj.1 (by omega))
        rw [hbb] at he
        simp only [Sem.run_bind, hp, hq, Result.andThen_ok, he, Bool.not_false, if_true, Sem.run_pure]
        simp only [List.mem_cons, forall_eq_or_imp, hxy, false_and, if_false]
  rw [key _ (fun i hi => by simpa using (List.mem_range'_1.1 hi).2)]
  by_cases hab : a = b
  · rw [if_pos (fun i _ => by rw [hab])]
    simp [hab]
  · have hne : ¬ ∀ i ∈ List.range' 0 n 1, a.getD i 0 = b.getD i 0 := by
      intro hh
      apply hab
      apply List.ext_getElem (by rw [ha.2, hb.2])
      intro i h1 h2
      have h3 := hh i (by rw [List.mem_range'_1]; have := ha.2; omega)
      simpa [List.getD_eq_getElem?_getD, h1, h2] using h3
    rw [if_neg hne]
    simp [hab]
theorem reg_stood : Tryz.prog.stoodInHeld 41 = false := by kernel_rfl
def regFields : List Field := [{ name := "Epoch", type := 39, offset := 0, embedded := false, tag := "", pkgPath := "", byteOffset := 0 }, { name := "Bank", type := 3, offset := 1, embedded := false, tag := "", pkgPath := "", byteOffset := 8 }, { name := "Root", type := 27, offset := 2, embedded := false, tag := "", pkgPath := "", byteOffset := 16 }]
theorem reg_fields : Tryz.prog.fieldsOf 41 = regFields.toArray := by
  unfold Program.fieldsOf
  rw [Tryz.underlying41]
  rfl
theorem reg_part2 (cs : List Value) (x y : Value) (hc : cs.length = 32) (w : World) : (part 27 (x :: y :: cs).toArray 2).run Tryz.prog w = .ok (.agg cs.toArray) w := by
  have ha2 : (isAgg 27).run Tryz.prog w = .ok true w := by kernel_rfl
  have hs2 : (sizeOf 27).run Tryz.prog w = .ok 32 w := by kernel_rfl
  have he : (x :: y :: cs).toArray.extract 2 (2 + 32) = cs.toArray := by
    apply Array.toList_inj.1
    rw [Array.toList_extract]
    show List.extract (x :: y :: cs) 2 34 = cs
    rw [List.extract_eq_take_drop]
    show List.take 32 cs = cs
    rw [List.take_of_length_le (by omega)]
  simp only [part, Sem.run_bind, ha2, Result.andThen_ok, if_true, hs2, Sem.run_pure, he]
theorem reg_part0 (cs : List Value) (x y : Value) (w : World) : (part 39 (x :: y :: cs).toArray 0).run Tryz.prog w = .ok x w := by
  have ha0 : (isAgg 39).run Tryz.prog w = .ok false w := by kernel_rfl
  simp [part, ha0]
theorem reg_part1 (cs : List Value) (x y : Value) (w : World) : (part 3 (x :: y :: cs).toArray 1).run Tryz.prog w = .ok y w := by
  have ha1 : (isAgg 3).run Tryz.prog w = .ok false w := by kernel_rfl
  simp [part, ha1]
theorem reg_eq (ep bank : Nat) (root : List UInt8) (hr : root.length = 32) (w : World) : (Op.equalIn 10000 41 (.agg (regV ep bank root).toArray) (.agg (regV ep bank root).toArray)).run Tryz.prog w = .ok true w := by
  have ht : Tryz.prog.underlying 41 = some (.struct (Tryz.prog.fieldsOf 41)) := by rw [reg_fields]; exact Tryz.underlying41
  have p0 := reg_part0 (root.map V8) (.int .u64 (ep : Int)) (.int .i64 (bank : Int)) w
  have p1 := reg_part1 (root.map V8) (.int .u64 (ep : Int)) (.int .i64 (bank : Int)) w
  have p2 := reg_part2 (root.map V8) (.int .u64 (ep : Int)) (.int .i64 (bank : Int)) (by rw [List.length_map, hr]) w
  have e0 : (Op.equalIn (9998 + 1) 39 (.int .u64 (ep : Int)) (.int .u64 (ep : Int))).run Tryz.prog w = .ok true w := by
    rw [run_equalIn_int w 9998 39 .u64 .u64 _ _ Tryz.underlying39]; simp
  have e1 : (Op.equalIn (9998 + 1) 3 (.int .i64 (bank : Int)) (.int .i64 (bank : Int))).run Tryz.prog w = .ok true w := by
    rw [run_equalIn_int w 9998 3 .i64 .i64 _ _ Tryz.underlying3]; simp
  have e2 : (Op.equalIn (9997 + 2) 27 (.agg (root.map V8).toArray) (.agg (root.map V8).toArray)).run Tryz.prog w = .ok true w := by
    have := arr_eqD 9997 27 32 Tryz.underlying27 root root _ _ (Vec.mk 32 root hr) (Vec.mk 32 root hr) w
    rwa [decide_eq_true rfl] at this
  have key : ∀ D : Nat, (Op.equalIn D 39 (.int .u64 (ep : Int)) (.int .u64 (ep : Int))).run Tryz.prog w = .ok true w → (Op.equalIn D 3 (.int .i64 (bank : Int)) (.int .i64 (bank : Int))).run Tryz.prog w = .ok true w →
      (Op.equalIn D 27 (.agg (root.map V8).toArray) (.agg (root.map V8).toArray)).run Tryz.prog w = .ok true w → (Op.equalIn (D + 1) 41 (.agg (regV ep bank root).toArray) (.agg (regV ep bank root).toArray)).run Tryz.prog w = .ok true w := fun D h0 h1 h2 => by
    rw [run_equalIn_struct w D 41 _ _ ht reg_stood, reg_fields]
    unfold regV
    generalize root.map V8 = cs at *
    simp [regFields, Op.eqFields, p0, p1, p2, h0, h1, h2]
  exact key 9999 e0 e1 e2
theorem run_binop {a : Act} {op : Oper} {b : BinOp} {t r : TypeId} {x y : Operand} (ho : op.op = .binOp b t x y r) {vx vy v : Value} {w : World} (hx : a.eval x = vx) (hy : a.eval y = vy)
    (hg : (eqGuard b t x y vx vy).run Tryz.prog w = .ok () w) (h : (binOp b t vx vy).run Tryz.prog w = .ok v w) : (execOp a.eval op).run Tryz.prog w = .ok (.value v) w := by
  unfold execOp
  simp only [ho, hx, hy, Sem.run_bind, hg, h, Result.andThen_ok, Sem.run_pure]
end Go.Proofs.YthbmknpbcgnabaaGreatDoor
