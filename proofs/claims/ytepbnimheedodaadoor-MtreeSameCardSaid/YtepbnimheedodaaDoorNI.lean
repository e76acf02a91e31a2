/-
  KEYS that are an array of two numbers.
-/
import Derived.Test.YtepbnimheedodaaDoorNH
import Derived.Test.YtepbnimheedodaaDoorNG
namespace Go.Proofs.YtepbnimheedodaaDoor
open Go.RowKit Go.ChangeShapes Go.WideShapes
open Go.Maps (Keyed)
theorem node_row : (68 : TypeId) < Tryd.prog.types.size := of_decide_eq_true (by kernel_rfl)
theorem node_wide : (match Tryd.prog.underlying 68 with | some (.array _ _) | some (.struct _) => true | _ => false) = true := by rw [Tryd.underlying68]
set_option maxRecDepth 100000
theorem node_keyed : Keyed Tryd.prog 68 := Keyed.of_law (deep_law_laid laidOut (m := 2) (by omega) node_row (by kernel_rfl) node_wide)
theorem node_key (a b : Int) (h1 : -9223372036854775808 ≤ a) (h2 : a ≤ 9223372036854775807) (h3 : -9223372036854775808 ≤ b) (h4 : b ≤ 9223372036854775807) : ∃ l, keyOf Tryd.prog 68 (.agg #[.int .i64 a, .int .i64 b]) = some l := by
  have hf : (Value.agg #[.int .i64 a, .int .i64 b]).formed Tryd.prog 68 = true := by
    have hc : Tryd.prog.cellsOf 68 = 2 := by kernel_rfl
    simp [Value.formed, Tryd.underlying68, hc]
  have hk : Tryd.prog.keyType 68 = true := by kernel_rfl
  have hc : Tryd.prog.cellsOf 68 = 2 := by kernel_rfl
  have hi : Tryd.prog.cellsOf 3 = 1 := by kernel_rfl
  have ha : (Lit.int .i64 a).wf = true := by simp [Lit.wf, IntKind.min, IntKind.max, IntKind.signed, IntKind.bits]; omega
  have hb : (Lit.int .i64 b).wf = true := by simp [Lit.wf, IntKind.min, IntKind.max, IntKind.signed, IntKind.bits]; omega
  obtain ⟨d, hd⟩ : ∃ d, Tryd.prog.types.size = d + 1 := ⟨_, (Nat.sub_add_cancel (show 1 ≤ Tryd.prog.types.size from Nat.le_trans (Nat.succ_le_succ (Nat.zero_le _)) node_row)).symm⟩
  unfold keyOf
  rw [Tryd.underlying68, hd]
  simp only [hf, hk, Bool.and_self, if_true]
  simp [Program.keyLits, Tryd.underlying68, Tryd.underlying3, hc, hi, Value.cells, List.range_succ, ha, hb]
end Go.Proofs.YtepbnimheedodaaDoor
