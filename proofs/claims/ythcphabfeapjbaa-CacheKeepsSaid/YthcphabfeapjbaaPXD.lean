/-
  THE WALK of Rate; floats: small numbers are numbers; 0 by 0 is none.
-/
import Derived.Test.YthcphabfeapjbaaPXC
import Derived.Laws.FloatArith
import Derived.BigQuiet
namespace Go.Proofs.Ythcphabfeapjbaa
open Go.RowKit Ca
def isNum (k : Nat) : Bool := match FloatKind.f64.format.read (FloatKind.f64.nearest (k : Int)) with
  | .number _ m _ => k == 0 || m != 0
  | _ => false
theorem isNum_all : ((List.range 1001).all isNum) = true := by kernel_rfl
theorem isNum_ok {k : Nat} (h : k ≤ 1000) : ∃ b m p, FloatKind.f64.format.read (FloatKind.f64.nearest (k : Int)) = .number b m p ∧ (0 < k → m ≠ 0) := by
  have := List.all_eq_true.1 isNum_all k (by simp; omega)
  unfold isNum at this
  split at this
  · rename_i b m p e
    refine ⟨b, m, p, e, fun hk => ?_⟩
    rcases (by simpa using this : k = 0 ∨ ¬ m = 0) with h | h
    · omega
    · exact h
  · cases this
theorem fq_some {h g : Nat} (hg : 0 < g) (h1 : h ≤ 1000) (g1 : g ≤ 1000) : ∃ r, fq h g = some r := by
  obtain ⟨b, m, p, e, _⟩ := isNum_ok h1
  obtain ⟨c, n, p2, e2, hn⟩ := isNum_ok g1
  unfold fq Ieee.Format.div
  rw [e, e2]
  have := hn hg
  simp only [Ieee.Datum.quotient, if_neg this, Option.map_some]
  exact ⟨_, rfl⟩
theorem nan_order (t : Nat) : FloatKind.f64.format.order ((t % 2) * 2 ^ 63 + 0x7ff0000000000000 + 1 + (t / 2) % (2 ^ 52 - 1)) ((t % 2) * 2 ^ 63 + 0x7ff0000000000000 + 1 + (t / 2) % (2 ^ 52 - 1)) = none := by
  obtain ⟨x, hx⟩ : ∃ x, x = (t % 2) * 2 ^ 63 + 0x7ff0000000000000 + 1 + (t / 2) % (2 ^ 52 - 1) := ⟨_, rfl⟩
  rw [← hx]
  have e1 : FloatKind.f64.format.signWeight = 9223372036854775808 := by decide
  have e2 : FloatKind.f64.format.binade = 4503599627370496 := by decide
  have e3 : FloatKind.f64.format.infRung = 9218868437227405312 := by decide
  have h2 : t % 2 < 2 := Nat.mod_lt _ (by decide)
  have h3 : (t / 2) % (2 ^ 52 - 1) < 2 ^ 52 - 1 := Nat.mod_lt _ (by decide)
  generalize (t / 2) % (2 ^ 52 - 1) = r at hx h3
  generalize t % 2 = u at hx h2
  have hm : x % 9223372036854775808 = 9218868437227405312 + 1 + r := by omega
  have hr : ∃ b f, FloatKind.f64.format.read x = .nan b f := by
    unfold Ieee.Format.read
    rw [e1, e2, e3, hm]
    dsimp only
    rw [if_neg (by omega), if_neg (by omega), if_neg (by omega)]
    exact ⟨_, _, rfl⟩
  obtain ⟨b, f, hr⟩ := hr
  unfold Ieee.Format.order
  rw [hr]
  rfl
/-- 0 by 0: some word that is not a number. -/
theorem run_quo_nan (a b : Nat) (h : FloatKind.f64.format.div a b = none) (t : TypeId) (W : World) : ∃ x, (binOp .quo t (.float .f64 a) (.float .f64 b)).run Try.prog W = .ok (.float .f64 x) W.drew ∧ FloatKind.f64.format.order x x = none := by
  refine ⟨(Question.nanBits .f64 a b).cut (W.tape W.drawn (Question.nanBits .f64 a b)), ?_, nan_order _⟩
  simp [binOp, Op.floatArith, h]
  intro h; cases h
theorem div00 : FloatKind.f64.format.div 0 0 = none := by decide
theorem near0 : FloatKind.f64.nearest 0 = 0 := by decide
theorem run_i2fC (n : Int) (W : World) : (convert 3 45 (.int .i64 n)).run Try.prog W = .ok (.float .f64 (FloatKind.f64.nearest n)) W := by rfl
theorem run_quoC (a b r : Nat) (h : FloatKind.f64.format.div a b = some r) (t : TypeId) (W : World) : (binOp .quo t (.float .f64 a) (.float .f64 b)).run Try.prog W = .ok (.float .f64 r) W := by
  simp [binOp, Op.floatArith, h]

set_option maxRecDepth 100000 in
set_option maxHeartbeats 1000000 in
theorem CRate_nil (w : World) : Calls Try.prog 21 #[.pointer none] w fun e w' => ∃ v, e = .returned v ∧ NotNum v ∧ Below w.heap.size w w' := by
  obtain ⟨x, hx, hn⟩ := run_quo_nan 0 0 div00 45 w
  have HN := Lib.hid hn
  clear hn
  go_enter Try.func21, Try.ntmps21
  go_wp2
  go_ret
  exact ⟨_, rfl, ⟨x, rfl, HN.out⟩, below_drewN (Below.refl _ _) 1⟩
set_option maxRecDepth 100000 in
set_option maxHeartbeats 1000000 in
theorem CRate_any {w0 : World} {F : Nat → Prop} {D sh room q : Nat} {s : St} (h : Lies w0 F D sh room q s) (hh : s.hits ≤ s.gets) (hg : s.gets ≤ 1000) : Calls Try.prog 21 #[.pointer (some ⟨D, 0, none⟩)] w0 fun e w' =>
    ∃ v, e = .returned v ∧ (s.gets = 0 → NotNum v) ∧ (0 < s.gets → ∃ r, fq s.hits s.gets = some r ∧ v = .float .f64 r) ∧ Below w0.heap.size w0 w' := by
  obtain ⟨ro, a, ca, ps, rs, vs, hF, hR⟩ := h
  have c1 := hR.c1
  have c2 := hR.c2
  generalize s.gets = g at *
  generalize s.hits = m at *
  obtain ⟨fg, hfg⟩ : ∃ x, x = FloatKind.f64.nearest (g : Int) := ⟨_, rfl⟩
  obtain ⟨fm, hfm⟩ : ∃ x, x = FloatKind.f64.nearest (m : Int) := ⟨_, rfl⟩
  have hca : ∀ W, (convert 3 45 (.int .i64 (g : Int))).run Try.prog W = .ok (.float .f64 fg) W := fun W => by rw [hfg]; exact run_i2fC _ W
  have hcb : ∀ W, (convert 3 45 (.int .i64 (m : Int))).run Try.prog W = .ok (.float .f64 fm) W := fun W => by rw [hfm]; exact run_i2fC _ W
  by_cases h0 : 0 < g
  · obtain ⟨r, hr⟩ := fq_some h0 (h := m) (by omega) hg
    have hqu : ∀ W, (binOp .quo 45 (.float .f64 fm) (.float .f64 fg)).run Try.prog W = .ok (.float .f64 r) W := fun W => run_quoC fm fg r (by rw [hfm, hfg]; exact hr) _ W
    have HR9 := Lib.hid hr
    have HG := Lib.hid h0
    clear hfg hfm hr h0 hR hF hg hh
    go_enter Try.func21, Try.ntmps21
    go_wp2_with fail
    go_quiet (fail)
    go_wp2
    go_ret
    exact ⟨_, rfl, fun h => absurd HG.out (by omega), fun _ => ⟨r, HR9.out, rfl⟩, below_drewN (Below.refl _ _) _⟩
  · obtain rfl : g = 0 := by omega
    obtain rfl : m = 0 := by omega
    have hz : fm = 0 ∧ fg = 0 := ⟨hfm.trans near0, hfg.trans near0⟩
    obtain ⟨rfl, rfl⟩ := hz
    clear hfg hfm hR hF hg hh h0
    go_enter Try.func21, Try.ntmps21
    go_wp2_with fail
    go_quiet (fail)
    obtain ⟨x, hx, hn⟩ := run_quo_nan (floatOfInt .f64 0) (floatOfInt .f64 0) (by decide) 45 (w0.drewN nq)
    have HN := Lib.hid hn
    clear hn
    go_wp2
    go_ret
    exact ⟨_, rfl, fun _ => ⟨x, rfl, HN.out⟩, fun h => absurd h (by omega), below_drewN (below_drewN (Below.refl _ _) nq) 1⟩
end Go.Proofs.Ythcphabfeapjbaa
