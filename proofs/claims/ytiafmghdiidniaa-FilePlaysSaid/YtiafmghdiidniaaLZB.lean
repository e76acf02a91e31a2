/-
  THE WALKS of the landed store's Write, of load, First, May, isNil, isFile.
-/
import Derived.Test.YtiafmghdiidniaaLZA
import Derived.Test.YtiafmghdiidniaaIWA
set_option maxRecDepth 100000
set_option maxHeartbeats 1000000
namespace Go.Proofs.Ytiafmghdiidniaa
open Go.RowKit Cdc Inn Fil

section
variable {w : World} {F : Nat → Prop} {m R cap : Nat} {bl : List (List UInt8)} {vs : Nat → Value} {gs : Nat → Nat}
theorem FiMWrite_out (h : MemL w F m bl R cap vs gs) (i : Int) (hi : In64 i) (hn : ¬ (0 ≤ i ∧ i < bl.length)) (v : Value) :
    Calls Try.prog 24 #[.pointer (some ⟨m, 0, none⟩), .int .i64 i, v] w fun e w' => e = .returned (.int .i64 1) ∧ w' = w := by
  have HH := Lib.hid (FiMHas_any h i hi)
  rw [decide_eq_false hn] at HH
  clear h hn hi
  go_enter Try.func24, Try.ntmps24
  go_wp2_with fail
  refine HH.out.mono ?_
  rintro e w1 ⟨rfl, rfl⟩
  go_wp2
  go_ret
  exact ⟨rfl, rfl⟩
theorem FiMWrite_in (h : MemL w F m bl R cap vs gs) (i : Nat) (hi : i < bl.length) (v : Value) (b : List UInt8) (hb : b.length = 64) (hv : Arg w v b) :
    Calls Try.prog 24 #[.pointer (some ⟨m, 0, none⟩), .int .i64 i, v] w fun e w' => e = .returned (.int .i64 0) ∧ MemL w' F m (bl.set i b) R cap vs gs ∧ Chg (fun k _ => k = gs i) w w' := by
  have HH := Lib.hid (FiMHas_any h i ⟨by omega, by have := h.few; omega⟩)
  rw [decide_eq_true ⟨by omega, by omega⟩] at HH
  obtain ⟨A, c, rfl⟩ := hv.form
  have HS := Lib.hid (hv.src (by omega))
  have HW := Lib.hid (h.write i hi b hb)
  have h0 := h.c0
  have hr := h.row i hi
  have hf := h.few
  obtain ⟨cv, hcv, hc64⟩ := (h.blk i hi).val
  have HT : Hid (w.there (gs i) 0 64) := by
    have := (h.blk i hi).here.there' 0 64 (by rw [List.length_map, (h.blk i hi).len]; omega)
    exact this
  obtain ⟨ds, hds⟩ : ∃ ds, ds = b.map V8 := ⟨_, rfl⟩
  have hl : Hid (ds.length = 64) := by show _ = _; rw [hds, List.length_map, hb]
  have H1 : Hid (∀ v ∈ ds, v.oneCell' = true) := by rw [hds]; exact V8_one b
  rw [← hds] at HS HW
  rw [hcv] at hr
  rw [hb] at *
  clear h hcv hv hds
  generalize gs i = g at *
  generalize bl.length = n at *
  go_enter Try.func24, Try.ntmps24
  go_wp2_with fail
  refine HH.out.mono ?_
  rintro e w1 ⟨rfl, rfl⟩
  go_wp2_with (refine wpList_copy_here rfl (.tmp 22) (.tmp 23) 41 41 rfl 5 Try.underlying41 elem8 _ A 64 cv 64 c rfl rfl g 0 ds (by rw [hl.out]; rfl) (by rw [hl.out]; exact HT.out) (fun _ => ⟨rfl, HS.out⟩) H1.out ?_)
  go_ret
  exact ⟨rfl, HW.out.1, HW.out.2⟩
/-- The store as an interface. -/
abbrev sto (m : Nat) : Value := .iface 26 (.pointer (some ⟨m, 0, none⟩))
theorem FiLoad_in (h : MemL w F m bl R cap vs gs) (i : Nat) (hi : i < bl.length) :
    Calls Try.prog 36 #[sto m, .int .i64 i] w fun e w' => ∃ v g, e = .returned (.tuple #[v, .int .i64 0]) ∧ Hid (Blk w' v g (blk bl i)) ∧ w.heap.size ≤ g ∧ Below w.heap.size w w' := by
  have HR := Lib.hid (FiMRead_in h i hi)
  clear h hi
  go_enter Try.func36, Try.ntmps36
  go_wp2_with fail
  refine HR.out.mono ?_
  rintro e w1 ⟨v, g, rfl, hb, hg, hB⟩
  have HB := Lib.hid hB
  obtain ⟨c, rfl, -⟩ := hb.out.val
  clear hB HR
  go_wp2
  go_ret2
  exact ⟨_, g, rfl, hb, hg, HB.out⟩
theorem FiLoad_out (h : MemL w F m bl R cap vs gs) (i : Int) (hi : In64 i) (hn : ¬ (0 ≤ i ∧ i < bl.length)) :
    Calls Try.prog 36 #[sto m, .int .i64 i] w fun e w' => e = .returned (.tuple #[.slice none 0 0, .int .i64 1]) ∧ w' = w := by
  have HR := Lib.hid (FiMRead_out h i hi hn)
  clear h hi hn
  go_enter Try.func36, Try.ntmps36
  go_wp2_with fail
  refine HR.out.mono ?_
  rintro e w1 ⟨rfl, rfl⟩
  go_wp2
  go_ret2
  exact ⟨rfl, rfl⟩
end

theorem FiNil_no (m : Nat) (w : World) : Calls Try.prog 26 #[sto m] w fun e w' => e = .returned (.bool false) ∧ w' = w := by
  have he : ∀ W : World, (Instr.typeAssert (sto m) 69 26 true).run Try.prog W = .ok (.tuple #[.pointer (some ⟨m, 0, none⟩), .bool true]) W := fun _ => rfl
  have h2 : ∀ W : World, (binOp .eql 69 (sto m) .nilIface).run Try.prog W = .ok (.bool false) W := fun _ => rfl
  go_enter Try.func26, Try.ntmps26
  go_wp2
  go_ret
  exact ⟨rfl, rfl⟩
theorem FiNil_yes (w : World) : Calls Try.prog 26 #[.nilIface] w fun e w' => e = .returned (.bool true) ∧ w' = w := by
  have he : ∀ W : World, (Instr.typeAssert .nilIface 69 26 true).run Try.prog W = .ok (.tuple #[.pointer none, .bool false]) W := fun _ => rfl
  have h2 : ∀ W : World, (binOp .eql 69 .nilIface .nilIface).run Try.prog W = .ok (.bool true) W := fun _ => rfl
  go_enter Try.func26, Try.ntmps26
  go_wp2
  go_ret
  exact ⟨rfl, rfl⟩
theorem FiIsFile_any (x : Ino) (hf : x.fits) (w : World) : Calls Try.prog 27 #[.agg (inoC x)] w fun e w' => e = .returned (.bool (!odd x)) ∧ Below w.heap.size w w' := by
  have HC : Hid (Below w.heap.size w (w.alloc (.cells (inoC x) 40))) := (Below.refl _ _).alloc (Nat.le_refl _) _
  have HM : Hid (∀ W, Calls Try.prog 46 #[.agg (inoC x)] W fun e w' => e = .returned (.bool (may x)) ∧ Below W.heap.size W w') := fun W => InMay_any x hf W
  have ho : (!odd x) = (decide (x.k ≠ 0) && may x) := by
    unfold odd
    by_cases h : x.k = 0 <;> cases may x <;> simp [h]
  rw [ho]
  generalize may x = r at *
  clear ho hf
  obtain ⟨k, b, b0, b1, b2, b3, d⟩ := x
  simp only [inoC] at *
  by_cases h0 : k = 0
  · subst h0
    have : (decide ((0 : Int) ≠ 0) && r) = false := by simp
    rw [this]
    clear this HM
    go_enter Try.func27, Try.ntmps27
    go_wp2
    go_ret
    exact ⟨rfl, HC.out⟩
  · have hb : (k != 0) = true := by simpa using h0
    have : (decide (k ≠ 0) && r) = r := by simp [h0]
    rw [this]
    clear this
    have HMw := Lib.hid (HM.out (w.alloc (.cells #[.int .i64 k, .int .i64 b, .int .i64 b0, .int .i64 b1, .int .i64 b2, .int .i64 b3, .int .i64 d] 40)))
    clear HM
    go_enter Try.func27, Try.ntmps27
    go_wp2_with fail
    refine HMw.out.mono ?_
    rintro e w2 ⟨rfl, hb2⟩
    have HC2 := Lib.hid (HC.out.trans (hb2.mono HC.out.size))
    clear hb2 HMw HC
    cases r
    · go_wp2
      go_ret
      exact ⟨rfl, HC2.out⟩
    · go_wp2
      go_ret
      exact ⟨rfl, HC2.out⟩

theorem first_eq (n k : Int) : (gfirst ⟨n, k⟩ : Int) = if 0 ≤ k then 1 + k / 8 + (if 0 < k % 8 then 1 else 0) else (gfirst ⟨n, k⟩ : Int) := by
  unfold gfirst
  split
  · split <;> (simp only []; omega)
  · rfl
theorem FiFirst_any (n k : Int) (hk : In64 k) (h0 : 0 ≤ k) (w : World) : Calls Try.prog 10 #[.agg #[.int .i64 n, .int .i64 k]] w fun e w' => e = .returned (.int .i64 (gfirst ⟨n, k⟩)) ∧ Below w.heap.size w w' := by
  obtain ⟨k1, k2⟩ := hk
  have HE := Lib.hid (first_eq n k)
  rw [if_pos h0] at HE
  obtain ⟨K, rfl⟩ : ∃ K : Nat, k = (K : Int) := ⟨k.toNat, by omega⟩
  have q1 : Int.tdiv (K : Int) 8 = (K : Int) / 8 := Int.tdiv_eq_ediv_of_nonneg (by omega)
  have q2 : Int.tmod (K : Int) 8 = (K : Int) % 8 := Int.tmod_eq_emod_of_nonneg (by omega)
  rw [HE.out]
  have HC : Hid (Below w.heap.size w (w.alloc (.cells #[.int .i64 n, .int .i64 (K : Int)] 23))) := (Below.refl _ _).alloc (Nat.le_refl _) _
  clear HE
  by_cases h8 : 0 < (K : Int) % 8
  · rw [if_pos h8]
    go_enter Try.func10, Try.ntmps10
    go_wp2
    go_ret
    exact ⟨rfl, HC.out⟩
  · rw [if_neg h8]
    go_enter Try.func10, Try.ntmps10
    go_wp2
    go_ret
    exact ⟨by simp, HC.out⟩
end Go.Proofs.Ytiafmghdiidniaa
