/-
  THE WALKS of the program's bit, Get, Set.
-/
import Derived.Test.YtoblnmmbcdokgaaFO
namespace Go.Proofs.Ytoblnmmbcdokgaa
open Go.RowKit Bm

namespace Bm
/-- What a bit is as a number. -/
def bn (t : Bool) : Int := if t then 1 else 0
theorem bn_true : bn true = 1 := rfl
theorem bn_false : bn false = 0 := rfl
theorem and_bit : ∀ (n : Fin 256) (k : Fin 8), wrap64 (bits .and .u8 (((n.val / 2 ^ k.val : Nat) : Int)) 1) = bn (bt (UInt8.ofNat n) k) := by decide +kernel
theorem and_bt (x : UInt8) (k : Nat) (hk : k < 8) : wrap64 (bits .and .u8 ((x.toNat : Int) / 2 ^ k) 1) = bn (bt x k) := by
  have h := and_bit ⟨x.toNat, x.toNat_lt⟩ ⟨k, hk⟩
  simp only [UInt8.ofNat_toNat, Int.natCast_ediv, Int.natCast_pow] at h
  exact h
theorem or_bit : ∀ (n : Fin 256) (k : Fin 8), bits .or .u8 (n.val : Int) ((2 : Int) ^ k.val % 256) = ((setBit (UInt8.ofNat n) k true).toNat : Int) := by decide +kernel
theorem or_x (x : UInt8) (k : Nat) (hk : k < 8) : bits .or .u8 (x.toNat : Int) ((2 : Int) ^ k % 256) = ((setBit x k true).toNat : Int) := by
  have h := or_bit ⟨x.toNat, x.toNat_lt⟩ ⟨k, hk⟩
  simpa only [UInt8.ofNat_toNat] using h
theorem andnot_bit : ∀ (n : Fin 256) (k : Fin 8), bits .andNot .u8 (n.val : Int) ((2 : Int) ^ k.val % 256) = ((setBit (UInt8.ofNat n) k false).toNat : Int) := by decide +kernel
theorem andnot_x (x : UInt8) (k : Nat) (hk : k < 8) : bits .andNot .u8 (x.toNat : Int) ((2 : Int) ^ k % 256) = ((setBit x k false).toNat : Int) := by
  have h := andnot_bit ⟨x.toNat, x.toNat_lt⟩ ⟨k, hk⟩
  simpa only [UInt8.ofNat_toNat] using h
end Bm

set_option maxRecDepth 100000 in
set_option maxHeartbeats 1000000 in
theorem Bmbit_any (b : List UInt8) (m k : Nat) (hm : m < b.length) (hk : k < 8) (v : Value) (w : World) (hl : b.length ≤ 1000000) (h : Arg w v b) :
    Calls Try.prog 19 #[v, .int .i64 ((8 * m + k : Nat) : Int)] w fun e w' => e = .returned (.int .i64 (bn (tb b (8 * m + k)))) ∧ w' = w := by
  obtain ⟨A, cap, rfl, hs⟩ := (arg_from h).parts
  rw [List.length_map] at hs ⊢
  obtain ⟨g, o, rfl, _, hsee⟩ := hs (by omega)
  have hx := at8 hsee m hm
  have HT := Lib.hid (tb_at b m k hk)
  rw [HT.out]
  obtain ⟨n, hn⟩ : ∃ n, n = b.length := ⟨_, rfl⟩
  rw [← hn] at hm hl ⊢
  clear h hsee hs hn HT
  generalize b.getD m 0 = x at *
  have hx8 := lt8 x
  obtain ⟨i, hi⟩ : ∃ i : Nat, i = 8 * m + k := ⟨_, rfl⟩
  rw [← hi, ← and_bt x k hk]
  have h1 : (i : Int) / 8 = m := by omega
  have h2 : (i : Int) % 8 = k := by omega
  have hb : i ≤ 100000000 := by omega
  clear hi
  go_enter Try.func19, Try.ntmps19
  go_wp2
  go_ret
  exact ⟨rfl, rfl⟩
/-- The same at a number that has a bit. -/
theorem Bmbit_has (b : List UInt8) (i : Int) (hi : has b i = true) (v : Value) (w : World) (hl : b.length ≤ 1000000) (h : Arg w v b) :
    Calls Try.prog 19 #[v, .int .i64 i] w fun e w' => e = .returned (.int .i64 (bn (tb b i.toNat))) ∧ w' = w := by
  obtain ⟨h0, h1⟩ := has_iff.1 hi
  have := Bmbit_any b (i.toNat / 8) (i.toNat % 8) (by omega) (by omega) v w hl h
  rwa [show 8 * (i.toNat / 8) + i.toNat % 8 = i.toNat by omega, show ((i.toNat : Nat) : Int) = i by omega] at this

set_option maxRecDepth 100000 in
set_option maxHeartbeats 1000000 in
theorem BmGet_any (b : List UInt8) (i : Int) (v : Value) (w : World) (hl : b.length ≤ 1000000) (hi : In64 i) (h : Arg w v b) :
    Calls Try.prog 12 #[v, .int .i64 i] w fun e w' => e = .returned (.bool (Bm.get b i)) ∧ w' = w := by
  obtain ⟨A, cap, rfl⟩ := h.form
  have HH := Lib.hid (Bmhas_any b i A cap w hl hi)
  by_cases hh : has b i = true
  · have HB := Lib.hid (Bmbit_has b i hh _ w hl h)
    have HE : Hid (Bm.get b i = tb b i.toNat) := by show _ = _; unfold Bm.get; rw [hh]; rfl
    rw [HE.out]
    rw [hh] at HH
    clear h hi hl hh HE
    generalize tb b i.toNat = r at *
    generalize b.length = n at *
    go_enter Try.func12, Try.ntmps12
    cases r
    · go_wp2_with (first | (refine HH.out.mono ?_; rintro e w1 ⟨rfl, rfl⟩) | (refine HB.out.mono ?_; rintro e w1 ⟨rfl, rfl⟩; rw [bn_false]))
      go_ret
      exact ⟨rfl, rfl⟩
    · go_wp2_with (first | (refine HH.out.mono ?_; rintro e w1 ⟨rfl, rfl⟩) | (refine HB.out.mono ?_; rintro e w1 ⟨rfl, rfl⟩; rw [bn_true]))
      go_ret
      exact ⟨rfl, rfl⟩
  · have hf : has b i = false := by simpa using hh
    have HE : Hid (Bm.get b i = false) := by show _ = _; unfold Bm.get; rw [hf]; rfl
    rw [HE.out]
    rw [hf] at HH
    clear h hi hl hh hf HE
    generalize b.length = n at *
    go_enter Try.func12, Try.ntmps12
    go_wp2_with (refine HH.out.mono ?_; rintro e w1 ⟨rfl, rfl⟩)
    go_ret
    exact ⟨rfl, rfl⟩

/-- A row of the call's own in which a cell is turned. -/
theorem Own.set {w : World} {B : Nat} {bs : List UInt8} {g n cap : Nat} {v : Value} (hv : v = .slice (some ⟨g, 0, none⟩) n cap) (hn : n = bs.length) (h : Own w B 5 v (bs.map V8)) (m : Nat) (hm : m < bs.length) (x : UInt8) :
    w.cell? ⟨g, m, none⟩ = some (.int .u8 (bs.getD m 0).toNat) ∧ w.frozen? ⟨g, m, none⟩ = false ∧ B ≤ g ∧ ArgHi (w.setCell ⟨g, m, none⟩ (.int .u8 x.toNat)) B v (bs.set m x) := by
  subst hn
  obtain ⟨g', cap', hv', hB, hl, hc, hs⟩ := h.form_cap (by rw [List.length_map]; omega)
  rw [hv] at hv'
  injection hv' with e1 e2 e3
  injection e1 with e1
  injection e1 with e1 _ _
  subst e1; subst e3
  have h8 := at8 hs m hm
  rw [Nat.zero_add] at h8
  rcases h.2 with ⟨e, _⟩ | ⟨g2, cap2, cur, e, _, hg, _⟩
  · rw [hv] at e; cases e
  · rw [hv] at e
    injection e with e _ _
    injection e with e
    injection e with e _ _
    subst e
    refine ⟨h8, frozen_of_row w g m _ _ hg, hB, .inr ⟨g, 0, cap, by rw [hv, List.length_set], hB, by simpa [World.setCell] using hl, by rw [List.length_set]; rwa [List.length_map] at hc, fun j u hu => ?_⟩⟩
    rw [List.getElem?_map, List.getElem?_set] at hu
    rw [Nat.zero_add]
    by_cases e : m = j
    · subst e
      rw [if_pos rfl, if_pos hm] at hu
      injection hu with hu
      rw [← hu]
      exact World.cell?_setCell_same _ _ _ h8
    · rw [if_neg e] at hu
      rw [World.cell?_setCell_other _ _ _ _ (fun e' => by injection e' with _ e2; exact e e2)]
      have := hs j u (by rw [List.getElem?_map]; exact hu)
      rwa [Nat.zero_add] at this
set_option maxRecDepth 100000 in
set_option maxHeartbeats 1000000 in
theorem BmSet_any (b : List UInt8) (i : Int) (on : Bool) (v : Value) (w : World) (hl : b.length ≤ 1000000) (hi : In64 i) (h : Arg w v b) :
    Calls Try.prog 7 #[v, .int .i64 i, .bool on] w fun e w' => ∃ r, e = .returned (.tuple #[r, .int .i64 (setE (has b i))]) ∧ Hid (ArgHi w' w.heap.size r (setR b i on)) ∧ Below w.heap.size w w' := by
  obtain ⟨A, cap, rfl⟩ := h.form
  have HH := Lib.hid (Bmhas_any b i A cap w hl hi)
  by_cases hh : has b i = true
  · have HC := Lib.hid (Bmclone_any _ b w hl h)
    obtain ⟨h0, h1⟩ := has_iff.1 hh
    obtain ⟨m, k, hm, hk, rfl⟩ : ∃ m k : Nat, m < b.length ∧ k < 8 ∧ i = ((8 * m + k : Nat) : Int) := ⟨i.toNat / 8, i.toNat % 8, by omega, by omega, by omega⟩
    have HR : Hid (setR b ((8 * m + k : Nat) : Int) on = b.set m (setBit (b.getD m 0) k on)) := by
      show _ = _
      rw [setR, if_pos hh, setB, Int.toNat_natCast, show (8 * m + k) / 8 = m by omega, show (8 * m + k) % 8 = k by omega]
    rw [HR.out, hh]
    rw [hh] at HH
    have HM := Lib.hid hm
    obtain ⟨n, hn⟩ : ∃ n, n = b.length := ⟨_, rfl⟩
    have HN := Lib.hid hn
    rw [← hn] at hm hl h1 ⊢ HH HC
    obtain ⟨j, hj⟩ : ∃ j : Nat, j = 8 * m + k := ⟨_, rfl⟩
    rw [← hj] at HH ⊢
    have q1 : (j : Int) / 8 = m := by omega
    have q2 : (j : Int) % 8 = k := by omega
    have hb : j ≤ 100000000 := by omega
    clear h hi hh HR h1 h0 hn hj
    go_enter Try.func7, Try.ntmps7
    go_wp2_with fail
    refine HH.out.mono ?_
    rintro e w1 ⟨rfl, rfl⟩
    go_wp2_with fail
    refine HC.out.mono ?_
    rintro e w2 ⟨v2, rfl, HO, hb2⟩
    obtain ⟨g, cap2, rfl, -, -, -⟩ := HO.out.form (by rw [List.length_map]; exact Nat.lt_of_le_of_lt (Nat.zero_le _) HM.out)
    rw [List.length_map, ← HN.out] at HO ⊢
    obtain ⟨hx, hf, hB, -⟩ := HO.out.set rfl HN.out m HM.out 0
    have HS := Lib.hid fun x => (HO.out.set rfl HN.out m HM.out x).2.2.2
    have HB := Lib.hid hB
    have HB2 := Lib.hid hb2
    clear HC HH hb2 hB HO
    obtain ⟨x, hxx⟩ : ∃ x, x = b.getD m 0 := ⟨_, rfl⟩
    rw [← hxx] at hx
    have HX := Lib.hid hxx
    clear hxx
    have hx8 := lt8 x
    have HO1 := Lib.hid (or_x x k hk)
    have HO2 := Lib.hid (andnot_x x k hk)
    cases on
    · go_wp2
      go_ret2
      rw [HO2.out, ← HX.out]
      exact ⟨_, rfl, HS.out _, HB2.out.setCell HB.out _⟩
    · go_wp2
      go_ret2
      rw [HO1.out, ← HX.out]
      exact ⟨_, rfl, HS.out _, HB2.out.setCell HB.out _⟩
  · have hf : has b i = false := by simpa using hh
    have HE : Hid (setR b i on = []) := by show _ = _; rw [setR, if_neg hh]
    rw [HE.out, hf]
    rw [hf] at HH
    clear h hi hl hh hf HE
    generalize b.length = n at *
    go_enter Try.func7, Try.ntmps7
    go_wp2_with (refine HH.out.mono ?_; rintro e w1 ⟨rfl, rfl⟩)
    go_ret2
    exact ⟨_, rfl, .inl ⟨_, rfl, rfl⟩, Below.refl _ _⟩
end Go.Proofs.Ytoblnmmbcdokgaa
