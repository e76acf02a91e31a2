/-
  4 texts in one (FCA, FO, FP, FQ): each says at its own head what it holds.
-/
import Derived.Test.YtiafmghdiidniaaFBA

section
/-
  PLAIN: what the program's Set tells and hands back.
-/
namespace Go.Proofs.Ytiafmghdiidniaa
open Go.RowKit Bm

namespace Bm
/-- An int. -/
def In64 (i : Int) : Prop := -9223372036854775808 ≤ i ∧ i ≤ 9223372036854775807
/-- The error's number of a set bit. -/
def setE (ok : Bool) : Int := if ok then 0 else 1
/-- What Set hands back. -/
def setR (b : List UInt8) (i : Int) (on : Bool) : List UInt8 := if has b i then setB b i.toNat on else []
end Bm
theorem argNil (w : World) : Arg w (.slice none 0 0) [] := .inl ⟨none, rfl, rfl⟩
theorem argLit (w : World) (bs : List UInt8) : Arg (w.alloc (.cells (bs.map V8).toArray 5)) (.slice (some ⟨w.heap.size, 0, none⟩) bs.length bs.length) bs :=
  .inr ⟨w.heap.size, 0, bs.length, rfl, by simp, Nat.le_refl _, (Row.new w 5 (bs.map V8)).sees⟩

end Go.Proofs.Ytiafmghdiidniaa
end

section
/-
  THE WALKS of the program's has, bit, Get, Set (and of bytes.Clone).
-/
namespace Go.Proofs.Ytiafmghdiidniaa
open Go.RowKit Bm

set_option maxRecDepth 100000 in
set_option maxHeartbeats 1000000 in
theorem Bmclone_any (v : Value) (bs : List UInt8) (w : World) (hk : bs.length ≤ 1000000) (hA : Arg w v bs) : Calls Try.prog 45 #[v] w fun e w' => ∃ v', e = .returned v' ∧ Hid (Own w' w.heap.size 5 v' (bs.map V8)) ∧ Below w.heap.size w w' := by
  obtain ⟨A, cap, rfl⟩ := hA.form
  cases A with
  | none =>
    have hn : bs = [] := by
      rcases hA with ⟨A, _, h⟩ | ⟨b, o, c, h, _⟩
      · exact h
      · injection h with h; cases h
    subst hn
    clear hA
    have he : ∀ W : World, (binOp .eql 41 (.slice none 0 cap) (.slice none 0 0)).run Try.prog W = .ok (.bool true) W := fun _ => rfl
    rw [List.length_nil]
    go_enter Try.func45, Try.ntmps45
    go_wp2
    go_ret
    exact ⟨_, rfl, Own.nil _ _ _, Below.refl _ _⟩
  | some ad =>
    obtain ⟨w1, hw1⟩ : ∃ W, W = w.alloc (.cells #[] 5) := ⟨_, rfl⟩
    have HFr : Hid (From w1 (.slice (some ad) bs.length cap) (bs.map V8)) := by rw [hw1]; exact (arg_from hA).alloc _
    have HO : Hid (Own w1 w.heap.size 5 (.slice (some ⟨w.heap.size, 0, none⟩) 0 0) []) := by rw [hw1]; exact Own.lit w w.heap.size 5 [] (Nat.le_refl _) (Nat.zero_le _)
    have HB : Hid (Below w.heap.size w w1) := by rw [hw1]; exact (Below.refl _ _).alloc (Nat.le_refl _) _
    have HLn : Hid (([] : List Value).length + (bs.map V8).length ≤ 100000000) := by show _ ≤ _; simp; omega
    have H1 := Lib.hid (oneC8 bs)
    have Hsz : Hid (w.heap.size ≤ w1.heap.size) := HB.out.size
    obtain ⟨n, hn⟩ : ∃ n, n = bs.length := ⟨_, rfl⟩
    rw [← hn] at HFr ⊢
    clear hA hk hn
    have he : ∀ W : World, (binOp .eql 41 (.slice (some ad) n cap) (.slice none 0 0)).run Try.prog W = .ok (.bool false) W := fun _ => rfl
    go_enter Try.func45, Try.ntmps45
    go_wp2_with (at_builtin; rw [← hw1]; refine wpList_app rfl (.tmp 5) (.tmp 6) 41 rfl w.heap.size 5 Try.underlying41 info8 rfl (by decide) _ [] rfl HO.out _ (bs.map V8) rfl HFr.out H1.out HLn.out Hsz.out ?_; intro v2 w2 hown2 hg2 _; rw [List.nil_append] at hown2; have HO2 := Lib.hid hown2; have HB2 : Hid (Below w.heap.size w w2) := below_app HB.out HO.out hg2 (Nat.le_refl _) HB.out.size; clear hown2 hg2)
    go_ret
    exact ⟨v2, rfl, HO2.out, HB2.out⟩

set_option maxRecDepth 100000 in
set_option maxHeartbeats 1000000 in
theorem Bmhas_any (b : List UInt8) (i : Int) (A : Option Addr) (cap : Nat) (w : World) (_hl : b.length ≤ 1000000) (hi : In64 i) :
    Calls Try.prog 44 #[.slice A b.length cap, .int .i64 i] w fun e w' => e = .returned (.bool (has b i)) ∧ w' = w := by
  obtain ⟨n, hn⟩ : ∃ n, n = b.length := ⟨_, rfl⟩
  have HH : Hid (has b i = decide (0 ≤ i ∧ i / 8 < (n : Int))) := by
    show _ = _
    rw [Bool.eq_iff_iff, has_iff, decide_eq_true_iff, hn]
    omega
  rw [← hn, HH.out] at *
  obtain ⟨h1, h2⟩ := hi
  clear HH hn
  by_cases h0 : 0 ≤ i
  · by_cases h3 : i / 8 < (n : Int)
    · rw [decide_eq_true ⟨h0, h3⟩]
      go_enter Try.func44, Try.ntmps44
      go_wp2
      go_ret
      exact ⟨rfl, rfl⟩
    · rw [decide_eq_false (fun h => h3 h.2)]
      go_enter Try.func44, Try.ntmps44
      go_wp2
      go_ret
      exact ⟨rfl, rfl⟩
  · rw [decide_eq_false (fun h => h0 h.1)]
    go_enter Try.func44, Try.ntmps44
    go_wp2
    go_ret
    exact ⟨rfl, rfl⟩
end Go.Proofs.Ytiafmghdiidniaa
end

section
/-
  THE WALKS of the program's bit, Get, Set.
-/
namespace Go.Proofs.Ytiafmghdiidniaa
open Go.RowKit Bm

namespace Bm
/-- What a bit is as a number. -/
def bn (t : Bool) : Int := if t then 1 else 0
theorem bn_true : bn true = 1 := rfl
theorem bn_false : bn false = 0 := rfl
theorem and_bit : ∀ (n : Fin 256) (k : Fin 8), wrap64 (bits .and .u8 (((n.val / 2 ^ k.val : Nat) : Int)) 1) = bn (bt (UInt8.ofNat n) k) := by decide +kernel
theorem and_bt (x : UInt8) (k : Nat) (hk : k < 8) : wrap64 (bits .and .u8 ((x.toNat : Int) / 2 ^ k) 1) = bn (bt x k) := by
  have h := and_bit ⟨x.toNat, x.toNat_lt⟩ ⟨k, hk⟩
  simp only [UInt8.ofNat_toNat, Int.natCast_ediv, Int.natCast_pow] at h
  exact h
theorem or_bit : ∀ (n : Fin 256) (k : Fin 8), bits .or .u8 (n.val : Int) ((2 : Int) ^ k.val % 256) = ((setBit (UInt8.ofNat n) k true).toNat : Int) := by decide +kernel
theorem or_x (x : UInt8) (k : Nat) (hk : k < 8) : bits .or .u8 (x.toNat : Int) ((2 : Int) ^ k % 256) = ((setBit x k true).toNat : Int) := by
  have h := or_bit ⟨x.toNat, x.toNat_lt⟩ ⟨k, hk⟩
  simpa only [UInt8.ofNat_toNat] using h
theorem andnot_bit : ∀ (n : Fin 256) (k : Fin 8), bits .andNot .u8 (n.val : Int) ((2 : Int) ^ k.val % 256) = ((setBit (UInt8.ofNat n) k false).toNat : Int) := by decide +kernel
theorem andnot_x (x : UInt8) (k : Nat) (hk : k < 8) : bits .andNot .u8 (x.toNat : Int) ((2 : Int) ^ k % 256) = ((setBit x k false).toNat : Int) := by
  have h := andnot_bit ⟨x.toNat, x.toNat_lt⟩ ⟨k, hk⟩
  simpa only [UInt8.ofNat_toNat] using h
end Bm

set_option maxRecDepth 100000 in
set_option maxHeartbeats 1000000 in
theorem Bmbit_any (b : List UInt8) (m k : Nat) (hm : m < b.length) (hk : k < 8) (v : Value) (w : World) (hl : b.length ≤ 1000000) (h : Arg w v b) :
    Calls Try.prog 58 #[v, .int .i64 ((8 * m + k : Nat) : Int)] w fun e w' => e = .returned (.int .i64 (bn (tb b (8 * m + k)))) ∧ w' = w := by
  obtain ⟨A, cap, rfl, hs⟩ := (arg_from h).parts
  rw [List.length_map] at hs ⊢
  obtain ⟨g, o, rfl, _, hsee⟩ := hs (by omega)
  have hx := at8 hsee m hm
  have HT := Lib.hid (tb_at b m k hk)
  rw [HT.out]
  obtain ⟨n, hn⟩ : ∃ n, n = b.length := ⟨_, rfl⟩
  rw [← hn] at hm hl ⊢
  clear h hsee hs hn HT
  generalize b.getD m 0 = x at *
  have hx8 := lt8 x
  obtain ⟨i, hi⟩ : ∃ i : Nat, i = 8 * m + k := ⟨_, rfl⟩
  rw [← hi, ← and_bt x k hk]
  have h1 : (i : Int) / 8 = m := by omega
  have h2 : (i : Int) % 8 = k := by omega
  have hb : i ≤ 100000000 := by omega
  clear hi
  go_enter Try.func58, Try.ntmps58
  go_wp2
  go_ret
  exact ⟨rfl, rfl⟩
/-- The same at a number that has a bit. -/
theorem Bmbit_has (b : List UInt8) (i : Int) (hi : has b i = true) (v : Value) (w : World) (hl : b.length ≤ 1000000) (h : Arg w v b) :
    Calls Try.prog 58 #[v, .int .i64 i] w fun e w' => e = .returned (.int .i64 (bn (tb b i.toNat))) ∧ w' = w := by
  obtain ⟨h0, h1⟩ := has_iff.1 hi
  have := Bmbit_any b (i.toNat / 8) (i.toNat % 8) (by omega) (by omega) v w hl h
  rwa [show 8 * (i.toNat / 8) + i.toNat % 8 = i.toNat by omega, show ((i.toNat : Nat) : Int) = i by omega] at this

/-- A row of the call's own in which a cell is turned. -/
theorem Own.set {w : World} {B : Nat} {bs : List UInt8} {g n cap : Nat} {v : Value} (hv : v = .slice (some ⟨g, 0, none⟩) n cap) (hn : n = bs.length) (h : Own w B 5 v (bs.map V8)) (m : Nat) (hm : m < bs.length) (x : UInt8) :
    w.cell? ⟨g, m, none⟩ = some (.int .u8 (bs.getD m 0).toNat) ∧ w.frozen? ⟨g, m, none⟩ = false ∧ B ≤ g ∧ ArgHi (w.setCell ⟨g, m, none⟩ (.int .u8 x.toNat)) B v (bs.set m x) := by
  subst hn
  obtain ⟨g', cap', hv', hB, hl, hc, hs⟩ := h.form_cap (by rw [List.length_map]; omega)
  rw [hv] at hv'
  injection hv' with e1 e2 e3
  injection e1 with e1
  injection e1 with e1 _ _
  subst e1; subst e3
  have h8 := at8 hs m hm
  rw [Nat.zero_add] at h8
  rcases h.2 with ⟨e, _⟩ | ⟨g2, cap2, cur, e, _, hg, _⟩
  · rw [hv] at e; cases e
  · rw [hv] at e
    injection e with e _ _
    injection e with e
    injection e with e _ _
    subst e
    refine ⟨h8, frozen_of_row w g m _ _ hg, hB, .inr ⟨g, 0, cap, by rw [hv, List.length_set], hB, by simpa [World.setCell] using hl, by rw [List.length_set]; rwa [List.length_map] at hc, fun j u hu => ?_⟩⟩
    rw [List.getElem?_map, List.getElem?_set] at hu
    rw [Nat.zero_add]
    by_cases e : m = j
    · subst e
      rw [if_pos rfl, if_pos hm] at hu
      injection hu with hu
      rw [← hu]
      exact World.cell?_setCell_same _ _ _ h8
    · rw [if_neg e] at hu
      rw [World.cell?_setCell_other _ _ _ _ (fun e' => by injection e' with _ e2; exact e e2)]
      have := hs j u (by rw [List.getElem?_map]; exact hu)
      rwa [Nat.zero_add] at this
set_option maxRecDepth 100000 in
set_option maxHeartbeats 1000000 in
theorem BmSet_any (b : List UInt8) (i : Int) (on : Bool) (v : Value) (w : World) (hl : b.length ≤ 1000000) (hi : In64 i) (h : Arg w v b) :
    Calls Try.prog 25 #[v, .int .i64 i, .bool on] w fun e w' => ∃ r, e = .returned (.tuple #[r, .int .i64 (setE (has b i))]) ∧ Hid (ArgHi w' w.heap.size r (setR b i on)) ∧ Below w.heap.size w w' := by
  obtain ⟨A, cap, rfl⟩ := h.form
  have HH := Lib.hid (Bmhas_any b i A cap w hl hi)
  by_cases hh : has b i = true
  · have HC := Lib.hid (Bmclone_any _ b w hl h)
    obtain ⟨h0, h1⟩ := has_iff.1 hh
    obtain ⟨m, k, hm, hk, rfl⟩ : ∃ m k : Nat, m < b.length ∧ k < 8 ∧ i = ((8 * m + k : Nat) : Int) := ⟨i.toNat / 8, i.toNat % 8, by omega, by omega, by omega⟩
    have HR : Hid (setR b ((8 * m + k : Nat) : Int) on = b.set m (setBit (b.getD m 0) k on)) := by
      show _ = _
      rw [setR, if_pos hh, setB, Int.toNat_natCast, show (8 * m + k) / 8 = m by omega, show (8 * m + k) % 8 = k by omega]
    rw [HR.out, hh]
    rw [hh] at HH
    have HM := Lib.hid hm
    obtain ⟨n, hn⟩ : ∃ n, n = b.length := ⟨_, rfl⟩
    have HN := Lib.hid hn
    rw [← hn] at hm hl h1 ⊢ HH HC
    obtain ⟨j, hj⟩ : ∃ j : Nat, j = 8 * m + k := ⟨_, rfl⟩
    rw [← hj] at HH ⊢
    have q1 : (j : Int) / 8 = m := by omega
    have q2 : (j : Int) % 8 = k := by omega
    have hb : j ≤ 100000000 := by omega
    clear h hi hh HR h1 h0 hn hj
    go_enter Try.func25, Try.ntmps25
    go_wp2_with fail
    refine HH.out.mono ?_
    rintro e w1 ⟨rfl, rfl⟩
    go_wp2_with fail
    refine HC.out.mono ?_
    rintro e w2 ⟨v2, rfl, HO, hb2⟩
    obtain ⟨g, cap2, rfl, -, -, -⟩ := HO.out.form (by rw [List.length_map]; exact Nat.lt_of_le_of_lt (Nat.zero_le _) HM.out)
    rw [List.length_map, ← HN.out] at HO ⊢
    obtain ⟨hx, hf, hB, -⟩ := HO.out.set rfl HN.out m HM.out 0
    have HS := Lib.hid fun x => (HO.out.set rfl HN.out m HM.out x).2.2.2
    have HB := Lib.hid hB
    have HB2 := Lib.hid hb2
    clear HC HH hb2 hB HO
    obtain ⟨x, hxx⟩ : ∃ x, x = b.getD m 0 := ⟨_, rfl⟩
    rw [← hxx] at hx
    have HX := Lib.hid hxx
    clear hxx
    have hx8 := lt8 x
    have HO1 := Lib.hid (or_x x k hk)
    have HO2 := Lib.hid (andnot_x x k hk)
    cases on
    · go_wp2
      go_ret2
      rw [HO2.out, ← HX.out]
      exact ⟨_, rfl, HS.out _, HB2.out.setCell HB.out _⟩
    · go_wp2
      go_ret2
      rw [HO1.out, ← HX.out]
      exact ⟨_, rfl, HS.out _, HB2.out.setCell HB.out _⟩
  · have hf : has b i = false := by simpa using hh
    have HE : Hid (setR b i on = []) := by show _ = _; rw [setR, if_neg hh]
    rw [HE.out, hf]
    rw [hf] at HH
    clear h hi hl hh hf HE
    generalize b.length = n at *
    go_enter Try.func25, Try.ntmps25
    go_wp2_with (refine HH.out.mono ?_; rintro e w1 ⟨rfl, rfl⟩)
    go_ret2
    exact ⟨_, rfl, .inl ⟨_, rfl, rfl⟩, Below.refl _ _⟩
end Go.Proofs.Ytiafmghdiidniaa
end

section
/-
  THE WALK of the program's visit, for whatever function is handed over.
-/
namespace Go.Proofs.Ytiafmghdiidniaa
open Go.RowKit Bm

set_option maxRecDepth 100000 in
set_option maxHeartbeats 1000000 in
theorem Bmvisit_any (k : FuncId) (caps : Array Value) (b : List UInt8) (f t : Int) (A : Option Addr) (cap : Nat) (J : Nat → World → Prop) (Q : World → Prop) (w : World) (hl : b.length ≤ 1000000) (hf : In64 f) (ht : In64 t)
    (hEn : ∀ (args : Array Value) (W : World), (callFunc k args).run Try.prog W = .ok (.enter k args) W)
    (hDo : ∀ (i : Nat) W, f ≤ i → has b i = true → (i : Int) < t → J i W → Calls Try.prog k (#[.int .i64 i] ++ caps) W fun e w' => ∃ c, e = .returned (.bool c) ∧ (c = true → J (i + 1) w') ∧ (c = false → Q w'))
    (hEnd : ∀ (i : Nat) W, f ≤ i → ¬ ((i : Int) < t ∧ has b i = true) → J i W → Q W) (h0 : J f.toNat w) :
    Calls Try.prog 56 #[.slice A b.length cap, .int .i64 f, .int .i64 t, .func (.func k) #[] caps] w fun e w' => e = .returned (.tuple #[]) ∧ Q w' := by
  have HH : Hid (∀ (i : Int) W, In64 i → Calls Try.prog 44 #[.slice A b.length cap, .int .i64 i] W fun e w' => e = .returned (.bool (has b i)) ∧ w' = W) := fun i W hi => Bmhas_any b i A cap W hl hi
  have HT : Hid (∀ i : Nat, has b i = true → i ≤ 8000000) := fun i h => by have := has_iff.1 h; omega
  obtain ⟨f1, f2⟩ := hf
  obtain ⟨t1, t2⟩ := ht
  generalize has b = p at *
  generalize b.length = n at *
  have HDo := Lib.hid hDo
  have HEnd := Lib.hid hEnd
  have H0 := Lib.hid h0
  clear hDo hEnd h0 hl b
  have hmax : ∀ W : World, (Builtin.max_ #[3, 3] 3 #[.int .i64 f, .int .i64 0]).run Try.prog W = .ok (.int .i64 (f.toNat : Int)) W := by
    intro W
    by_cases h : f < 0
    · rw [show f.toNat = 0 by omega]; simp [Builtin.max_, Builtin.max2, h]
    · rw [show ((f.toNat : Nat) : Int) = f by omega]; simp [Builtin.max_, Builtin.max2, h]
  go_enter Try.func56, Try.ntmps56
  go_wp2
  go_loopw [8] (fun i wr => ∃ m : Nat, i = .int .i64 m ∧ f ≤ m ∧ Hid (In64 m) ∧ Hid (J m wr)) (fun i _ => 8000001 - (intOf i).toNat)
  case atStart => exact ⟨f.toNat, by rw [show max f 0 = ((f.toNat : Nat) : Int) by omega], by omega, ⟨by omega, by omega⟩, H0⟩
  case round =>
    obtain ⟨m, rfl, hm, HM, HJ⟩ := hrel
    clear H0
    have HHm := Lib.hid (HH.out m wr HM.out)
    have HEm := Lib.hid (HEnd.out m wr hm)
    have HTm := Lib.hid (HT.out m)
    by_cases hlt : (m : Int) < t
    · cases hp : p m
      · rw [hp] at HHm
        have HQ : Hid (Q wr) := HEm.out (fun h => by rw [hp] at h; cases h.2) HJ.out
        clear hp HEm HH HDo HEnd HTm HT HJ
        go_wp2_with fail
        refine HHm.out.mono ?_
        rintro e w1 ⟨rfl, rfl⟩
        go_wp2
        go_end0
        exact ⟨rfl, HQ.out⟩
      · rw [hp] at HHm
        have HD := Lib.hid (HDo.out m wr hm hp hlt HJ.out)
        have hm8 : m ≤ 8000000 := HTm.out hp
        clear hp HEm HH HDo HEnd HTm HT HJ
        go_wp2_with fail
        refine HHm.out.mono ?_
        rintro e w1 ⟨rfl, rfl⟩
        go_wp2_with fail
        refine HD.out.mono ?_
        rintro e w2 ⟨c, rfl, hc1, hc2⟩
        cases c
        · have HQ := Lib.hid (hc2 rfl)
          clear hc1 hc2 HD HHm
          go_wp2
          (try simp only [Exit.inBlock, Exit.then]); refine bodyPost_ret (results_none rfl _ _ _) rfl ?_
          exact ⟨rfl, HQ.out⟩
        · have HQ := Lib.hid (hc1 rfl)
          clear hc1 hc2 HD HHm
          go_wp2
          go_roundw
          case rel => exact ⟨m + 1, by go_num, by omega, ⟨by omega, by omega⟩, HQ⟩
          case measure => simp [intOf]; omega
    · have HQ : Hid (Q wr) := HEm.out (fun h => hlt h.1) HJ.out
      clear HEm HH HDo HEnd HTm HT HJ HHm
      go_wp2
      go_end0
      exact ⟨rfl, HQ.out⟩
end Go.Proofs.Ytiafmghdiidniaa
end
