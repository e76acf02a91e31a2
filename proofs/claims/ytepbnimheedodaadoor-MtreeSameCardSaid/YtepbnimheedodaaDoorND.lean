/-
  WHAT THE LAWS OF LAYER 9 LEAN ON: the contracts of the program's functions (each is shown in its own text), over any account T of how a tree lies; both trees side by side; THE WALK of knows.
-/
import Derived.Test.YtepbnimheedodaaDoorNC
import Derived.Test.YtepbnimheedodaaDoorML
namespace Go.Proofs.YtepbnimheedodaaDoor
open Go.RowKit Mk Mt

/-- T w F D key L S V: at D lies a tree in the blocks F: its tags, which were set since the root was asked for, how many nodes were worked out. -/
abbrev Tree := World → (Nat → Prop) → Nat → Tg → List Tg → List Bool → Nat → Prop
def AfterT (T : Tree) (w : World) (F : Nat → Prop) (w' : World) (D : Nat) (key : Tg) (L : List Tg) (S : List Bool) (V : Nat) : Prop :=
  ∃ F', T w' F' D key L S V ∧ (∀ k, F' k → F k ∨ w.heap.size ≤ k) ∧ Chg (fun k _ => F k) w w'
structure TreeC (T : Tree) : Prop where
  lt : ∀ {w F D key L S V}, T w F D key L S V → ∀ k, F k → k < w.heap.size
  len : ∀ {w F D key L S V}, T w F D key L S V → S.length = L.length ∧ 0 < L.length ∧ L.length ≤ 100 ∧ (∀ t ∈ L, t.length = 32)
  stay : ∀ {w F D key L S V w' X}, T w F D key L S V → Chg X w w' → (∀ k o, F k → ¬ X k o) → T w' F D key L S V
  newBad : ∀ (key : Tg) (v : Value) (n : Int) (w : World), key.length ≤ 1000 → (n < 1 ∨ 512 < n) → Hm.Tab w → Arg w v key → Calls Tryd.prog 6 #[v, .int .i64 n] w fun e w' => e = .returned (.tuple #[.pointer none, .int .i64 1]) ∧ Below w.heap.size w w'
  newOk : ∀ (key : Tg) (v : Value) (n : Nat) (w : World), key.length ≤ 1000 → 1 ≤ n → n ≤ 100 → Hm.Tab w → Arg w v key → Calls Tryd.prog 6 #[v, .int .i64 n] w fun e w' =>
    ∃ D F, e = .returned (.tuple #[.pointer (some ⟨D, 0, none⟩), .int .i64 0]) ∧ T w' F D key (List.replicate n zero) (List.replicate n false) 0 ∧ (∀ k, F k → w.heap.size ≤ k) ∧ Below w.heap.size w w'
  setOk : ∀ {w F D key L S V}, T w F D key L S V → ∀ (i : Nat) (t : Tg) (ts : List Value), i < L.length → Vec 32 t ts → Calls Tryd.prog 9 #[.pointer (some ⟨D, 0, none⟩), .int .i64 i, .agg ts.toArray] w fun e w' =>
    e = .returned (.int .i64 0) ∧ AfterT T w F w' D key (L.set i t) (S.set i true) V
  setBad : ∀ {w F D key L S V}, T w F D key L S V → ∀ (d : Int) (t : Tg) (ts : List Value), (d < 0 ∨ (L.length : Int) ≤ d) → Vec 32 t ts → Calls Tryd.prog 9 #[.pointer (some ⟨D, 0, none⟩), .int .i64 d, .agg ts.toArray] w fun e w' =>
    e = .returned (.int .i64 1) ∧ Below w.heap.size w w'
  getOk : ∀ {w F D key L S V}, T w F D key L S V → ∀ (i : Nat), i < L.length → Calls Tryd.prog 13 #[.pointer (some ⟨D, 0, none⟩), .int .i64 i] w fun e w' =>
    (∃ ts : List Value, Hid (Vec 32 (L.getD i []) ts) ∧ e = .returned (.tuple #[.agg ts.toArray, .int .i64 0])) ∧ Below w.heap.size w w'
  getBad : ∀ {w F D key L S V}, T w F D key L S V → ∀ (d : Int), (d < 0 ∨ (L.length : Int) ≤ d) → Calls Tryd.prog 13 #[.pointer (some ⟨D, 0, none⟩), .int .i64 d] w fun e w' =>
    e = .returned (.tuple #[.agg Hm.Z32.toArray, .int .i64 1]) ∧ Below w.heap.size w w'
  stale : ∀ {w F D key L S V}, T w F D key L S V → ∀ (h : Nat), IsH L.length h → Calls Tryd.prog 14 #[.pointer (some ⟨D, 0, none⟩)] w fun e w' => e = .returned (.int .i64 ((st h S : Nat) : Int)) ∧ Below w.heap.size w w'
  work : ∀ {w F D key L S V}, T w F D key L S V → Calls Tryd.prog 16 #[.pointer (some ⟨D, 0, none⟩)] w fun e w' => e = .returned (.int .i64 (V : Int)) ∧ Below w.heap.size w w'
  places : ∀ {w F D key L S V}, T w F D key L S V → Calls Tryd.prog 17 #[.pointer (some ⟨D, 0, none⟩)] w fun e w' => e = .returned (.int .i64 (L.length : Int)) ∧ Below w.heap.size w w'
  root : ∀ {w F D key L S V}, T w F D key L S V → Hm.Tab w → (∀ k, F k → k ≠ 0) → V ≤ 100000 → ∀ (h : Nat), IsH L.length h → Calls Tryd.prog 10 #[.pointer (some ⟨D, 0, none⟩)] w fun e w' =>
    ∃ rs : List Value, (Hid (Vec 32 (root key L h) rs) ∧ e = .returned (.agg rs.toArray)) ∧ AfterT T w F w' D key L (List.replicate L.length false) (V + st h S)

theorem below_chg {w0 W W' : World} {S : Nat → Nat → Prop} {n : Nat} (hb : Below n w0 W) (hn : n ≤ W.heap.size) (hc : Chg S W W') (hS : ∀ k o, S k o → n ≤ k) : Below n w0 W' :=
  hb.trans ⟨hc.os, hc.tape, hc.output, hc.size, fun k hk => hc.block k (Nat.lt_of_lt_of_le hk hn) fun o ho => by have := hS k o ho; omega⟩
theorem Hm.Tab.stay {w w' : World} {n : Nat} (h : Hm.Tab w) (hn : 0 < n) (hb : Below n w w') : Hm.Tab w' := by
  have hs := hb.block _ hn
  have hlt := h.1
  refine ⟨?_, fun j u hu => ?_⟩
  · rw [Array.getElem?_eq_getElem hlt] at hs
    exact (Array.getElem?_eq_some_iff.1 hs).1
  · rw [← h.2 j u hu]
    exact World.cell?_of_block hs
theorem built1 (w : World) : (Instr.build 34 #[(0, .int .u8 1)]).run Tryd.prog w = .ok (.agg ((1 :: List.replicate 31 0).map V8).toArray) w := by kernel_rfl
theorem built2 (w : World) : (Instr.build 34 #[(0, .int .u8 2)]).run Tryd.prog w = .ok (.agg ((2 :: List.replicate 31 0).map V8).toArray) w := by kernel_rfl
theorem built3 (w : World) : (Instr.build 34 #[(0, .int .u8 3)]).run Tryd.prog w = .ok (.agg ((3 :: List.replicate 31 0).map V8).toArray) w := by kernel_rfl
def kW : Tg := [107]
theorem isH5 : IsH 5 2 := ⟨by decide, by decide, .inr (by decide)⟩
def t1 : Tg := 1 :: List.replicate 31 0
def t2 : Tg := 2 :: List.replicate 31 0
def t3 : Tg := 3 :: List.replicate 31 0
def s2 : List Bool := ((List.replicate 5 false).set 0 true).set 1 true
def s3 : List Bool := s2.set 4 true
theorem st_s2 : st 2 s2 = 2 := by decide
theorem st_s3 : st 2 s3 = 3 := by decide
theorem After.below {T : Tree} {w w' : World} {F : Nat → Prop} {D n : Nat} {key : Tg} {L : List Tg} {S : List Bool} {V : Nat} (h : AfterT T w F w' D key L S V) (hF : ∀ k, F k → n ≤ k) (hn : n ≤ w.heap.size) :
    ∃ F', T w' F' D key L S V ∧ (∀ k, F' k → n ≤ k) ∧ Below n w w' := by
  obtain ⟨F', hT, hF', hC⟩ := h
  exact ⟨F', hT, fun k hk => (hF' k hk).elim (hF k) (fun h => Nat.le_trans hn h), below_chg (Below.refl _ _) hn hC fun k _ hk => hF k hk⟩

set_option maxRecDepth 100000 in
set_option maxHeartbeats 1000000 in
theorem Qknows_any {T : Tree} (C : TreeC T) (w : World) (hT : Hm.Tab w) : Calls Tryd.prog 5 #[] w fun e w' => e = .returned (.bool true) ∧ Below w.heap.size w w' := by
  have hc1 := Joins.run_convert_bytes_const_at (P := Tryd.prog) w 22 5 #[.int .u8 107] 1 1 w.heap.size rfl Tryd.underlying22 Tryd.underlying5
  obtain ⟨w0, hw0⟩ : ∃ w0, w0 = w.alloc (.cells #[.int .u8 107] 5 (1, 2)) := ⟨_, rfl⟩
  have HC : Hid (Below w.heap.size w w0) := by rw [hw0]; exact (Below.refl _ _).alloc (Nat.le_refl _) _
  have HA : Hid (Arg w0 (.slice (some ⟨w.heap.size, 0, none⟩) 1 1) kW) := by
    refine .inr ⟨w.heap.size, 0, 1, rfl, by rw [hw0]; simp, by decide, fun j u hu => ?_⟩
    rw [hw0, Nat.zero_add]
    refine (Joins.cell_alloc_mark_at w _ _ _ _ j rfl).trans ?_
    rw [List.getElem?_toArray]
    exact hu
  have HT : Hid (Hm.Tab w0) := hT.below HC.out
  have Htl : Hid (0 < w.heap.size) := hT.1
  have Hk : Hid (kW.length ≤ 1000) := by show _ ≤ _; decide
  have H5 : Hid (∀ t : Tg, (∀ L : List Tg, L.length = 5 → L.length = 5)) := fun _ _ h => h
  have hb1 := built1
  have hb2 := built2
  have hb3 := built3
  clear hT
  go_enter Tryd.func5, Tryd.ntmps5
  go_wp2_with fail
  rw [← hw0]
  refine (C.newOk kW _ 5 w0 Hk.out (by decide) (by decide) HT.out HA.out).mono ?_
  rintro e w1 ⟨D, F, rfl, hTr, hF, hb⟩
  have HF : Hid (∀ k, F k → w.heap.size ≤ k) := fun k hk => Nat.le_trans HC.out.size (hF k hk)
  replace HC := Lib.hid (HC.out.trans (hb.mono HC.out.size))
  replace HT := Lib.hid (HT.out.below hb)
  have HTr := Lib.hid hTr
  clear hb hc1 hw0 hTr hF HA
  go_wp2_with fail
  refine (C.newBad [] _ 0 w1 (by decide) (.inl (by decide)) HT.out (.inl ⟨none, rfl, rfl⟩)).mono ?_
  rintro e w2 ⟨rfl, hb⟩
  replace HC := Lib.hid (HC.out.trans (hb.mono HC.out.size))
  replace HT := Lib.hid (HT.out.below hb)
  replace HTr := Lib.hid (C.stay HTr.out (Chg.below hb fun _ _ => False) fun _ _ _ x => x)
  clear hb
  go_wp2_with fail
  refine (C.setOk HTr.out 0 t1 (t1.map V8) (by simp) ⟨rfl, by decide⟩).mono ?_
  rintro e w3 ⟨rfl, haf⟩
  obtain ⟨F3, hTr3, hF3, hb⟩ := After.below haf HF.out HC.out.size
  replace HF : Hid (∀ k, F3 k → w.heap.size ≤ k) := hF3
  replace HT := Lib.hid (HT.out.stay Htl.out hb)
  replace HC := Lib.hid (HC.out.trans hb)
  replace HTr := Lib.hid hTr3
  clear hb haf hF3 hTr3
  go_wp2_with fail
  refine (C.setOk HTr.out 1 t2 (t2.map V8) (by simp) ⟨rfl, by decide⟩).mono ?_
  rintro e w4 ⟨rfl, haf⟩
  obtain ⟨F4, hTr4, hF4, hb⟩ := After.below haf HF.out HC.out.size
  replace HF : Hid (∀ k, F4 k → w.heap.size ≤ k) := hF4
  replace HT := Lib.hid (HT.out.stay Htl.out hb)
  replace HC := Lib.hid (HC.out.trans hb)
  replace HTr := Lib.hid hTr4
  clear hb haf hF4 hTr4
  go_wp2_with fail
  refine (C.stale HTr.out 2 (by simpa using isH5)).mono ?_
  rintro e w5 ⟨rfl, hb⟩
  rw [show st 2 (((List.replicate 5 false).set 0 true).set 1 true) = 2 from st_s2]
  replace HC := Lib.hid (HC.out.trans (hb.mono HC.out.size))
  replace HT := Lib.hid (HT.out.below hb)
  replace HTr := Lib.hid (C.stay HTr.out (Chg.below hb fun _ _ => False) fun _ _ _ x => x)
  clear hb
  go_wp2_with fail
  refine (C.setOk HTr.out 4 t3 (t3.map V8) (by simp) ⟨rfl, by decide⟩).mono ?_
  rintro e w6 ⟨rfl, haf⟩
  obtain ⟨F6, hTr6, hF6, hb⟩ := After.below haf HF.out HC.out.size
  replace HF : Hid (∀ k, F6 k → w.heap.size ≤ k) := hF6
  replace HT := Lib.hid (HT.out.stay Htl.out hb)
  replace HC := Lib.hid (HC.out.trans hb)
  replace HTr := Lib.hid hTr6
  clear hb haf hF6 hTr6
  go_wp2_with fail
  refine (C.stale HTr.out 2 (by simpa using isH5)).mono ?_
  rintro e w7 ⟨rfl, hb⟩
  rw [show st 2 ((((List.replicate 5 false).set 0 true).set 1 true).set 4 true) = 3 from st_s3]
  replace HC := Lib.hid (HC.out.trans (hb.mono HC.out.size))
  replace HT := Lib.hid (HT.out.below hb)
  replace HTr := Lib.hid (C.stay HTr.out (Chg.below hb fun _ _ => False) fun _ _ _ x => x)
  clear hb
  go_wp2_with fail
  refine (C.root HTr.out HT.out (fun k hk => by have := HF.out k hk; have := Htl.out; omega) (by decide) 2 (by simpa using isH5)).mono ?_
  rintro e w8 ⟨rs, ⟨_, rfl⟩, haf⟩
  rw [show st 2 ((((List.replicate 5 false).set 0 true).set 1 true).set 4 true) = 3 from st_s3] at haf
  obtain ⟨F8, hTr8, hF8, hb⟩ := After.below haf HF.out HC.out.size
  replace HC := Lib.hid (HC.out.trans hb)
  replace HTr := Lib.hid hTr8
  clear hb haf hF8 hTr8 HT HF
  go_wp2_with fail
  refine (C.work HTr.out).mono ?_
  rintro e w9 ⟨rfl, hb⟩
  replace HC := Lib.hid (HC.out.trans (hb.mono HC.out.size))
  replace HTr := Lib.hid (C.stay HTr.out (Chg.below hb fun _ _ => False) fun _ _ _ x => x)
  clear hb
  go_wp2_with fail
  refine (C.stale HTr.out 2 (by simpa using isH5)).mono ?_
  rintro e w10 ⟨rfl, hb⟩
  replace HC := Lib.hid (HC.out.trans (hb.mono HC.out.size))
  rw [st_no]
  clear hb HTr
  go_wp2
  go_ret
  exact ⟨rfl, HC.out⟩
end Go.Proofs.YtepbnimheedodaaDoor
