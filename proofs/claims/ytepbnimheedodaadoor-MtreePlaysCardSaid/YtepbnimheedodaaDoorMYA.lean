/-
  THE WALKS of the program's levels and of the function that it returns.
-/
import Derived.Test.YtepbnimheedodaaDoorMYB
namespace Go.Proofs.YtepbnimheedodaaDoor
open Go.RowKit Go.Shelf Mk

attribute [local go_sem] Oper.semAt_some

/-- A level as it is handed over: its block and its number. -/
abbrev Lv := Nat × Nat
def encL (h : Nat) (x : Lv) : Value := .slice (some ⟨x.1, 0, none⟩) (4 ^ (h - 1 - x.2)) (4 ^ (h - 1 - x.2))
def blkL (x : Lv) : Nat := x.1
def liesL (key : Tg) (l : List Tg) (h : Nat) (x : Lv) (W : World) : Prop := Row W x.1 80 (cells (lev key (full l h) x.2))
def KeepL (n₀ gl gk : Nat) (W W' : World) : Prop := (∀ v, Boxed W gl 48 v → Boxed W' gl 48 v) ∧ (∀ v, Boxed W gk 22 v → Boxed W' gk 22 v) ∧ Below n₀ W W'
def allL (h : Nat) (xs : List Lv) : Prop := xs.map (·.2) = List.range h
def nextL (h : Nat) (pre : List Lv) (x : Lv) : Prop := pre.map (·.2) = List.range x.2 ∧ x.2 < h
theorem KeepL.trans {n₀ gl gk : Nat} {A B C : World} (h : KeepL n₀ gl gk A B) (k : KeepL n₀ gl gk B C) : KeepL n₀ gl gk A C := ⟨fun v hv => k.1 v (h.1 v hv), fun v hv => k.2.1 v (h.2.1 v hv), h.2.2.trans k.2.2⟩
theorem keepL_put {n₀ gl gk n : Nat} (h0 : n₀ ≤ n) (h1 : gl < n) (h2 : gk < n) (W : World) (l : Nat) (o o' : Obj) (hl : n ≤ l) (ho : W.heap[l]? = some o) (_ : o.isCells = false) : KeepL n₀ gl gk W (W.putObj l o') := by
  have hlt := (Array.getElem?_eq_some_iff.1 ho).1
  exact ⟨fun v hv => hv.kept (grownBy_putObj' W l o') (fun e => by cases e; omega), fun v hv => hv.kept (grownBy_putObj' W l o') (fun e => by cases e; omega),
    (Below.refl n₀ W).grown (grownBy_putObj' W l o') (by omega) (fun k e => by cases e; omega)⟩
theorem Row.put {W : World} {g l : Nat} {t : TypeId} {cs : List Value} {o o' : Obj} (h : Row W g t cs) (ho : W.heap[l]? = some o) (hc : o.isCells = false) : Row (W.putObj l o') g t cs := by
  by_cases e : g = l
  · subst e
    have h1 := h.symm.trans ho
    cases h1
    cases hc
  · exact (World.putObj_heap_other e).trans h
theorem liesL_put {key : Tg} {l : List Tg} {h : Nat} (x : Lv) (W : World) (k : Nat) (o o' : Obj) (ho : W.heap[k]? = some o) (hc : o.isCells = false) (hx : liesL key l h x W) : liesL key l h x (W.putObj k o') := Row.put hx ho hc

def slen : Value → Nat
  | .slice _ n _ => n
  | _ => 0

theorem levels_any (A B : Option Addr) (n cap m cap2 : Nat) (w : World) :
    Calls Tryd.prog 32 #[.slice A n cap, .slice B m cap2] w fun e w' => e = .returned (.func (.func 44) #[] #[.pointer (some ⟨w.heap.size + 1, 0, none⟩), .pointer (some ⟨w.heap.size, 0, none⟩)]) ∧ w' = (w.alloc (.cells #[.slice A n cap] 22)).alloc (.cells #[.slice B m cap2] 48) := by
  go_enter Tryd.func32, Tryd.ntmps32
  go_wp2
  go_ret
  exact ⟨rfl, rfl⟩

structure AtL (J : List Lv → Nat → World → Prop) (key : Tg) (l : List Tg) (h gl gk : Nat) (x v : Value) (u W : World) (pre : List Lv) (g i n C : Nat) : Prop where
  lt : i < h
  num : n = 4 ^ (h - 1 - i)
  pr : pre.map (·.2) = List.range i
  inv : J pre C W
  le : C ≤ W.heap.size
  low : C ≤ g
  row : Row W g 80 (cells (lev key (full l h) i))
  bl : Boxed W gl 48 x
  bk : Boxed W gk 22 v
  bel : Below u.heap.size u W
theorem AtL.enc {J : List Lv → Nat → World → Prop} {key : Tg} {l : List Tg} {h gl gk : Nat} {x v : Value} {u W : World} {pre : List Lv} {g i n C : Nat} (a : AtL J key l h gl gk x v u W pre g i n C) : encL h (g, i) = .slice (some ⟨g, 0, none⟩) n n := by
  rw [encL, a.num]

set_option maxRecDepth 100000 in
set_option maxHeartbeats 1000000 in
theorem levels1_in (F : Fence) (n : Nat) (hO : Open F Tryd.prog) (hro : F.round = none) (hn : 1 ≤ n)
    (key : Tg) (l : List Tg) (h : Nat) (hk : key.length ≤ 1000) (hl : l.length ≤ 100) (hh : IsH l.length h) (v x : Value) (u w : World) (hT : Hm.Tab u) (hA : Arg u v key) (hX : Tags u x l) (hu : Below u.heap.size u w)
    (gl gk : Nat) (hbl : Boxed w gl 48 x) (hbk : Boxed w gk 22 v) :
    Levels F n Tryd.prog 44 #[.pointer (some ⟨gl, 0, none⟩), .pointer (some ⟨gk, 0, none⟩)] (encL h) blkL (liesL key l h) (KeepL u.heap.size gl gk) (allL h) (nextL h) w := by
  intro L J W hW hJb hJm hY h0
  replace hbl : Boxed W gl 48 x := (hW.block gl hbl.lt).trans hbl
  replace hbk : Boxed W gk 22 v := (hW.block gk hbk.lt).trans hbk
  have hbe : Below u.heap.size u W := hu.trans (hW.mono hu.size)
  have HLo := Lib.hid (lowest_any l x W hl (hX.below hbe))
  obtain ⟨h', m0, eh, h3, hm0, hm64, hm4, hlen⟩ := isH_small hl hh
  have hX0 := hX.below hbe
  obtain ⟨_, B, cap2, rfl, _⟩ := hX0
  obtain ⟨A, cap, rfl⟩ := hA.form
  obtain ⟨kn, hkn⟩ : ∃ n, n = key.length := ⟨_, rfl⟩
  obtain ⟨ln, hln⟩ : ∃ n, n = l.length := ⟨_, rfl⟩
  rw [← hkn] at hA hbk
  rw [← hln] at hX HLo hbl hh
  have Hkey := Lib.hid hk
  have HT := Lib.hid hT
  have HA := Lib.hid hA
  have Hh := Lib.hid hh
  have Hhe : Hid (h ≤ 4) := by show _ ≤ _; omega
  have H1 : Hid (1 ≤ h) := by show _ ≤ _; omega
  have H0 := Lib.hid h0
  have HJb := Lib.hid hJb
  have HJm := Lib.hid hJm
  have HY := Lib.hid hY
  have HBl := Lib.hid hbl
  have HBk := Lib.hid hbk
  have HBe := Lib.hid hbe
  have Hlev : Hid (∀ i, i ≤ h → (lev key (full l h) i).length = 4 ^ (h - i)) := fun i hi => lev_length key _ h (full_length l h hlen) i hi
  have H32 : Hid (∀ i, ∀ t ∈ lev key (full l h) i, t.length = 32) := lev_32 key _ (full_32 l h hX.1)
  have hcl := hbl.cell
  have hf1 := hO.fn 45
  have hf2 := hO.fn 46
  clear hW hu hT hA hX hJb hJm hY h0 hk hl hh eh h3 hm0 hm64 hm4 hlen hkn hln hbe hbl hbk
  refine callsIn_of_wp Tryd.func44 rfl (hO.fn _) ?_ hro
  simp only [Tryd.ntmps44, List.size_toArray, List.length_cons, List.length_nil, Nat.reduceAdd, Nat.reduceSub, Array.replicate_succ, Array.replicate_zero, List.push_toArray, List.append_toArray, List.nil_append, List.cons_append]
  gi_wp2_with (gi_at_call 45; refine (hO.calls HLo.out).mono ?_; rintro e w1 ⟨⟨h2, n1, g1, Hh2, Hn4, hn64, Hg, HR, rfl⟩, hb1⟩)
  obtain rfl : h2 = h := Hh2.out.unique Hh.out
  have HAt : Hid (AtL J key l h2 gl gk (.slice B ln cap2) (.slice A kn cap) u w1 [] g1 0 n1 W.heap.size) := by
    refine ⟨H1.out, ?_, rfl, HJb.out _ _ _ _ H0.out (Nat.le_refl _) hb1, hb1.size, Hg.out, HR.out, (hb1.block _ HBl.out.lt).trans HBl.out, (hb1.block _ HBk.out.lt).trans HBk.out, HBe.out.trans (hb1.mono HBe.out.size)⟩
    have e4 := Hn4.out
    obtain ⟨h3, rfl⟩ : ∃ h3, h2 = h3 + 1 := ⟨h2 - 1, by have := H1.out; omega⟩
    rw [Nat.pow_succ] at e4
    simp only [Nat.add_sub_cancel, Nat.sub_zero]
    omega
  have hn1 : 1 ≤ n1 := by
    rw [HAt.out.num]; exact Nat.pow_pos (by omega)
  clear hcl hb1 HR Hn4 Hg H0 HBe HBl HBk HLo Hh2
  gi_loopw [4] (fun p wr => ∃ (pre : List Lv) (g i n C : Nat), p = .slice (some ⟨g, 0, none⟩) n n ∧ 1 ≤ n ∧ n ≤ 64 ∧ Hid (AtL J key l h2 gl gk (.slice B ln cap2) (.slice A kn cap) u wr pre g i n C)) (fun p _ => slen p)
  case atStart => exact ⟨[], g1, 0, n1, _, rfl, hn1, hn64, HAt⟩
  case round =>
    obtain ⟨pre, g, i, q, C, rfl, hq1, hq64, HQ⟩ := hrel
    clear HAt hn1 hn64
    have hy0 := HY.out pre (g, i) C wr HQ.out.inv HQ.out.le HQ.out.low HQ.out.row ⟨HQ.out.pr, HQ.out.lt⟩
    rw [HQ.out.enc] at hy0
    obtain ⟨fn, tmps, assign, body, hyy, hR⟩ := hy0
    have HPr : Hid ((pre ++ [(g, i)]).map (·.2) = List.range (i + 1)) := by show _ = _; rw [List.map_append, HQ.out.pr, List.range_succ]; rfl
    by_cases hlast : i + 1 = h2
    · obtain rfl : q = 1 := by rw [HQ.out.num, show h2 - 1 - i = 0 by omega, Nat.pow_zero]
      subst hlast
      gi_wp2
      refine hR.mono ?_
      rintro e W3 ⟨rfl, hJ3, hL3, hk3⟩
      have HJ3 := Lib.hid hJ3
      clear hR hyy hJ3 hL3 hk3
      gi_wp2
      go_end0
      exact ⟨⟨_, rfl⟩, _, HPr.out, HJ3.out⟩
    · obtain ⟨m, hm⟩ : ∃ m, m = 4 ^ (h2 - 1 - (i + 1)) := ⟨_, rfl⟩
      have hlt := HQ.out.lt
      have hqm : q = 4 * m := by rw [HQ.out.num, hm, show h2 - 1 - i = (h2 - 1 - (i + 1)) + 1 by omega, Nat.pow_succ, Nat.mul_comm]
      have hm1 : 1 ≤ m := by rw [hm]; exact Nat.pow_pos (by omega)
      have Hrow : Hid ((lev key (full l h2) i).length = 4 * q) := by
        show _ = _
        rw [Hlev.out i (by omega), HQ.out.num, show h2 - i = (h2 - 1 - i) + 1 by omega, Nat.pow_succ, Nat.mul_comm]
      have Hm := Lib.hid hm
      have Hqm := Lib.hid hqm
      have Hlt : Hid (i + 1 < h2) := by show _ < _; omega
      have hq : 1 < q := by omega
      have hm64 : m ≤ 1000 := by omega
      clear hm hqm hlast hlt hq1
      gi_wp2
      refine hR.mono ?_
      rintro e W3 ⟨rfl, hJ3, hL3, hk3⟩
      have HJ3 := Lib.hid hJ3
      have HL3 : Hid (Row W3 g 80 (cells (lev key (full l h2) i))) := hL3
      have HBk3 := Lib.hid (hk3.2.1 _ HQ.out.bk)
      have HBl3 := Lib.hid (hk3.1 _ HQ.out.bl)
      have HBe3 := Lib.hid (HQ.out.bel.trans (hk3.2.2))
      have hck := HBk3.out.cell
      have HAb := Lib.hid (above_any key (lev key (full l h2) i) (.slice A kn cap) g q m W3 Hkey.out hm64 Hqm.out Hrow.out (H32.out i) (HT.out.below HBe3.out) (HA.out.below HBe3.out) HL3.out)
      clear hR hyy hJ3 hL3 hk3
      gi_wp2_with (gi_at_call 46; refine (hO.calls HAb.out).mono ?_; rintro e w4 ⟨⟨g2, Hg2, HR2, rfl⟩, hb4⟩)
      have HAt : Hid (AtL J key l h2 gl gk (.slice B ln cap2) (.slice A kn cap) u w4 (pre ++ [(g, i)]) g2 (i + 1) m W3.heap.size) :=
        ⟨Hlt.out, Hm.out, HPr.out, HJb.out _ _ _ _ HJ3.out (Nat.le_refl _) hb4, hb4.size, Hg2.out, HR2.out, (hb4.block _ HBl3.out.lt).trans HBl3.out, (hb4.block _ HBk3.out.lt).trans HBk3.out, HBe3.out.trans (hb4.mono HBe3.out.size)⟩
      go_roundw
      case rel => exact ⟨pre ++ [(g, i)], g2, i + 1, m, _, rfl, hm1, by have := Hqm.out; omega, HAt⟩
      case measure => have := Hqm.out; show m < q; omega
end Go.Proofs.YtepbnimheedodaaDoor
