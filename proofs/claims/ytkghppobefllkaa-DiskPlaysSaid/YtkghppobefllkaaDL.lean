/-
  THE WALKS of Flush, Crash, Dirty and of the functions that they hand over.
-/
import Derived.Test.YtkghppobefllkaaDK
import Derived.Shelf.Abstract
namespace Go.Proofs.Ytkghppobefllkaa
open Go.RowKit Dsk

section
variable {w w' : World} {F : Nat → Prop} {D g : Nat} {ps : Nat → Nat} {L : List Blk} {S : Nat → Nat → Prop}
theorem DiskW.settled (h : DiskW w F D g ps L) (hc : Chg S w w') {i : Nat} {b : Blk} (hb : L[i]? = some b) (k : Bool)
    (hS : ∀ c o, c < w.heap.size → F c → S c o → c = g ∧ i * 145 ≤ o ∧ o < i * 145 + 73)
    (h1 : Here w' g (i * 145 + 72) [.pointer none]) (h2 : Here w' g (i * 145) (if k then b.cur.map V8 else b.dur.map V8)) :
    DiskW w' F D g ps (L.set i (b.settle k)) := by
  have hok := h.ok i b hb
  have hc' : Chg (fun c o => (c = g ∧ i * 145 ≤ o ∧ o < i * 145 + 73) ∨ ¬ F c) w w' := hc.mono fun c o hl hs => by
    by_cases hf : F c
    · exact .inl (hS c o hl hf hs)
    · exact .inr hf
  have hi := (List.getElem?_eq_some_iff.1 hb).1
  have hgo : ∀ j, 73 ≤ j → j < 145 → ¬ ((g = g ∧ i * 145 ≤ i * 145 + j ∧ i * 145 + j < i * 145 + 73) ∨ ¬ F g) := fun j hj _ hs => by
    rcases hs with hs | hs
    · omega
    · exact hs h.fg
  have hother : ∀ (m : Nat) (c : Blk), L[m]? = some c → m ≠ i → Here w' g (m * 145) (cellsB c (ps m)) := fun m c hm hne => (h.row m c hm).chg hc' fun j hj hs => by
    rw [cellsB_length (h.ok m c hm)] at hj
    rcases hs with hs | hs
    · omega
    · exact hs h.fg
  have hget : ∀ (m : Nat) (c : Blk), (L.set i (b.settle k))[m]? = some c → (m = i ∧ c = b.settle k) ∨ (m ≠ i ∧ L[m]? = some c) := fun m c hm => by
    by_cases e : m = i
    · subst e
      rw [List.getElem?_set_self hi] at hm
      injection hm with hm
      exact .inl ⟨rfl, hm.symm⟩
    · rw [List.getElem?_set_ne (fun e' => e e'.symm)] at hm
      exact .inr ⟨e, hm⟩
  refine ⟨?_, fun m c hm => ?_, fun m c hm hd => ?_, fun m c hm => ?_, fun m n c d hm hn hd hd' e => ?_, fun m c hm hd => ?_, h.dg, h.fD, h.fg, fun c hf => Nat.lt_of_lt_of_le (h.lt c hf) hc.size, by simp; exact h.few⟩
  · rw [List.length_set]
    exact h.head.chg hc' fun j _ hs => by
      rcases hs with hs | hs
      · exact h.dg hs.1
      · exact hs h.fD
  · rcases hget m c hm with ⟨rfl, rfl⟩ | ⟨hne, hm⟩
    · have e1 : ((b.settle k).dur.map V8).length = 72 := V8_length _ 72 (Blk.settle_ok hok k).dur
      refine Here.append ?_ ?_
      · show Here w' g (m * 145) ((if k then b.cur else b.dur).map V8)
        cases k
        · exact h2
        · exact h2
      · rw [e1]
        have h3 : Here w' g (m * 145 + 73) (b.past.map V8) := (h.past hb).chg hc' fun j hj hs => by
          rw [V8_length _ 72 hok.past] at hj
          exact hgo (73 + j) (by omega) (by omega) (by rw [show m * 145 + (73 + j) = m * 145 + 73 + j by omega]; exact hs)
        exact h1.append h3
    · exact hother m c hm hne
  · rcases hget m c hm with ⟨rfl, rfl⟩ | ⟨hne, hm⟩
    · cases hd
    · refine (h.wr m c hm hd).chg hc' fun j _ hs => ?_
      have ha := h.apart m c hm hd
      rcases hs with hs | hs
      · exact ha.2.1 hs.1
      · exact hs ha.2.2
  · rcases hget m c hm with ⟨rfl, rfl⟩ | ⟨hne, hm⟩
    · exact Blk.settle_ok hok k
    · exact h.ok m c hm
  · rcases hget m c hm with ⟨rfl, rfl⟩ | ⟨_, hm⟩
    · cases hd
    · rcases hget n d hn with ⟨rfl, rfl⟩ | ⟨_, hn⟩
      · cases hd'
      · exact h.inj m n c d hm hn hd hd' e
  · rcases hget m c hm with ⟨rfl, rfl⟩ | ⟨_, hm⟩
    · cases hd
    · exact h.apart m c hm hd
end

set_option maxRecDepth 100000 in
set_option maxHeartbeats 1000000 in
theorem DFlush1_any (g o p : Nat) (cs ds : List Value) (w : World)
    (hp : Here w g (o + 72) [.pointer (some ⟨p, 0, none⟩)]) (hc : Here w p 0 cs) (hd : Here w g o ds)
    (l1 : cs.length = 72) (l2 : ds.length = 72) (c1 : cs.toArray.all (·.oneCell') = true) :
    Calls Try.prog 31 #[.pointer (some ⟨g, o, none⟩)] w fun e w' => e = .returned (.tuple #[]) ∧
      Here w' g (o + 72) [.pointer none] ∧ Here w' g o cs ∧ Chg (fun b j => b = g ∧ o ≤ j ∧ j < o + 73) w w' := by
  have HS := Lib.hid (Dsettle_any g o p true cs ds w hp hc hd l1 l2 c1)
  clear hp hc hd l1 l2 c1
  go_enter Try.func31, Try.ntmps31
  go_wp2_with fail
  refine HS.out.mono ?_
  rintro e w1 ⟨rfl, h1, h2, h3⟩
  have HE : Hid (_ ∧ _ ∧ _) := ⟨h1, h2, h3⟩
  clear h1 h2 h3 HS
  go_wp2
  go_end0
  exact ⟨rfl, HE.out⟩

theorem at_bool {w : World} {b off : Nat} {l : List Bool} (h : Sees w b off (l.map Value.bool)) (i : Nat) (hi : i < l.length) : w.cell? ⟨b, off + i, none⟩ = some (.bool (l.getD i false)) :=
  h.at_ (by rw [List.getElem?_map, List.getElem?_eq_getElem hi]; simp [hi])

set_option maxRecDepth 100000 in
set_option maxHeartbeats 1000000 in
theorem DCrash1_any (g o p pc kc m : Nat) (A : Option Addr) (nk cap : Nat) (bs : List Bool) (hnk : bs.length = nk) (hm : m ≤ 512) (cs ds : List Value) (w : World)
    (hp : Here w g (o + 72) [.pointer (some ⟨p, 0, none⟩)]) (hc : Here w p 0 cs) (hd : Here w g o ds)
    (l1 : cs.length = 72) (l2 : ds.length = 72) (c1 : cs.toArray.all (·.oneCell') = true)
    (hpl : Here w pc 0 [.int .i64 m]) (hkc : Here w kc 0 [.slice A nk cap]) (hk : From w (.slice A nk cap) (bs.map Value.bool)) (hpg : pc ≠ g) :
    Calls Try.prog 33 #[.pointer (some ⟨g, o, none⟩), .pointer (some ⟨pc, 0, none⟩), .pointer (some ⟨kc, 0, none⟩)] w fun e w' => e = .returned (.tuple #[]) ∧
      Here w' g (o + 72) [.pointer none] ∧ Here w' g o (if bs.getD m false then cs else ds) ∧ Here w' pc 0 [.int .i64 ((m + 1 : Nat) : Int)] ∧ Chg (fun b j => (b = g ∧ o ≤ j ∧ j < o + 73) ∨ b = pc) w w' := by
  have HS : Hid (∀ k, Calls Try.prog 32 #[.pointer (some ⟨g, o, none⟩), .bool k] w fun e w' => e = .returned (.tuple #[]) ∧
      Here w' g (o + 72) [.pointer none] ∧ Here w' g o (if k then cs else ds) ∧ Here w' pc 0 [.int .i64 m] ∧ Chg (fun b j => (b = g ∧ o ≤ j ∧ j < o + 73) ∨ b = pc) w w') := fun k => by
    refine (Dsettle_any g o p k cs ds w hp hc hd l1 l2 c1).mono ?_
    rintro e w' ⟨rfl, h1, h2, h3⟩
    exact ⟨rfl, h1, h2, hpl.chg h3 fun j _ hs => hpg hs.1, h3.mono fun b j _ hs => .inl hs⟩
  have c1 := hpl.head (j := 0) rfl
  have c2 := hkc.head (j := 0) rfl
  have HPG := Lib.hid hpg
  have HK := Lib.hid hk
  have HN := Lib.hid hnk
  clear hp hc hd l1 l2 hpl hkc hk hpg hnk
  have fin : ∀ (k : Bool) (w1 : World), (Here w1 g (o + 72) [.pointer none] ∧ Here w1 g o (if k then cs else ds) ∧ Here w1 pc 0 [.int .i64 m] ∧ Chg (fun b j => (b = g ∧ o ≤ j ∧ j < o + 73) ∨ b = pc) w w1) →
      (w1.cell? ⟨pc, 0, none⟩ = some (.int .i64 m) ∧ w1.frozen? ⟨pc, 0, none⟩ = false) ∧ Hid (Here (w1.setCell ⟨pc, 0, none⟩ (.int .i64 ((m : Int) + 1))) g (o + 72) [.pointer none] ∧ Here (w1.setCell ⟨pc, 0, none⟩ (.int .i64 ((m : Int) + 1))) g o (if k then cs else ds) ∧ Here (w1.setCell ⟨pc, 0, none⟩ (.int .i64 ((m : Int) + 1))) pc 0 [.int .i64 ((m + 1 : Nat) : Int)] ∧ Chg (fun b j => (b = g ∧ o ≤ j ∧ j < o + 73) ∨ b = pc) w (w1.setCell ⟨pc, 0, none⟩ (.int .i64 ((m : Int) + 1)))) := by
    rintro k w1 ⟨h1, h2, h3, h4⟩
    refine ⟨⟨h3.head (j := 0) rfl, h3.headFree (j := 0) (by simp)⟩, h1.putOff (fun e => HPG.out e.symm) _, h2.putOff (fun e => HPG.out e.symm) _, ?_, h4.setCell rfl (fun _ => .inr rfl) (by rw [h3.head (j := 0) rfl]; rfl) _⟩
    have := h3.put 0 (by simp) (.int .i64 ((m : Int) + 1))
    exact this
  have HFin := Lib.hid fin
  clear fin
  go_enter Try.func33, Try.ntmps33
  by_cases hlt : m < nk
  · obtain ⟨A', cap', hA, hs⟩ := HK.out.parts
    injection hA with hA1 hA2 hA3
    subst hA1
    obtain ⟨bb, bo, rfl, hbl, hsee⟩ := hs (by rw [List.length_map, HN.out]; omega)
    have hcell := at_bool hsee m (by rw [HN.out]; exact hlt)
    generalize bs.getD m false = k at *
    clear hA2 hA3 hs hsee hbl HK HN
    cases k
    all_goals
      go_wp2_with fail
      refine (HS.out _).mono ?_
      rintro e w1 ⟨rfl, h1⟩
      obtain ⟨⟨hc1, hf1⟩, HE⟩ := HFin.out _ w1 h1
      clear h1 HS HFin c1 c2 hcell
      go_wp2
      go_end0
      exact ⟨rfl, HE.out⟩
  · have hg : bs.getD m false = false := by rw [List.getD_eq_getElem?_getD, List.getElem?_eq_none (by rw [HN.out]; omega)]; rfl
    rw [hg]
    clear HK HN hg
    go_wp2_with fail
    refine (HS.out false).mono ?_
    rintro e w1 ⟨rfl, h1⟩
    obtain ⟨⟨hc1, hf1⟩, HE⟩ := HFin.out false w1 h1
    clear h1 HS HFin c1 c2
    go_wp2
    go_end0
    exact ⟨rfl, HE.out⟩

set_option maxRecDepth 100000 in
set_option maxHeartbeats 1000000 in
theorem DDirty1_any (ptr : Value) (mc m : Nat) (hm : m ≤ 512) (w : World) (h : Here w mc 0 [.int .i64 m]) :
    Calls Try.prog 37 #[ptr, .pointer (some ⟨mc, 0, none⟩)] w fun e w' => e = .returned (.tuple #[]) ∧ Here w' mc 0 [.int .i64 ((m + 1 : Nat) : Int)] ∧ Chg (fun b _ => b = mc) w w' := by
  have hc := h.head (j := 0) rfl
  have hf := h.headFree (j := 0) (by simp)
  have HE : Hid (Here (w.setCell ⟨mc, 0, none⟩ (.int .i64 ((m : Int) + 1))) mc 0 [.int .i64 ((m + 1 : Nat) : Int)] ∧ Chg (fun b _ => b = mc) w (w.setCell ⟨mc, 0, none⟩ (.int .i64 ((m : Int) + 1)))) := by
    refine ⟨?_, (Chg.refl _ w).setCell rfl (fun _ => rfl) (by rw [hc]; rfl) _⟩
    have := h.put 0 (by simp) (.int .i64 ((m : Int) + 1))
    exact this
  clear h
  go_enter Try.func37, Try.ntmps37
  go_wp2
  go_end0
  exact ⟨rfl, HE.out⟩
end Go.Proofs.Ytkghppobefllkaa
