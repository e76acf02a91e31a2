/-
  THE WALKS of the program's Alter, Back, Swap.
-/
import Derived.Test.YtkghppobefllkaaDG
import Derived.StillTailTactics
namespace Go.Proofs.Ytkghppobefllkaa
open Go.RowKit Dsk

namespace Dsk
def Blk.setBoth (b : Blk) (c p : List UInt8) : Blk := match b.wr with
  | some _ => ⟨b.dur, some c, p⟩
  | none => ⟨c, none, p⟩
theorem Blk.setCur_both (b : Blk) (c : List UInt8) : b.setCur c = b.setBoth c b.past := by unfold Blk.setCur Blk.setBoth; cases b.wr <;> rfl
theorem Blk.back_both (b : Blk) : b.back = b.setBoth b.past b.cur := by unfold Blk.back Blk.setBoth; cases b.wr <;> rfl
theorem Blk.setBoth_cur (b : Blk) (c p : List UInt8) : (b.setBoth c p).cur = c := by unfold Blk.setBoth Blk.cur; cases b.wr <;> rfl
theorem Blk.setBoth_past (b : Blk) (c p : List UInt8) : (b.setBoth c p).past = p := by unfold Blk.setBoth; cases b.wr <;> rfl
theorem Blk.setBoth_dirty (b : Blk) (c p : List UInt8) : (b.setBoth c p).dirty = b.dirty := by unfold Blk.setBoth Blk.dirty; cases h : b.wr <;> rfl
theorem Blk.setBoth_ok {b : Blk} (h : b.ok) {c p : List UInt8} (hc : c.length = 72) (hp : p.length = 72) : (b.setBoth c p).ok := by
  unfold Blk.setBoth
  cases hw : b.wr with
  | none => exact ⟨hc, hp, fun c hc => by cases hc⟩
  | some d => exact ⟨h.dur, hp, fun c' e => by injection e with e; rw [← e]; exact hc⟩
theorem Blk.setBoth_dur {b : Blk} (c p : List UInt8) : (b.setBoth c p).dur = if b.dirty then b.dur else c := by unfold Blk.setBoth Blk.dirty; cases b.wr <;> rfl
/-- May this be altered? -/
def okA (L : List Blk) (i j : Int) (x : UInt8) : Bool := (getB L i).isSome && (decide (0 ≤ j) && (decide (j < 72) && decide (x ≠ 0)))
def altB (j : Nat) (x : UInt8) (b : Blk) : Blk := b.setCur (b.cur.set j (b.cur.getD j 0 ^^^ x))
def alterL (L : List Blk) (i j : Int) (x : UInt8) : List Blk := if okA L i j x then upd1 L i (altB j.toNat x) else L
def okB (L : List Blk) (i : Int) : Bool := (getB L i).isSome
def backL (L : List Blk) (i : Int) : List Blk := upd1 L i Blk.back
def okS (L : List Blk) (i k : Int) : Bool := (getB L i).isSome && ((getB L k).isSome && decide (i ≠ k))
def swapL (L : List Blk) (i k : Int) : List Blk := match getB L i, getB L k with
  | some b, some c => if i = k then L else (L.set i.toNat (b.setCur c.cur)).set k.toNat (c.setCur b.cur)
  | _, _ => L
end Dsk

section
variable {w w' : World} {F F' : Nat → Prop} {D g : Nat} {ps : Nat → Nat} {L : List Blk} {S : Nat → Nat → Prop}
theorem DiskW.rowBoth (h : DiskW w F D g ps L) (hc : Chg S w w') {i : Nat} {b : Blk} (hb : L[i]? = some b) (c' p' : List UInt8)
    (hS : ¬ S g (i * 145 + 72)) (hS2 : b.dirty = true → ∀ o, o < 72 → ¬ S g (i * 145 + o))
    (l1 : c'.length = 72) (h1 : Here w' (curAt g ps i b).block (curAt g ps i b).off (c'.map V8)) (h2 : Here w' g (i * 145 + 73) (p'.map V8)) :
    Here w' g (i * 145) (cellsB (b.setBoth c' p') (ps i)) ∧ ((b.setBoth c' p').dirty = true → Here w' (ps i) 0 ((b.setBoth c' p').cur.map V8)) := by
  have hok := h.ok i b hb
  constructor
  · unfold cellsB
    rw [Blk.setBoth_dirty, Blk.setBoth_past, Blk.setBoth_dur]
    have e1 : ((if b.dirty = true then b.dur else c').map V8).length = 72 := by split <;> exact V8_length _ 72 (by first | exact hok.dur | exact l1)
    refine Here.append ?_ ?_
    · by_cases hd : b.dirty = true
      · rw [if_pos hd]
        refine (h.dur hb).chg hc fun j hj => hS2 hd j ?_
        rwa [V8_length _ 72 hok.dur] at hj
      · rw [if_neg hd]
        unfold curAt at h1
        rw [if_neg hd] at h1
        exact h1
    · rw [e1]
      have h3 : Here w' g (i * 145 + 72) [.pointer (if b.dirty then some ⟨ps i, 0, none⟩ else none)] := (h.ptr hb).chg hc fun j hj => by
        have : j = 0 := by simpa using hj
        rw [this, Nat.add_zero]; exact hS
      exact h3.append h2
  · intro hd
    rw [Blk.setBoth_dirty] at hd
    rw [Blk.setBoth_cur]
    unfold curAt at h1
    rw [if_pos hd] at h1
    exact h1

theorem DiskW.both (h : DiskW w F D g ps L) (hc : Chg S w w') {i : Nat} {b : Blk} (hb : L[i]? = some b) (c' p' : List UInt8)
    (hS : ∀ k o, S k o → (k = (curAt g ps i b).block ∧ (curAt g ps i b).off ≤ o ∧ o < (curAt g ps i b).off + 72) ∨ (k = g ∧ i * 145 + 73 ≤ o ∧ o < i * 145 + 145))
    (l1 : c'.length = 72) (l2 : p'.length = 72) (h1 : Here w' (curAt g ps i b).block (curAt g ps i b).off (c'.map V8)) (h2 : Here w' g (i * 145 + 73) (p'.map V8)) :
    After w F w' D (L.set i (b.setBoth c' p')) := by
  have hok := h.ok i b hb
  have hd1 : ∀ k o, S k o → (b.dirty = true ∧ k = ps i) ∨ (b.dirty = false ∧ k = g ∧ i * 145 ≤ o ∧ o < i * 145 + 72) ∨ (k = g ∧ i * 145 + 73 ≤ o ∧ o < i * 145 + 145) := fun k o hs => by
    rcases hS k o hs with ⟨e, h3, h4⟩ | h3
    · unfold curAt at e h3 h4
      by_cases hd : b.dirty = true
      · rw [if_pos hd] at e; exact .inl ⟨hd, e⟩
      · rw [if_neg hd] at e h3 h4
        exact .inr (.inl ⟨by simpa using hd, e, h3, h4⟩)
    · exact .inr (.inr h3)
  obtain ⟨r1, r2⟩ := h.rowBoth hc hb c' p' (fun hs => by
      rcases hd1 _ _ hs with ⟨hd, e⟩ | ⟨_, _, h3, h4⟩ | ⟨_, h3, h4⟩
      · exact (h.apart i b hb hd).2.1 e.symm
      · omega
      · omega) (fun hd o ho hs => by
      rcases hd1 _ _ hs with ⟨hd, e⟩ | ⟨hd', _⟩ | ⟨_, h3, h4⟩
      · exact (h.apart i b hb hd).2.1 e.symm
      · rw [hd] at hd'; cases hd'
      · omega) l1 h1 h2
  refine ⟨F, ⟨g, _, h.one hc i hb (ps i) (fun k o hs => ?_) (Blk.setBoth_ok hok l1 l2) r1 (fun hd => ⟨r2 hd, .inl ⟨rfl, by rw [Blk.setBoth_dirty] at hd; exact hd⟩⟩) (fun _ hk => hk) (fun k hk => Nat.lt_of_lt_of_le (h.lt k hk) hc.size)⟩, fun k hk => .inl hk, hc.mono fun k o _ hs => ?_⟩
  · rcases hd1 _ _ hs with ⟨hd, e⟩ | ⟨_, e, h3, h4⟩ | ⟨e, h3, h4⟩
    · exact .inr ⟨hd, e⟩
    · exact .inl ⟨e, by omega, by omega⟩
    · exact .inl ⟨e, by omega, by omega⟩
  · rcases hd1 _ _ hs with ⟨hd, e⟩ | ⟨_, e, _⟩ | ⟨e, _⟩
    · rw [e]; exact (h.apart i b hb hd).2.2
    · rw [e]; exact h.fg
    · rw [e]; exact h.fg
end

set_option maxRecDepth 100000 in
set_option maxHeartbeats 1000000 in
theorem DAlter_any {w : World} {F : Nat → Prop} {D : Nat} {L : List Blk} (h : DiskAt w F D L) (i j : Int) (x : UInt8) :
    Calls Try.prog 14 #[.pointer (some ⟨D, 0, none⟩), .int .i64 i, .int .i64 j, .int .u8 x.toNat] w fun e w' => e = .returned (.bool (okA L i j x)) ∧ After w F w' D (alterL L i j x) := by
  have HA0 := Lib.hid h.after
  obtain ⟨g, ps, hD⟩ := h
  have Hbad : okA L i j x = false → Hid (After w F w D (alterL L i j x)) := fun hk => by
    show After w F w D (alterL L i j x)
    rw [alterL, hk]; exact HA0.out
  cases hg : getB L i with
  | none =>
    have hok : okA L i j x = false := by rw [okA, hg]; rfl
    have HE := Hbad hok
    rw [hok]
    generalize alterL L i j x = L' at *
    have HAt := Lib.hid (Dat_out hD i (getB_none hg))
    clear hD hg hok HA0 Hbad
    go_enter Try.func14, Try.ntmps14
    go_wp2_with fail
    refine HAt.out.mono ?_
    rintro e w1 ⟨rfl, rfl⟩
    go_wp2
    go_ret
    exact ⟨rfl, HE.out⟩
  | some b =>
    obtain ⟨i, rfl, hb⟩ := getB_nat hg
    have hi := (List.getElem?_eq_some_iff.1 hb).1
    have HAt := Lib.hid (Dat_in hD i hi)
    have hx8 := lt8 x
    by_cases hj0 : j < 0
    · have hok : okA L i j x = false := by rw [okA, hg, decide_eq_false (p := 0 ≤ j) (by omega)]; rfl
      have HE := Hbad hok
      rw [hok]
      generalize alterL L i j x = L' at *
      clear hD hg hok HA0 Hbad hb hi
      go_enter Try.func14, Try.ntmps14
      go_wp2_with fail
      refine HAt.out.mono ?_
      rintro e w1 ⟨rfl, rfl⟩
      go_wp2
      go_ret
      exact ⟨rfl, HE.out⟩
    · by_cases hj1 : 72 ≤ j
      · have hok : okA L i j x = false := by rw [okA, hg, decide_eq_false (p := j < 72) (by omega)]; simp
        have HE := Hbad hok
        rw [hok]
        generalize alterL L i j x = L' at *
        clear hD hg hok HA0 Hbad hb hi
        go_enter Try.func14, Try.ntmps14
        go_wp2_with fail
        refine HAt.out.mono ?_
        rintro e w1 ⟨rfl, rfl⟩
        go_wp2
        go_ret
        exact ⟨rfl, HE.out⟩
      · obtain ⟨j, rfl⟩ : ∃ n : Nat, j = n := ⟨j.toNat, by omega⟩
        by_cases hx : x = 0
        · have hok : okA L i j x = false := by rw [okA, hg, decide_eq_false (p := x ≠ 0) (by simp [hx])]; simp
          have HE := Hbad hok
          rw [hok]
          have hx0 : (x.toNat : Int) = 0 := by rw [hx]; rfl
          generalize alterL L i j x = L' at *
          clear hD hg hok HA0 Hbad hb hi hx
          go_enter Try.func14, Try.ntmps14
          go_wp2_with fail
          refine HAt.out.mono ?_
          rintro e w1 ⟨rfl, rfl⟩
          go_wp2
          go_ret
          exact ⟨rfl, HE.out⟩
        · have hok : okA L i j x = true := by rw [okA, hg, decide_eq_true (p := (0 : Int) ≤ j) (by omega), decide_eq_true (p := (j : Int) < 72) (by omega), decide_eq_true hx]; rfl
          have Hw : Hid (alterL L i j x = L.set i (b.setBoth (b.cur.set j (b.cur.getD j 0 ^^^ x)) b.past)) := by
            show _ = _
            rw [alterL, hok, if_pos rfl, upd1_some hb, altB, Blk.setCur_both]; rfl
          rw [hok, Hw.out]
          have hok' := hD.ok i b hb
          have hpc := (hD.ptr hb).cell (j := 0) rfl
          rw [Nat.add_zero] at hpc
          have hCur := Dcur_any g (i * 145) b.dirty (ps i) w.drew hpc
          rw [show (if b.dirty = true then (⟨ps i, 0, none⟩ : Addr) else ⟨g, i * 145, none⟩) = ⟨(curAt g ps i b).block, (curAt g ps i b).off, none⟩ from by unfold curAt; split <;> rfl] at hCur
          have HCur := Lib.hid hCur
          have hj72 : (j : Int) < 72 := by omega
          have hc := hD.cur hb
          have hat : (b.cur.map V8)[j]? = some (.int .u8 (b.cur.getD j 0).toNat) := by
            rw [List.getElem?_map, List.getElem?_eq_getElem (by rw [hok'.cur]; omega), List.getD_eq_getElem?_getD, List.getElem?_eq_getElem (by rw [hok'.cur]; omega)]; rfl
          have hcell := hc.cell hat
          have hfree := hc.free (j := j) (by rw [cells_cur hok']; omega)
          have hxx : (x.toNat : Int) ≠ 0 := fun e => hx (UInt8.toNat_inj.1 (by rw [UInt8.toNat_zero]; omega))
          have hxb : ((x.toNat : Int) == 0) = false := by simpa using hxx
          have HF : Hid (∀ W, W = w.drew.setCell ⟨(curAt g ps i b).block, (curAt g ps i b).off + j, none⟩ (.int .u8 (b.cur.getD j 0 ^^^ x).toNat) → After w F W D (L.set i (b.setBoth (b.cur.set j (b.cur.getD j 0 ^^^ x)) b.past))) := by
            rintro W rfl
            have hx : Chg (fun k o => k = (curAt g ps i b).block ∧ (curAt g ps i b).off ≤ o ∧ o < (curAt g ps i b).off + 72) w (w.drew.setCell ⟨(curAt g ps i b).block, (curAt g ps i b).off + j, none⟩ (.int .u8 (b.cur.getD j 0 ^^^ x).toNat)) :=
              (Chg.refl _ w).drew.setCell rfl (fun _ => ⟨rfl, by simp, by simp; omega⟩) (by show (w.cell? _).isSome = true; rw [hcell]; rfl) _
            refine hD.both hx hb _ _ (fun k o hs => .inl hs) (by rw [List.length_set, hok'.cur]) hok'.past ?_ ?_
            · have h1 : Here w.drew (curAt g ps i b).block (curAt g ps i b).off (b.cur.map V8) := hc
              have := h1.put j (by rw [cells_cur hok']; omega) (V8 (b.cur.getD j 0 ^^^ x))
              rwa [← List.map_set] at this
            · refine (hD.past hb).chg hx fun k hk hs => ?_
              rw [V8_length _ 72 hok'.past] at hk
              obtain ⟨e, h1, h2⟩ := hs
              unfold curAt at e h1 h2
              by_cases hd : b.dirty = true
              · rw [if_pos hd] at e; exact (hD.apart i b hb hd).2.1 e.symm
              · rw [if_neg hd] at h1 h2; dsimp only at h1 h2; omega
          have HX : Hid (bits .xor .u8 ((b.cur.getD j 0).toNat : Int) x.toNat = ((b.cur.getD j 0 ^^^ x).toNat : Int)) := xor8 _ _
          generalize L.set i (b.setBoth (b.cur.set j (b.cur.getD j 0 ^^^ x)) b.past) = L' at *
          generalize (b.cur.getD j 0 ^^^ x).toNat = z at *
          have hy8 := lt8 (b.cur.getD j 0)
          generalize (b.cur.getD j 0).toNat = y at *
          generalize (curAt g ps i b).block = cb at *
          generalize (curAt g ps i b).off = co at *
          clear hD hg hok HA0 Hbad hb hi hx hok' Hw hpc hCur hc hat
          go_enter Try.func14, Try.ntmps14
          go_wp2_with fail
          refine HAt.out.mono ?_
          rintro e w1 ⟨rfl, rfl⟩
          go_wp2
          refine wp_region_still_tail 10 (by kernel_rfl) (by kernel_rfl) ?_
          simp only [List.take_succ_cons, List.take_zero, List.drop_succ_cons, List.drop_zero]
          repeat (first
            | still_step
            | (refine wpStill_step (fun K hK => ?_); go_simp; (with_reducible refine ⟨_, HCur.out, hK _ ?_⟩); clear hK K))
          refine wpStill_nil ?_
          change wpList _ _ _ _ _ w1.drew
          go_wp2
          go_ret
          refine ⟨rfl, ?_⟩
          have := HF.out _ rfl
          rw [← HX.out] at this
          exact this
end Go.Proofs.Ytkghppobefllkaa
