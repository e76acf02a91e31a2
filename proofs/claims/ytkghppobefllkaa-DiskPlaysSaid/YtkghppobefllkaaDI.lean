/-
  THE WALKS of the program's Back, Swap.
-/
import Derived.Test.YtkghppobefllkaaDH
namespace Go.Proofs.Ytkghppobefllkaa
open Go.RowKit Dsk

theorem curAt_eta (g : Nat) (ps : Nat → Nat) (i : Nat) (b : Blk) : (if b.dirty = true then (⟨ps i, 0, none⟩ : Addr) else ⟨g, i * 145, none⟩) = ⟨(curAt g ps i b).block, (curAt g ps i b).off, none⟩ := by unfold curAt; split <;> rfl
section
variable {w : World} {F : Nat → Prop} {D g : Nat} {ps : Nat → Nat} {L : List Blk}
/-- current, of a block that there is. -/
theorem DiskW.current (h : DiskW w F D g ps L) {i : Nat} {b : Blk} (hb : L[i]? = some b)  (W : World) (hW : W.heap = w.heap) : Calls Try.prog 34 #[.pointer (some ⟨g, i * 145, none⟩)] W fun e w' => e = .returned (.pointer (some ⟨(curAt g ps i b).block, (curAt g ps i b).off, none⟩)) ∧ w' = W := by
  have hpc := (h.ptr hb).cell (j := 0) rfl
  rw [Nat.add_zero] at hpc
  have := Dcur_any g (i * 145) b.dirty (ps i) W (by rw [World.cell?_of_block (w := w) (by rw [hW])]; exact hpc)
  rwa [curAt_eta] at this
/-- The content that is read and the past lie apart. -/
theorem DiskW.curPast (h : DiskW w F D g ps L) {i : Nat} {b : Blk} (hb : L[i]? = some b) : (curAt g ps i b).block ≠ g ∨ (curAt g ps i b).off + 72 ≤ i * 145 + 73 ∨ i * 145 + 73 + 72 ≤ (curAt g ps i b).off := by
  unfold curAt
  by_cases hd : b.dirty = true
  · rw [if_pos hd]; exact .inl (h.apart i b hb hd).2.1
  · rw [if_neg hd]; exact .inr (.inl (by simp))
theorem DiskW.curCur (h : DiskW w F D g ps L) {i k : Nat} {b c : Blk} (hb : L[i]? = some b) (hc : L[k]? = some c) (hik : i ≠ k) :
    (curAt g ps i b).block ≠ (curAt g ps k c).block ∨ (curAt g ps i b).off + 72 ≤ (curAt g ps k c).off ∨ (curAt g ps k c).off + 72 ≤ (curAt g ps i b).off := by
  unfold curAt
  by_cases hd : b.dirty = true <;> by_cases hd' : c.dirty = true
  · rw [if_pos hd, if_pos hd']; exact .inl fun e => hik (h.inj i k b c hb hc hd hd' e)
  · rw [if_pos hd, if_neg hd']; exact .inl (h.apart i b hb hd).2.1
  · rw [if_neg hd, if_pos hd']; exact .inl fun e => (h.apart k c hc hd').2.1 e.symm
  · rw [if_neg hd, if_neg hd']
    exact .inr (by simp only; omega)
end

set_option maxRecDepth 100000 in
set_option maxHeartbeats 1000000 in
theorem DBack_any {w : World} {F : Nat → Prop} {D : Nat} {L : List Blk} (h : DiskAt w F D L) (i : Int) :
    Calls Try.prog 18 #[.pointer (some ⟨D, 0, none⟩), .int .i64 i] w fun e w' => e = .returned (.bool (okB L i)) ∧ After w F w' D (backL L i) := by
  have HA0 := Lib.hid h.after
  obtain ⟨g, ps, hD⟩ := h
  cases hg : getB L i with
  | none =>
    have hok : okB L i = false := by rw [okB, hg]; rfl
    have HE : Hid (After w F w D (backL L i)) := by show After _ _ _ _ _; rw [backL, upd1_none hg]; exact HA0.out
    rw [hok]
    generalize backL L i = L' at *
    have HAt := Lib.hid (Dat_out hD i (getB_none hg))
    clear hD hg hok HA0
    go_enter Try.func18, Try.ntmps18
    go_wp2_with fail
    refine HAt.out.mono ?_
    rintro e w1 ⟨rfl, rfl⟩
    go_wp2
    go_ret
    exact ⟨rfl, HE.out⟩
  | some b =>
    obtain ⟨i, rfl, hb⟩ := getB_nat hg
    have hi := (List.getElem?_eq_some_iff.1 hb).1
    have HAt := Lib.hid (Dat_in hD i hi)
    have hok : okB L i = true := by rw [okB, hg]; rfl
    have hL : backL L i = L.set i (b.setBoth b.past b.cur) := by rw [backL, upd1_some hb, Blk.back_both]
    rw [hok, hL]
    have hok' := hD.ok i b hb
    have HCur := Lib.hid (hD.current hb w.drew rfl)
    have hc : Here w.drew (curAt g ps i b).block (curAt g ps i b).off (b.cur.map V8) := hD.cur hb
    have hp : Here w.drew g (i * 145 + 73) (b.past.map V8) := hD.past hb
    have hEx := Dexch_any (curAt g ps i b).block (curAt g ps i b).off g (i * 145 + 73) (b.cur.map V8) (b.past.map V8) w.drew hc hp (cells_cur hok') (V8_length _ 72 hok'.past) (one8 _) (one8 _) (hD.curPast hb)
    have HEx : Hid (Calls Try.prog 36 #[.pointer (some ⟨(curAt g ps i b).block, (curAt g ps i b).off, none⟩), .pointer (some ⟨g, i * 145 + 73, none⟩)] w.drew fun e w' => e = .returned (.tuple #[]) ∧ After w F w' D (L.set i (b.setBoth b.past b.cur))) := by
      refine hEx.mono ?_
      rintro e w' ⟨rfl, h1, h2, h3⟩
      refine ⟨rfl, hD.both (S := fun k o => (k = (curAt g ps i b).block ∧ (curAt g ps i b).off ≤ o ∧ o < (curAt g ps i b).off + 72) ∨ (k = g ∧ i * 145 + 73 ≤ o ∧ o < i * 145 + 145)) ((Chg.refl _ w).drew.trans h3 fun k o _ hs => ?_) hb _ _ (fun k o hs => hs) hok'.past hok'.cur h1 h2⟩
      rcases hs with hs | ⟨e, h4, h5⟩
      · exact .inl hs
      · exact .inr ⟨e, h4, by omega⟩
    generalize L.set i (b.setBoth b.past b.cur) = L' at *
    generalize (curAt g ps i b).block = cb at *
    generalize (curAt g ps i b).off = co at *
    clear hD hg hok hL HA0 hb hi hok' hc hp hEx
    go_enter Try.func18, Try.ntmps18
    go_wp2_with fail
    refine HAt.out.mono ?_
    rintro e w1 ⟨rfl, rfl⟩
    go_wp2
    refine wp_region_still_tail 5 (by kernel_rfl) (by kernel_rfl) ?_
    simp only [List.take_succ_cons, List.take_zero, List.drop_succ_cons, List.drop_zero]
    repeat (first
      | still_step
      | (refine wpStill_step (fun K hK => ?_); go_simp; (with_reducible refine ⟨_, HCur.out, hK _ ?_⟩); clear hK K))
    refine wpStill_nil ?_
    change wpList _ _ _ _ _ w1.drew
    go_wp2_with fail
    refine HEx.out.mono ?_
    rintro e w2 ⟨rfl, h2⟩
    have H2 := Lib.hid h2
    clear h2 HEx HCur
    go_wp2
    go_ret
    exact ⟨rfl, H2.out⟩

set_option maxRecDepth 100000 in
set_option maxHeartbeats 1000000 in
theorem DSwap_any {w : World} {F : Nat → Prop} {D : Nat} {L : List Blk} (h : DiskAt w F D L) (i k : Int) :
    Calls Try.prog 16 #[.pointer (some ⟨D, 0, none⟩), .int .i64 i, .int .i64 k] w fun e w' => e = .returned (.bool (okS L i k)) ∧ After w F w' D (swapL L i k) := by
  have HA0 := Lib.hid h.after
  obtain ⟨g, ps, hD⟩ := h
  have hAt : ∀ j, Calls Try.prog 28 #[.pointer (some ⟨D, 0, none⟩), .int .i64 j] w fun e w' => e = .returned (.pointer (match getB L j with | some _ => some ⟨g, j.toNat * 145, none⟩ | none => none)) ∧ w' = w := fun j => by
    cases hj : getB L j with
    | none => exact Dat_out hD j (getB_none hj)
    | some b =>
      obtain ⟨j, rfl, hb⟩ := getB_nat hj
      exact Dat_in hD j (List.getElem?_eq_some_iff.1 hb).1
  have HI := Lib.hid (hAt i)
  have HK := Lib.hid (hAt k)
  clear hAt
  cases hg : getB L i with
  | none =>
    have hok : okS L i k = false := by rw [okS, hg]; rfl
    have HE : Hid (After w F w D (swapL L i k)) := by show After _ _ _ _ _; rw [swapL, hg]; exact HA0.out
    rw [hok]
    generalize swapL L i k = L' at *
    rw [hg] at HI
    clear hD hg hok HA0
    generalize (match getB L k with | some _ => some (⟨g, k.toNat * 145, none⟩ : Addr) | none => none) = pk at *
    go_enter Try.func16, Try.ntmps16
    go_wp2_with fail
    refine HI.out.mono ?_
    rintro e w1 ⟨rfl, rfl⟩
    go_wp2_with fail
    refine HK.out.mono ?_
    rintro e w1 ⟨rfl, rfl⟩
    go_wp2
    go_ret
    exact ⟨rfl, HE.out⟩
  | some b =>
    rw [hg] at HI
    cases hgk : getB L k with
    | none =>
      have hok : okS L i k = false := by rw [okS, hgk]; simp
      have HE : Hid (After w F w D (swapL L i k)) := by show After _ _ _ _ _; rw [swapL, hg, hgk]; exact HA0.out
      rw [hok]
      generalize swapL L i k = L' at *
      rw [hgk] at HK
      clear hD hg hok hgk HA0
      go_enter Try.func16, Try.ntmps16
      go_wp2_with fail
      refine HI.out.mono ?_
      rintro e w1 ⟨rfl, rfl⟩
      go_wp2_with fail
      refine HK.out.mono ?_
      rintro e w1 ⟨rfl, rfl⟩
      go_wp2
      go_ret
      exact ⟨rfl, HE.out⟩
    | some c =>
      rw [hgk] at HK
      by_cases hik : i = k
      · have hok : okS L i k = false := by rw [okS, decide_eq_false (p := i ≠ k) (by simp [hik])]; simp
        have HE : Hid (After w F w D (swapL L i k)) := by show After _ _ _ _ _; rw [swapL, hg, hgk]; simp only; rw [if_pos hik]; exact HA0.out
        rw [hok]
        generalize swapL L i k = L' at *
        clear hD hg hok hgk HA0 HK
        subst hik
        go_enter Try.func16, Try.ntmps16
        go_wp2_with fail
        refine HI.out.mono ?_
        rintro e w1 ⟨rfl, rfl⟩
        go_wp2_with fail
        refine HI.out.mono ?_
        rintro e w1 ⟨rfl, rfl⟩
        go_wp2
        go_ret
        exact ⟨rfl, HE.out⟩
      · have hok : okS L i k = true := by rw [okS, hg, hgk, decide_eq_true (p := i ≠ k) hik]; rfl
        have hsw : swapL L i k = (L.set i.toNat (b.setCur c.cur)).set k.toNat (c.setCur b.cur) := by rw [swapL, hg, hgk]; simp only; rw [if_neg hik]
        rw [hok, hsw]
        obtain ⟨i, rfl, hb⟩ := getB_nat hg
        obtain ⟨k, rfl, hc⟩ := getB_nat hgk
        have hik' : i ≠ k := fun e => hik (by rw [e])
        have hB : ((i : Int) == (k : Int)) = false := by rw [beq_eq_false_iff_ne]; omega
        simp only [Int.toNat_natCast] at HI HK ⊢
        have hi := (List.getElem?_eq_some_iff.1 hb).1
        have hk := (List.getElem?_eq_some_iff.1 hc).1
        have hob := hD.ok i b hb
        have hoc := hD.ok k c hc
        have HC1 := Lib.hid (hD.current hb w rfl)
        have HC2 := Lib.hid (hD.current hc w rfl)
        have hEx := Dexch_any (curAt g ps i b).block (curAt g ps i b).off (curAt g ps k c).block (curAt g ps k c).off (b.cur.map V8) (c.cur.map V8) w (hD.cur hb) (hD.cur hc) (cells_cur hob) (cells_cur hoc) (one8 _) (one8 _) (hD.curCur hb hc hik')
        have HEx : Hid (Calls Try.prog 36 #[.pointer (some ⟨(curAt g ps i b).block, (curAt g ps i b).off, none⟩), .pointer (some ⟨(curAt g ps k c).block, (curAt g ps k c).off, none⟩)] w fun e w' => e = .returned (.tuple #[]) ∧ After w F w' D ((L.set i (b.setCur c.cur)).set k (c.setCur b.cur))) := by
          refine hEx.mono ?_
          rintro e w' ⟨rfl, h1, h2, h3⟩
          refine ⟨rfl, ?_⟩
          have hS : ∀ (m : Nat) (d : Blk), L[m]? = some d → ∀ k' o, (k' = (curAt g ps m d).block ∧ (curAt g ps m d).off ≤ o ∧ o < (curAt g ps m d).off + 72) → (k' = g ∧ d.dirty = false ∧ m * 145 ≤ o ∧ o < m * 145 + 72) ∨ (d.dirty = true ∧ k' = ps m) := fun m d hm k' o hs => by
            unfold curAt at hs
            by_cases hd : d.dirty = true
            · rw [if_pos hd] at hs; exact .inr ⟨hd, hs.1⟩
            · rw [if_neg hd] at hs; exact .inl ⟨hs.1, by simpa using hd, hs.2.1, hs.2.2⟩
          have hNot : ∀ (m : Nat) (d : Blk), L[m]? = some d → ∀ o, (∀ (h1 : d.dirty = false), ¬ (m * 145 ≤ o ∧ o < m * 145 + 72)) → ¬ (g = (curAt g ps m d).block ∧ (curAt g ps m d).off ≤ o ∧ o < (curAt g ps m d).off + 72) := fun m d hm o hn hs => by
            rcases hS m d hm g o hs with ⟨_, hd, h4⟩ | ⟨hd, e⟩
            · exact hn hd h4
            · exact (hD.apart m d hm hd).2.1 e.symm
          have hpast : ∀ (m : Nat) (d : Blk), L[m]? = some d → Here w' g (m * 145 + 73) (d.past.map V8) := fun m d hm => (hD.past hm).chg h3 fun j hj hs => by
            rw [V8_length _ 72 (hD.ok m d hm).past] at hj
            rcases hs with hs | hs
            · exact hNot i b hb _ (fun _ h => by omega) hs
            · exact hNot k c hc _ (fun _ h => by omega) hs
          obtain ⟨r1, r2⟩ := hD.rowBoth h3 hb c.cur b.past (fun hs => by
              rcases hs with hs | hs
              · exact hNot i b hb _ (fun _ h => by omega) hs
              · exact hNot k c hc _ (fun _ h => by omega) hs) (fun hd o ho hs => by
              rcases hs with hs | hs
              · exact hNot i b hb _ (fun h => by rw [hd] at h; cases h) hs
              · exact hNot k c hc _ (fun _ h => by omega) hs) hoc.cur h1 (hpast i b hb)
          obtain ⟨s1, s2⟩ := hD.rowBoth h3 hc b.cur c.past (fun hs => by
              rcases hs with hs | hs
              · exact hNot i b hb _ (fun _ h => by omega) hs
              · exact hNot k c hc _ (fun _ h => by omega) hs) (fun hd o ho hs => by
              rcases hs with hs | hs
              · exact hNot i b hb _ (fun _ h => by omega) hs
              · exact hNot k c hc _ (fun h => by rw [hd] at h; cases h) hs) hob.cur h2 (hpast k c hc)
          refine ⟨F, ⟨g, ps, hD.update (L' := (L.set i (b.setCur c.cur)).set k (c.setCur b.cur)) h3 (fun m => m = i ∨ m = k) (fun k' o hs => ?_) (by simp) (fun m hm => ⟨?_, rfl⟩) (fun m d hm hd => ?_) (fun m n d d' hm hn hd hd' q1 q2 q4 e => ?_) (fun _ h => h) (fun k' h => Nat.lt_of_lt_of_le (hD.lt k' h) h3.size)⟩, fun k' h => .inl h, h3.mono fun k' o _ hs => ?_⟩
          · rcases hs with hs | hs
            · rcases hS i b hb k' o hs with ⟨e, _, h4, h5⟩ | ⟨hd, e⟩
              · exact .inl ⟨e, i, .inl rfl, h4, by omega⟩
              · exact .inr ⟨i, b, .inl rfl, hb, hd, e⟩
            · rcases hS k c hc k' o hs with ⟨e, _, h4, h5⟩ | ⟨hd, e⟩
              · exact .inl ⟨e, k, .inr rfl, h4, by omega⟩
              · exact .inr ⟨k, c, .inr rfl, hc, hd, e⟩
          · rw [List.getElem?_set_ne (fun e => hm (.inr e.symm)), List.getElem?_set_ne (fun e => hm (.inl e.symm))]
          · rcases hm with rfl | rfl
            · rw [List.getElem?_set_ne (fun e => hik' e.symm), List.getElem?_set_self hi] at hd
              injection hd with hd
              subst hd
              rw [Blk.setCur_both]
              exact ⟨Blk.setBoth_ok hob hoc.cur hob.past, r1, fun hd => ⟨r2 hd, .inl ⟨rfl, b, hb, by rw [Blk.setBoth_dirty] at hd; exact hd⟩⟩⟩
            · rw [List.getElem?_set_self (by simp; exact hk)] at hd
              injection hd with hd
              subst hd
              rw [Blk.setCur_both]
              exact ⟨Blk.setBoth_ok hoc hob.cur hoc.past, s1, fun hd => ⟨s2 hd, .inl ⟨rfl, c, hc, by rw [Blk.setBoth_dirty] at hd; exact hd⟩⟩⟩
          · have hlt : ps m < w.heap.size := by
              rcases hm with rfl | rfl
              · rw [List.getElem?_set_ne (fun e => hik' e.symm), List.getElem?_set_self hi] at hd
                injection hd with hd
                rw [← hd, Blk.setCur_both, Blk.setBoth_dirty] at q1
                exact hD.lt _ (hD.apart _ b hb q1).2.2
              · rw [List.getElem?_set_self (by simp; exact hk)] at hd
                injection hd with hd
                rw [← hd, Blk.setCur_both, Blk.setBoth_dirty] at q1
                exact hD.lt _ (hD.apart _ c hc q1).2.2
            omega
          · rcases hs with hs | hs
            · rcases hS i b hb k' o hs with ⟨e, _⟩ | ⟨hd, e⟩
              · rw [e]; exact hD.fg
              · rw [e]; exact (hD.apart i b hb hd).2.2
            · rcases hS k c hc k' o hs with ⟨e, _⟩ | ⟨hd, e⟩
              · rw [e]; exact hD.fg
              · rw [e]; exact (hD.apart k c hc hd).2.2
        generalize (L.set i (b.setCur c.cur)).set k (c.setCur b.cur) = L' at *
        generalize (curAt g ps i b).block = cb at *
        generalize (curAt g ps i b).off = co at *
        generalize (curAt g ps k c).block = db at *
        generalize (curAt g ps k c).off = do' at *
        clear hD hg hok hgk HA0 hsw hb hc hi hk hob hoc hEx hik
        go_enter Try.func16, Try.ntmps16
        go_wp2_with fail
        refine HI.out.mono ?_
        rintro e w1 ⟨rfl, rfl⟩
        go_wp2_with fail
        refine HK.out.mono ?_
        rintro e w1 ⟨rfl, rfl⟩
        go_wp2_with fail
        refine HC1.out.mono ?_
        rintro e w1 ⟨rfl, rfl⟩
        go_wp2_with fail
        refine HC2.out.mono ?_
        rintro e w1 ⟨rfl, rfl⟩
        go_wp2_with fail
        refine HEx.out.mono ?_
        rintro e w2 ⟨rfl, h2⟩
        have H2 := Lib.hid h2
        clear h2 HEx
        go_wp2
        go_ret
        exact ⟨rfl, H2.out⟩
end Go.Proofs.Ytkghppobefllkaa
