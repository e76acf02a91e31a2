/-
  THE WALKS of the reference's set, Write, Alter, Swap, Back.
-/
import Derived.Test.YtkghppobefllkaaDP
namespace Go.Proofs.Ytkghppobefllkaa
open Go.RowKit Dsk

theorem map_set_same {α β : Type} {l : List α} {i : Nat} {x : α} (h : l[i]? = some x) (f : α → β) (x' : α) (e : f x' = f x) : (l.set i x').map f = l.map f := by
  rw [List.map_set, e]
  apply List.ext_getElem?
  intro j
  rw [List.getElem?_set, List.length_map, List.getElem?_map]
  split
  · rename_i hij
    subst hij
    rw [h]
    have := (List.getElem?_eq_some_iff.1 h).1
    simp [this]
  · rfl

section
variable {w : World} {G : Nat → Prop} {M a b c ca cb cc : Nat} {L : List Blk}
theorem okSet {L : List Blk} {i : Nat} {x' : Blk} (h : ∀ (j : Nat) (y : Blk), L[j]? = some y → y.ok) (hok : x'.ok) : ∀ (j : Nat) (y : Blk), (L.set i x')[j]? = some y → y.ok := fun j y hy => by
  rw [List.getElem?_set] at hy
  split at hy
  · split at hy
    · injection hy with hy; rw [← hy]; exact hok
    · cases hy
  · exact h j y hy
theorem RefW.setA (h : RefW w G M a b c ca cb cc L) {i : Nat} {x : Blk} (hx : L[i]? = some x) (x' : Blk) (h1 : x'.wr = x.wr) (h2 : x'.past = x.past) (hok : x'.ok) : RefW (w.setCell ⟨a, i, none⟩ (.string (strB x'.dur))) G M a b c ca cb cc (L.set i x') := by
  have hi := (List.getElem?_eq_some_iff.1 hx).1
  refine ⟨by rw [List.length_set]; exact h.head.putOff h.Ma _, ?_, ?_, ?_, okSet h.ok hok, h.Ma, h.Mb, h.Mc, h.ab, h.ac, h.bc, h.gM, h.ga, h.gb, h.gc, fun k hk => by simpa [World.setCell] using h.lt k hk, by simp; exact h.few, by simp; exact h.pos⟩
  · have := h.dur.put i (by rw [List.length_map]; exact hi) (.string (strB x'.dur))
    rw [Nat.zero_add] at this
    rw [List.map_set]; exact this
  · rw [map_set_same hx _ x' (by show VS _ = VS _; rw [h1])]; exact h.fresh.putOff (fun e => h.ab e.symm) _
  · rw [map_set_same hx _ x' (by show VS _ = VS _; rw [h2])]; exact h.past.putOff (fun e => h.ac e.symm) _
theorem RefW.setB (h : RefW w G M a b c ca cb cc L) {i : Nat} {x : Blk} (hx : L[i]? = some x) (x' : Blk) (h1 : x'.dur = x.dur) (h2 : x'.past = x.past) (hok : x'.ok) : RefW (w.setCell ⟨b, i, none⟩ (.string (strB (x'.wr.getD [])))) G M a b c ca cb cc (L.set i x') := by
  have hi := (List.getElem?_eq_some_iff.1 hx).1
  refine ⟨by rw [List.length_set]; exact h.head.putOff h.Mb _, ?_, ?_, ?_, okSet h.ok hok, h.Ma, h.Mb, h.Mc, h.ab, h.ac, h.bc, h.gM, h.ga, h.gb, h.gc, fun k hk => by simpa [World.setCell] using h.lt k hk, by simp; exact h.few, by simp; exact h.pos⟩
  · rw [map_set_same hx _ x' (by show VS _ = VS _; rw [h1])]; exact h.dur.putOff (fun e => h.ab e) _
  · have := h.fresh.put i (by rw [List.length_map]; exact hi) (.string (strB (x'.wr.getD [])))
    rw [Nat.zero_add] at this
    rw [List.map_set]; exact this
  · rw [map_set_same hx _ x' (by show VS _ = VS _; rw [h2])]; exact h.past.putOff (fun e => h.bc e.symm) _
theorem RefW.setC (h : RefW w G M a b c ca cb cc L) {i : Nat} {x : Blk} (hx : L[i]? = some x) (x' : Blk) (h1 : x'.dur = x.dur) (h2 : x'.wr = x.wr) (hok : x'.ok) : RefW (w.setCell ⟨c, i, none⟩ (.string (strB x'.past))) G M a b c ca cb cc (L.set i x') := by
  have hi := (List.getElem?_eq_some_iff.1 hx).1
  refine ⟨by rw [List.length_set]; exact h.head.putOff h.Mc _, ?_, ?_, ?_, okSet h.ok hok, h.Ma, h.Mb, h.Mc, h.ab, h.ac, h.bc, h.gM, h.ga, h.gb, h.gc, fun k hk => by simpa [World.setCell] using h.lt k hk, by simp; exact h.few, by simp; exact h.pos⟩
  · rw [map_set_same hx _ x' (by show VS _ = VS _; rw [h1])]; exact h.dur.putOff (fun e => h.ac e) _
  · rw [map_set_same hx _ x' (by show VS _ = VS _; rw [h2])]; exact h.fresh.putOff (fun e => h.bc e) _
  · have := h.past.put i (by rw [List.length_map]; exact hi) (.string (strB x'.past))
    rw [Nat.zero_add] at this
    rw [List.map_set]; exact this
theorem RefW.chgA (h : RefW w G M a b c ca cb cc L) {i : Nat} (hi : i < L.length) (u : Value) : Chg (fun k _ => G k) w (w.setCell ⟨a, i, none⟩ u) :=
  (Chg.refl _ w).setCell rfl (fun _ => h.ga) (by rw [h.atA (List.getElem?_eq_getElem hi)]; rfl) u
theorem RefW.chgB (h : RefW w G M a b c ca cb cc L) {i : Nat} (hi : i < L.length) (u : Value) : Chg (fun k _ => G k) w (w.setCell ⟨b, i, none⟩ u) :=
  (Chg.refl _ w).setCell rfl (fun _ => h.gb) (by rw [h.atB (List.getElem?_eq_getElem hi)]; rfl) u
theorem RefW.chgC (h : RefW w G M a b c ca cb cc L) {i : Nat} (hi : i < L.length) (u : Value) : Chg (fun k _ => G k) w (w.setCell ⟨c, i, none⟩ u) :=
  (Chg.refl _ w).setCell rfl (fun _ => h.gc) (by rw [h.atC (List.getElem?_eq_getElem hi)]; rfl) u
end

set_option maxRecDepth 100000 in
set_option maxHeartbeats 400000 in
theorem RDset_any {w : World} {G : Nat → Prop} {M : Nat} {L : List Blk} (h : RefAt w G M L) (i : Nat) (x : Blk) (hx : L[i]? = some x) (s : List UInt8) (hs : s.length = 72) :
    Calls Try.prog 35 #[.pointer (some ⟨M, 0, none⟩), .int .i64 i, .string (strB s)] w fun e w' => e = .returned (.tuple #[]) ∧ RAfter w G w' M (L.set i (x.setCur s)) := by
  obtain ⟨a, b, c, ca, cb, cc, hR⟩ := h
  have hok := hR.ok i x hx
  have hin := (List.getElem?_eq_some_iff.1 hx).1
  have HE : Hid (RAfter w G (if x.wr.isSome then w.setCell ⟨b, i, none⟩ (.string (strB s)) else w.setCell ⟨a, i, none⟩ (.string (strB s))) M (L.set i (x.setCur s))) := by
    show RAfter _ _ _ _ _
    unfold Blk.setCur
    cases hw : x.wr with
    | none => exact ⟨⟨a, b, c, ca, cb, cc, hR.setA hx ⟨s, none, x.past⟩ hw.symm rfl ⟨hs, hok.past, fun c hc => by cases hc⟩⟩, hR.chgA hin _⟩
    | some q => exact ⟨⟨a, b, c, ca, cb, cc, hR.setB hx ⟨x.dur, some s, x.past⟩ rfl rfl ⟨hok.dur, hok.past, fun c hc => by injection hc with hc; rw [← hc]; exact hs⟩⟩, hR.chgB hin _⟩
  have c1 := hR.aLen
  have c2 := hR.bLen
  have c3 := hR.atA hx
  have c4 := hR.atB hx
  have f3 := hR.freeA hin
  have f4 := hR.freeB hin
  have hi : (i : Int) < (L.length : Int) := by omega
  have hf := hR.few
  cases hw : x.wr with
  | none =>
    rw [hw] at c4 HE
    have c5 : w.cell? ⟨b, i, none⟩ = some (.string ⟨#[]⟩) := c4
    simp only [Option.isSome_none, Bool.false_eq_true, if_false] at HE
    generalize L.set i (x.setCur s) = L' at *
    generalize strB s = s at *
    generalize L.length = n at *
    clear hR hok hw hx c4 hin
    go_enter Try.func35, Try.ntmps35
    go_wp2
    go_end0
    exact ⟨rfl, HE.out⟩
  | some q =>
    rw [hw] at c4 HE
    have c5 : w.cell? ⟨b, i, none⟩ = some (.string (strB q)) := c4
    have hne := strB_ne (hok.wr q hw)
    simp only [Option.isSome_some, if_true] at HE
    generalize L.set i (x.setCur s) = L' at *
    generalize strB s = s at *
    generalize strB q = q at *
    generalize L.length = n at *
    clear hR hok hw hx c4 hin
    go_enter Try.func35, Try.ntmps35
    go_wp2
    go_end0
    exact ⟨rfl, HE.out⟩

set_option maxRecDepth 100000 in
set_option maxHeartbeats 400000 in
theorem RDWrite_any {w : World} {G : Nat → Prop} {M : Nat} {L : List Blk} (h : RefAt w G M L) (i : Int) (bs : List UInt8) :
    Calls Try.prog 10 #[.pointer (some ⟨M, 0, none⟩), .int .i64 i, .string (strB bs)] w fun e w' => e = .returned (.bool (okW L i bs)) ∧ RAfter w G w' M (writeL L i bs) := by
  have HA0 := Lib.hid h.after
  have HHas := Lib.hid (RDHas_any h i)
  have hlen : (strB bs).size = bs.length := by unfold strB; simp [ByteArray.size]
  cases hg : getB L i with
  | none =>
    have hok : okW L i bs = false := by rw [okW, hg]; rfl
    have hw : writeL L i bs = L := by rw [writeL, hok]; rfl
    have hb : okB L i = false := by rw [okB, hg]; rfl
    rw [hok, hw]
    rw [hb] at HHas
    generalize strB bs = s at *
    clear h hg hok hw hb
    go_enter Try.func10, Try.ntmps10
    go_wp2_with fail
    refine HHas.out.mono ?_
    rintro e w1 ⟨rfl, rfl⟩
    go_wp2
    go_ret
    exact ⟨rfl, HA0.out⟩
  | some x =>
    have hb : okB L i = true := by rw [okB, hg]; rfl
    rw [hb] at HHas
    obtain ⟨i, rfl, hx⟩ := getB_nat hg
    by_cases h72 : bs.length = 72
    · have hok : okW L i bs = true := by rw [okW, hg, h72]; rfl
      have hw : writeL L i bs = L.set i (x.write bs) := by rw [writeL, hok, if_pos rfl, upd1_some hx]
      rw [hok, hw]
      have HRd := Lib.hid (RDRead_any h i x hx w.drew rfl)
      obtain ⟨a, b, c, ca, cb, cc, hR⟩ := h
      have hox := hR.ok i x hx
      have hin := (List.getElem?_eq_some_iff.1 hx).1
      have hi : (i : Int) < (L.length : Int) := by omega
      have hf := hR.few
      have c1 := hR.cLen
      have c2 := hR.atC hx
      have f2 := hR.freeC hin
      have hd : RefW w.drew G M a b c ca cb cc L := hR.stay ((Chg.refl (fun _ _ => False) w).drew) fun _ _ _ x => x
      have h3 := hd.setC hx ⟨x.dur, x.wr, x.cur⟩ rfl rfl ⟨hox.dur, hox.cur, hox.wr⟩
      have hx3 : (L.set i ⟨x.dur, x.wr, x.cur⟩)[i]? = some (⟨x.dur, x.wr, x.cur⟩ : Blk) := List.getElem?_set_self hin
      have hin3 : i < (L.set i ⟨x.dur, x.wr, x.cur⟩).length := by simpa using hin
      have h4 := h3.setB hx3 (x.write bs) rfl rfl (Blk.write_ok hox h72)
      rw [List.set_set] at h4
      have hC : Chg (fun k _ => G k) w (w.drew.setCell ⟨c, i, none⟩ (.string (strB x.cur))) := ((Chg.refl _ w).drew).then (hd.chgC hin _)
      have c3 : (w.setCell ⟨c, i, none⟩ (.string (strB x.cur))).cell? ⟨M, 1, none⟩ = some (.slice (some ⟨b, 0, none⟩) L.length cb) := by have := h3.bLen; rw [List.length_set] at this; exact this
      have c4 : (w.setCell ⟨c, i, none⟩ (.string (strB x.cur))).cell? ⟨b, i, none⟩ = some (.string (strB (x.wr.getD []))) := by have := h3.atB hx3; exact this
      have f4 : (w.setCell ⟨c, i, none⟩ (.string (strB x.cur))).frozen? ⟨b, i, none⟩ = false := h3.freeB hin3
      have HE : Hid (RAfter w G ((w.drew.setCell ⟨c, i, none⟩ (.string (strB x.cur))).setCell ⟨b, i, none⟩ (.string (strB bs))) M (L.set i (x.write bs))) := ⟨⟨a, b, c, ca, cb, cc, h4⟩, hC.then (h3.chgB hin3 _)⟩
      rw [h72] at hlen
      generalize L.set i (x.write bs) = L' at *
      generalize strB bs = s at *
      generalize strB x.cur = s2 at *
      generalize L.length = n at *
      clear hR hd h3 hx3 hin3 h4 hC hox hin hx hok hw hb hg h72 HA0
      go_enter Try.func10, Try.ntmps10
      go_wp2_with fail
      refine HHas.out.mono ?_
      rintro e w1 ⟨rfl, rfl⟩
      clear HHas
      go_wp2
      refine wp_region_still_tail 9 (by kernel_rfl) (by kernel_rfl) ?_
      simp only [List.take_succ_cons, List.take_zero, List.drop_succ_cons, List.drop_zero]
      repeat (first
        | still_step
        | (refine wpStill_step (fun K hK => ?_); go_simp; (with_reducible refine ⟨_, HRd.out, hK _ ?_⟩); clear hK K))
      refine wpStill_nil ?_
      change wpList _ _ _ _ _ w1.drew
      go_wp2
      go_ret
      exact ⟨rfl, HE.out⟩
    · have hok : okW L i bs = false := by rw [okW, decide_eq_false h72]; simp
      have hw : writeL L i bs = L := by rw [writeL, hok]; rfl
      rw [hok, hw]
      generalize bs.length = n at *
      generalize strB bs = s at *
      clear h hg hok hw hb hx
      go_enter Try.func10, Try.ntmps10
      go_wp2_with fail
      refine HHas.out.mono ?_
      rintro e w1 ⟨rfl, rfl⟩
      go_wp2
      go_ret
      exact ⟨rfl, HA0.out⟩
end Go.Proofs.Ytkghppobefllkaa
