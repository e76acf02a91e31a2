/-
  THE WALKS of the reference's Has, Read, set.
-/
import Derived.Test.YtkghppobefllkaaDO
namespace Go.Proofs.Ytkghppobefllkaa
open Go.RowKit Dsk

/-- Behind a call of the reference's disk. -/
def RAfter (w : World) (G : Nat → Prop) (w' : World) (M : Nat) (L : List Blk) : Prop := RefAt w' G M L ∧ Chg (fun k _ => G k) w w'
theorem RefAt.after {w : World} {G : Nat → Prop} {M : Nat} {L : List Blk} (h : RefAt w G M L) : RAfter w G w M L := ⟨h, Chg.refl _ _⟩
theorem RAfter.trans {a w w' : World} {G : Nat → Prop} {M : Nat} {L : List Blk} (hc : Chg (fun k _ => G k) a w) (h : RAfter w G w' M L) : RAfter a G w' M L := ⟨h.1, hc.then h.2⟩

section
variable {w : World} {G : Nat → Prop} {M a b c ca cb cc : Nat} {L : List Blk}
theorem RefW.aLen (h : RefW w G M a b c ca cb cc L) : w.cell? ⟨M, 0, none⟩ = some (.slice (some ⟨a, 0, none⟩) L.length ca) := h.head.head (j := 0) rfl
theorem RefW.bLen (h : RefW w G M a b c ca cb cc L) : w.cell? ⟨M, 1, none⟩ = some (.slice (some ⟨b, 0, none⟩) L.length cb) := h.head.head (j := 1) rfl
theorem RefW.cLen (h : RefW w G M a b c ca cb cc L) : w.cell? ⟨M, 2, none⟩ = some (.slice (some ⟨c, 0, none⟩) L.length cc) := h.head.head (j := 2) rfl
theorem RefW.atA (h : RefW w G M a b c ca cb cc L) {i : Nat} {x : Blk} (hx : L[i]? = some x) : w.cell? ⟨a, i, none⟩ = some (.string (strB x.dur)) := h.dur.head (by rw [List.getElem?_map, hx]; rfl)
theorem RefW.atB (h : RefW w G M a b c ca cb cc L) {i : Nat} {x : Blk} (hx : L[i]? = some x) : w.cell? ⟨b, i, none⟩ = some (.string (strB (x.wr.getD []))) := h.fresh.head (by rw [List.getElem?_map, hx]; rfl)
theorem RefW.atC (h : RefW w G M a b c ca cb cc L) {i : Nat} {x : Blk} (hx : L[i]? = some x) : w.cell? ⟨c, i, none⟩ = some (.string (strB x.past)) := h.past.head (by rw [List.getElem?_map, hx]; rfl)
theorem RefW.freeA (h : RefW w G M a b c ca cb cc L) {i : Nat} (hi : i < L.length) : w.frozen? ⟨a, i, none⟩ = false := h.dur.headFree (by rw [List.length_map]; exact hi)
theorem RefW.freeB (h : RefW w G M a b c ca cb cc L) {i : Nat} (hi : i < L.length) : w.frozen? ⟨b, i, none⟩ = false := h.fresh.headFree (by rw [List.length_map]; exact hi)
theorem RefW.freeC (h : RefW w G M a b c ca cb cc L) {i : Nat} (hi : i < L.length) : w.frozen? ⟨c, i, none⟩ = false := h.past.headFree (by rw [List.length_map]; exact hi)
end
theorem strB_nil : strB [] = ⟨#[]⟩ := rfl
theorem strB_ne {l : List UInt8} (h : l.length = 72) : (strB l).toList.isEmpty = false := by
  rw [← decide_eq_emptyBytes, decide_eq_false_iff_not]
  intro e
  have e' : strB l = strB [] := e
  rw [strB_inj] at e'
  rw [e'] at h; simp at h

set_option maxRecDepth 100000 in
set_option maxHeartbeats 400000 in
theorem RDHas_any {w : World} {G : Nat → Prop} {M : Nat} {L : List Blk} (h : RefAt w G M L) (i : Int) :
    Calls Try.prog 21 #[.pointer (some ⟨M, 0, none⟩), .int .i64 i] w fun e w' => e = .returned (.bool (okB L i)) ∧ w' = w := by
  obtain ⟨a, b, c, ca, cb, cc, hR⟩ := h
  have hc := hR.aLen
  have hf := hR.few
  have hok : okB L i = (decide (0 ≤ i) && decide (i < (L.length : Int))) := by
    rw [okB]
    cases hg : getB L i with
    | none =>
      rcases getB_none hg with h | h
      · rw [decide_eq_false (p := 0 ≤ i) (by omega)]; rfl
      · rw [decide_eq_false (p := i < (L.length : Int)) (by omega)]; simp
    | some x =>
      obtain ⟨n, rfl, hn⟩ := getB_nat hg
      have := (List.getElem?_eq_some_iff.1 hn).1
      rw [decide_eq_true (p := (0 : Int) ≤ n) (by omega), decide_eq_true (p := (n : Int) < (L.length : Int)) (by omega)]; rfl
  rw [hok]
  generalize L.length = n at *
  clear hR hok
  go_enter Try.func21, Try.ntmps21
  by_cases h0 : 0 ≤ i
  · go_wp2
    go_ret
    refine ⟨?_, rfl⟩
    simp [h0]
  · have h1 : i < 0 := by omega
    go_wp2
    go_ret
    refine ⟨?_, rfl⟩
    simp [show ¬ 0 ≤ i by omega]

set_option maxRecDepth 100000 in
set_option maxHeartbeats 400000 in
theorem RDRead_any {w : World} {G : Nat → Prop} {M : Nat} {L : List Blk} (h : RefAt w G M L) (i : Nat) (x : Blk) (hx : L[i]? = some x) (W : World) (hW : W.heap = w.heap) :
    Calls Try.prog 22 #[.pointer (some ⟨M, 0, none⟩), .int .i64 i] W fun e w' => e = .returned (.string (strB x.cur)) ∧ w' = W := by
  have h' : RefAt W G M L := by
    obtain ⟨a, b, c, ca, cb, cc, hR⟩ := h
    have hcl : ∀ p, W.cell? p = w.cell? p := fun p => by unfold World.cell?; rw [hW]
    have hfr : ∀ p, W.frozen? p = w.frozen? p := fun p => by unfold World.frozen?; rw [hW]
    have hh : ∀ {b o cs}, Here w b o cs → Here W b o cs := fun hh => ⟨fun j v hv => by rw [hcl]; exact hh.1 j v hv, fun j hj => by rw [hcl, hfr]; exact hh.2 j hj⟩
    exact ⟨a, b, c, ca, cb, cc, hh hR.head, hh hR.dur, hh hR.fresh, hh hR.past, hR.ok, hR.Ma, hR.Mb, hR.Mc, hR.ab, hR.ac, hR.bc, hR.gM, hR.ga, hR.gb, hR.gc, fun k hk => by rw [hW]; exact hR.lt k hk, hR.few, hR.pos⟩
  clear h hW
  obtain ⟨a, b, c, ca, cb, cc, hR⟩ := h'
  have c1 := hR.aLen
  have c2 := hR.bLen
  have c3 := hR.atA hx
  have c4 := hR.atB hx
  have hi : (i : Int) < (L.length : Int) := by have := (List.getElem?_eq_some_iff.1 hx).1; omega
  have hf := hR.few
  have hok := hR.ok i x hx
  cases hw : x.wr with
  | none =>
    have hcur : x.cur = x.dur := by rw [Blk.cur, hw]; rfl
    rw [hcur]
    rw [hw] at c4
    have c5 : W.cell? ⟨b, i, none⟩ = some (.string ⟨#[]⟩) := c4
    generalize strB x.dur = s at *
    generalize L.length = n at *
    clear hR hok hw hcur hx c4
    go_enter Try.func22, Try.ntmps22
    go_wp2
    go_ret
    exact ⟨rfl, rfl⟩
  | some q =>
    have hcur : x.cur = q := by rw [Blk.cur, hw]; rfl
    rw [hcur]
    rw [hw] at c4
    have c5 : W.cell? ⟨b, i, none⟩ = some (.string (strB q)) := c4
    have hne := strB_ne (hok.wr q hw)
    generalize strB q = s at *
    generalize L.length = n at *
    clear hR hok hw hcur hx c4
    go_enter Try.func22, Try.ntmps22
    go_wp2
    go_ret
    exact ⟨rfl, rfl⟩
end Go.Proofs.Ytkghppobefllkaa
