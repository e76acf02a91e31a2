/-
  THE WALKS of the reference's Alter, Swap, Back.
-/
import Derived.Test.YtkghppobefllkaaDQ
import Derived.Laws.IdiomStrings
namespace Go.Proofs.Ytkghppobefllkaa
open Go.RowKit Dsk

/-- A string as bytes. -/
theorem conv_new (l : List UInt8) (w : World) : ∃ cap W, (convert 9 30 (.string (strB l))).run Try.prog w = .ok (.slice (some ⟨w.heap.size, 0, none⟩) l.length cap) W ∧ Here W w.heap.size 0 (l.map V8) ∧ Below w.heap.size w W ∧ l.length ≤ cap := by
  have h := run_bytes_of_string (P := Try.prog) w 9 30 5 (strB l) Try.underlying9 Try.underlying30 Try.underlying5
  have hs : (strB l).size = l.length := by unfold strB; simp [ByteArray.size]
  rw [hs] at h
  refine ⟨_, _, h, ?_, ?_, grownCap_ge w l.length 0 5⟩
  · have hb : (w.drew.alloc (.cells (bytesRow (strB l) (grownCap w l.length 0 5)) 5 ((bytesRow (strB l) (grownCap w l.length 0 5)).size, (bytesRow (strB l) (grownCap w l.length 0 5)).size + 1))).heap[w.heap.size]? = some (.cells (bytesRow (strB l) (grownCap w l.length 0 5)) 5 ((bytesRow (strB l) (grownCap w l.length 0 5)).size, (bytesRow (strB l) (grownCap w l.length 0 5)).size + 1)) := heap_alloc_new w.drew _
    have hrow : ∀ j v, (l.map V8)[j]? = some v → (bytesRow (strB l) (grownCap w l.length 0 5))[j]? = some v := fun j v hv => by
      have hj := (List.getElem?_eq_some_iff.1 hv).1
      rw [List.length_map] at hj
      unfold bytesRow
      rw [Array.getElem?_append_left (by simp [strB]; exact hj)]
      rw [Array.getElem?_map]
      rw [List.getElem?_map] at hv
      simp only [strB, List.getElem?_toArray]
      cases hl : l[j]? with
      | none => rw [hl] at hv; cases hv
      | some b => rw [hl] at hv; exact hv
    have hsz : ∀ j, j < (l.map V8).length → j < (bytesRow (strB l) (grownCap w l.length 0 5)).size := fun j hj => by
      have := hrow j _ (List.getElem?_eq_getElem hj)
      exact (Array.getElem?_eq_some_iff.1 this).1
    refine ⟨fun j v hv => ?_, fun j hj => ⟨?_, ?_⟩⟩
    · rw [Nat.zero_add, cell_of_row _ _ _ _ _ _ hb]; exact hrow j v hv
    · rw [Nat.zero_add, cell_of_row _ _ _ _ _ _ hb, hrow j _ (List.getElem?_eq_getElem hj)]; rfl
    · rw [Nat.zero_add]
      unfold World.frozen?
      rw [hb]
      have := hsz j hj
      simp only [Bool.and_eq_false_imp, decide_eq_true_eq, decide_eq_false_iff_not]
      omega
  · have h0 : Below w.heap.size w w.drew := below_drewN (Below.refl _ _) 1
    exact h0.alloc (Nat.le_refl _) _

theorem Here.sees {w : World} {b o : Nat} {cs : List Value} (h : Here w b o cs) : Sees w b o cs := h.1
theorem RefW.len_ok {w : World} {G : Nat → Prop} {M : Nat} {L : List Blk} (h : RefAt w G M L) {i : Nat} {x : Blk} (hx : L[i]? = some x) : x.ok := by
  obtain ⟨a, b, c, ca, cb, cc, hR⟩ := h
  exact hR.ok i x hx

set_option maxRecDepth 100000 in
set_option maxHeartbeats 1000000 in
theorem RDAlter_any {w : World} {G : Nat → Prop} {M : Nat} {L : List Blk} (h : RefAt w G M L) (i j : Int) (x : UInt8) :
    Calls Try.prog 15 #[.pointer (some ⟨M, 0, none⟩), .int .i64 i, .int .i64 j, .int .u8 x.toNat] w fun e w' => e = .returned (.bool (okA L i j x)) ∧ RAfter w G w' M (alterL L i j x) := by
  have HA0 := Lib.hid h.after
  have HHas := Lib.hid (RDHas_any h i)
  have Hbad : okA L i j x = false → Hid (RAfter w G w M (alterL L i j x)) := fun hk => by
    show RAfter w G w M (alterL L i j x)
    rw [alterL, hk]; exact HA0.out
  have hx8 := lt8 x
  cases hg : getB L i with
  | none =>
    have hok : okA L i j x = false := by rw [okA, hg]; rfl
    have HE := Hbad hok
    have hb : okB L i = false := by rw [okB, hg]; rfl
    rw [hok]
    rw [hb] at HHas
    generalize alterL L i j x = L' at *
    clear h hg hok hb HA0 Hbad
    go_enter Try.func15, Try.ntmps15
    go_wp2_with fail
    refine HHas.out.mono ?_
    rintro e w1 ⟨rfl, rfl⟩
    go_wp2
    go_ret
    exact ⟨rfl, HE.out⟩
  | some b =>
    have hb : okB L i = true := by rw [okB, hg]; rfl
    rw [hb] at HHas
    obtain ⟨i, rfl, hbi⟩ := getB_nat hg
    by_cases hj0 : j < 0
    · have hok : okA L i j x = false := by rw [okA, hg, decide_eq_false (p := 0 ≤ j) (by omega)]; rfl
      have HE := Hbad hok
      rw [hok]
      generalize alterL L i j x = L' at *
      clear h hg hok hb HA0 Hbad hbi
      go_enter Try.func15, Try.ntmps15
      go_wp2_with fail
      refine HHas.out.mono ?_
      rintro e w1 ⟨rfl, rfl⟩
      go_wp2
      go_ret
      exact ⟨rfl, HE.out⟩
    · by_cases hj1 : 72 ≤ j
      · have hok : okA L i j x = false := by rw [okA, hg, decide_eq_false (p := j < 72) (by omega)]; simp
        have HE := Hbad hok
        rw [hok]
        generalize alterL L i j x = L' at *
        clear h hg hok hb HA0 Hbad hbi
        go_enter Try.func15, Try.ntmps15
        go_wp2_with fail
        refine HHas.out.mono ?_
        rintro e w1 ⟨rfl, rfl⟩
        go_wp2
        go_ret
        exact ⟨rfl, HE.out⟩
      · obtain ⟨j, rfl⟩ : ∃ n : Nat, j = n := ⟨j.toNat, by omega⟩
        by_cases hx : x = 0
        · have hok : okA L i j x = false := by rw [okA, hg, decide_eq_false (p := x ≠ 0) (by simp [hx])]; simp
          have HE := Hbad hok
          rw [hok]
          have hx0 : (x.toNat : Int) = 0 := by rw [hx]; rfl
          generalize alterL L i j x = L' at *
          clear h hg hok hb HA0 Hbad hbi hx
          go_enter Try.func15, Try.ntmps15
          go_wp2_with fail
          refine HHas.out.mono ?_
          rintro e w1 ⟨rfl, rfl⟩
          go_wp2
          go_ret
          exact ⟨rfl, HE.out⟩
        · have hok : okA L i j x = true := by rw [okA, hg, decide_eq_true (p := (0 : Int) ≤ j) (by omega), decide_eq_true (p := (j : Int) < 72) (by omega), decide_eq_true hx]; rfl
          have hw : alterL L i j x = L.set i (b.setCur (b.cur.set j (b.cur.getD j 0 ^^^ x))) := by
            rw [alterL, hok, if_pos rfl, upd1_some hbi, altB]; rfl
          rw [hok, hw]
          have hok' := RefW.len_ok h hbi
          have hxx : (x.toNat : Int) ≠ 0 := fun e => hx (UInt8.toNat_inj.1 (by rw [UInt8.toNat_zero]; omega))
          have hxb : ((x.toNat : Int) == 0) = false := by simpa using hxx
          have HRd := Lib.hid (RDRead_any h i b hbi w rfl)
          obtain ⟨cap, W, hcv, hHere, hBel, _⟩ := conv_new b.cur w
          rw [hok'.cur] at hcv
          have hjn : j < 72 := by omega
          have hat : (b.cur.map V8)[j]? = some (.int .u8 (b.cur.getD j 0).toNat) := by
            rw [List.getElem?_map, List.getElem?_eq_getElem (by rw [hok'.cur]; omega), List.getD_eq_getElem?_getD, List.getElem?_eq_getElem (by rw [hok'.cur]; omega)]; rfl
          have hcell := hHere.head hat
          have hfree := hHere.headFree (j := j) (by rw [cells_cur hok']; omega)
          have HX : Hid (bits .xor .u8 ((b.cur.getD j 0).toNat : Int) x.toNat = ((b.cur.getD j 0 ^^^ x).toNat : Int)) := xor8 _ _
          have hput := hHere.put j (by rw [cells_cur hok']; omega) (V8 (b.cur.getD j 0 ^^^ x))
          rw [Nat.zero_add, ← List.map_set] at hput
          have hq : w.heap.size < (W.setCell ⟨w.heap.size, j, none⟩ (V8 (b.cur.getD j 0 ^^^ x))).heap.size := hput.lt (by rw [List.length_map, List.length_set, hok'.cur]; omega)
          have hl2 : (b.cur.set j (b.cur.getD j 0 ^^^ x)).length = 72 := by rw [List.length_set, hok'.cur]
          have hBel2 : Below w.heap.size w (W.setCell ⟨w.heap.size, j, none⟩ (V8 (b.cur.getD j 0 ^^^ x))) := hBel.setCell (Nat.le_refl _) _
          have Hcv2 : Hid ((convert 30 9 (.slice (some ⟨w.heap.size, 0, none⟩) 72 cap)).run Try.prog (W.setCell ⟨w.heap.size, j, none⟩ (V8 (b.cur.getD j 0 ^^^ x))) = .ok (.string (strB (b.cur.set j (b.cur.getD j 0 ^^^ x)))) (W.setCell ⟨w.heap.size, j, none⟩ (V8 (b.cur.getD j 0 ^^^ x)))) := by
            have : ∃ cap', Arg (W.setCell ⟨w.heap.size, j, none⟩ (V8 (b.cur.getD j 0 ^^^ x))) (.slice (some ⟨w.heap.size, 0, none⟩) 72 cap') (b.cur.set j (b.cur.getD j 0 ^^^ x)) := ⟨72, .inr ⟨w.heap.size, 0, 72, by rw [hl2], hq, by omega, hput.sees⟩⟩
            show _ = _
            have hx := run_convert_bytes_back (P := Try.prog) (W.setCell ⟨w.heap.size, j, none⟩ (V8 (b.cur.getD j 0 ^^^ x))) 30 9 5 ⟨w.heap.size, 0, none⟩ cap (b.cur.set j (b.cur.getD j 0 ^^^ x)) Try.underlying30 Try.underlying5 Try.underlying9 (fun m hm => by
              rw [add_off]
              refine hput.cell (j := m) ?_
              rw [List.getElem?_map, List.getElem?_eq_getElem hm]; rfl)
            rw [hl2] at hx
            exact hx
          have hR2 := h.below hBel2
          have HSet : Hid (Calls Try.prog 35 #[.pointer (some ⟨M, 0, none⟩), .int .i64 i, .string (strB (b.cur.set j (b.cur.getD j 0 ^^^ x)))] (W.setCell ⟨w.heap.size, j, none⟩ (V8 (b.cur.getD j 0 ^^^ x))) fun e w' => e = .returned (.tuple #[]) ∧ RAfter w G w' M (L.set i (b.setCur (b.cur.set j (b.cur.getD j 0 ^^^ x))))) := by
            refine (RDset_any hR2 i b hbi _ hl2).mono ?_
            rintro e w' ⟨rfl, h1⟩
            exact ⟨rfl, h1.trans (Chg.below hBel2 _)⟩
          unfold V8 at HSet Hcv2
          generalize L.set i (b.setCur (b.cur.set j (b.cur.getD j 0 ^^^ x))) = L' at *
          generalize strB (b.cur.set j (b.cur.getD j 0 ^^^ x)) = s2 at *
          generalize strB b.cur = s1 at *
          rw [← HX.out] at HSet Hcv2
          generalize (b.cur.getD j 0).toNat = y at *
          clear HX hput hq hl2 hBel2 hBel hR2 hHere hat hok' hok hw hg hb hbi HA0 Hbad h hx hxx
          go_enter Try.func15, Try.ntmps15
          go_wp2_with fail
          refine HHas.out.mono ?_
          rintro e w1 ⟨rfl, rfl⟩
          clear HHas
          go_wp2_with fail
          refine HRd.out.mono ?_
          rintro e w1 ⟨rfl, rfl⟩
          clear HRd
          have hcv2 := Hcv2.out
          go_wp2_with fail
          refine HSet.out.mono ?_
          rintro e w2 ⟨rfl, h2⟩
          have H2 := Lib.hid h2
          clear h2 HSet Hcv2 hcv2 hcv
          go_wp2
          go_ret
          exact ⟨rfl, H2.out⟩
end Go.Proofs.Ytkghppobefllkaa
