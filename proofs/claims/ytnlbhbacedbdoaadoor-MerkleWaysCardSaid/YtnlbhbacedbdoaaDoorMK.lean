/-
  THE WALK of the laws' same: are two rows of fours alike?
-/
import Derived.Test.YtnlbhbacedbdoaaDoorMJ
namespace Go.Proofs.YtnlbhbacedbdoaaDoor
open Go.RowKit Mk

/-- Where a row of fours lies, if there is one. -/
theorem RowsAt.four {w : World} {A : Option Addr} {n cap : Nat} {ws : List (List Tg)} (h : RowsAt w (.slice A n cap) ws) (h4 : ∀ f ∈ ws, f.length = 4) (hp : 0 < n) : ∃ g, A = some ⟨g, 0, none⟩ ∧ g < w.heap.size ∧ ∀ j f, ws[j]? = some f → ∃ b o c, w.cell? ⟨g, j, none⟩ = some (.slice (some ⟨b, o, none⟩) 4 c) ∧ b < w.heap.size ∧ Sees w b o (f.map VS) := by
  rcases h with ⟨e, A', c', e2⟩ | ⟨g, cap', e, hg, hr⟩
  · injection e2 with _ e2 _; omega
  · injection e with e1 _ _
    refine ⟨g, e1, hg, fun j f hf => ?_⟩
    obtain ⟨b, o, c, hc, _, hb, hse⟩ := hr j f hf
    rw [h4 f (List.mem_of_getElem? hf)] at hc
    exact ⟨b, o, c, hc, hb, hse⟩
theorem cell_str {w : World} {b o : Nat} {f : List Tg} (h : Sees w b o (f.map VS)) (q : Nat) (hq : q < f.length) : w.cell? ⟨b, o + q, none⟩ = some (.string (strB (f.getD q []))) :=
  h q (VS (f.getD q [])) (by rw [List.getElem?_map, List.getElem?_eq_getElem hq, List.getD_eq_getElem?_getD, List.getElem?_eq_getElem hq]; rfl)

set_option maxRecDepth 100000 in
set_option maxHeartbeats 2000000 in
theorem Msame_any (xs ys : List (List Tg)) (h4 : ∀ f ∈ xs, f.length = 4) (h5 : ∀ f ∈ ys, f.length = 4) (hl : xs.length ≤ 1000) (hl2 : ys.length ≤ 1000) (x y : Value) (w : World) (hx : RowsAt w x xs) (hy : RowsAt w y ys) :
    Calls Tryd.prog 14 #[x, y] w fun e w' => e = .returned (.bool (decide (xs = ys))) ∧ Below w.heap.size w w' := by
  obtain ⟨A, cap, rfl⟩ := hx.form
  obtain ⟨A2, cap2, rfl⟩ := hy.form
  obtain ⟨n, hnl⟩ : ∃ n, n = xs.length := ⟨_, rfl⟩
  obtain ⟨n2, hnl2⟩ : ∃ n, n = ys.length := ⟨_, rfl⟩
  rw [← hnl] at hl hx ⊢
  rw [← hnl2] at hl2 hy ⊢
  have HNl := Lib.hid hnl
  have HN2 := Lib.hid hnl2
  have HX := Lib.hid hx
  have HY := Lib.hid hy
  have H4 := Lib.hid h4
  have H5 := Lib.hid h5
  clear hnl hnl2 hx hy h4 h5
  rcases Classical.em (n = n2) with hnn | hnn
  · subst hnn
    go_enter Tryd.func14, Tryd.ntmps14
    go_wp2
    go_loopw [5] (fun i wr => ∃ k : Nat, k ≤ n ∧ i = .int .i64 k ∧ Hid (xs.take k = ys.take k) ∧ Hid (Below w.heap.size w wr)) (fun i _ => n - (intOf i).toNat)
    case atStart => exact ⟨0, by omega, rfl, by show _ = _; simp, Below.refl _ _⟩
    case round =>
      obtain ⟨k, hk, rfl, HT, HB⟩ := hrel
      generalize wr = wq at *
      have hsq := HB.out.size
      by_cases hlt : k < n
      · obtain ⟨g, rfl, hg, hr⟩ := HX.out.four H4.out (by omega)
        obtain ⟨g2, rfl, hg2, hr2⟩ := HY.out.four H5.out (by omega)
        obtain ⟨f, hf⟩ : ∃ f, xs[k]? = some f := ⟨_, List.getElem?_eq_getElem (by rw [← HNl.out]; exact hlt)⟩
        obtain ⟨f2, hf2⟩ : ∃ f, ys[k]? = some f := ⟨_, List.getElem?_eq_getElem (by rw [← HN2.out]; exact hlt)⟩
        obtain ⟨b, o, c, hc, hb, hse⟩ := hr k f hf
        obtain ⟨b2, o2, c2, hc2, hb2, hse2⟩ := hr2 k f2 hf2
        have HF := Lib.hid hf
        have HF2 := Lib.hid hf2
        have Hl4 := Lib.hid (H4.out f (List.mem_of_getElem? hf))
        have Hl5 := Lib.hid (H5.out f2 (List.mem_of_getElem? hf2))
        have HSe := Lib.hid hse
        have HSe2 := Lib.hid hse2
        have HCc := Lib.hid hc
        have HCc2 := Lib.hid hc2
        clear hf hf2 hse hse2 hc hc2 hr hr2
        go_wp2
        go_loopw [6] (fun i wr => ∃ q : Nat, q ≤ 4 ∧ i = .int .i64 q ∧ Hid (f.take q = f2.take q) ∧ Hid (Below w.heap.size w wr)) (fun i _ => 4 - (intOf i).toNat)
        case atStart => exact ⟨0, by omega, rfl, by show _ = _; simp, HB⟩
        case round =>
          obtain ⟨q, hq, rfl, HQ, HBk⟩ := hrel
          have hsk := HBk.out.size
          by_cases hlt2 : q < 4
          · have c1 : wr.cell? ⟨g, k, none⟩ = some (.slice (some ⟨b, o, none⟩) 4 c) := (World.cell?_of_block (w := w) (HBk.out.block g hg)).trans HCc.out
            have c2' := cell_str (HSe.out.below HBk.out hb) q (by rw [Hl4.out]; exact hlt2)
            have c3 : wr.cell? ⟨g2, k, none⟩ = some (.slice (some ⟨b2, o2, none⟩) 4 c2) := (World.cell?_of_block (w := w) (HBk.out.block g2 hg2)).trans HCc2.out
            have c4 := cell_str (HSe2.out.below HBk.out hb2) q (by rw [Hl5.out]; exact hlt2)
            have hgr : g < wr.heap.size := by omega
            have hgr2 : g2 < wr.heap.size := by omega
            have hbr : b < wr.heap.size := by omega
            have hbr2 : b2 < wr.heap.size := by omega
            obtain ⟨u, Hu⟩ : ∃ u, Hid (u = f.getD q []) := ⟨_, rfl⟩
            obtain ⟨u2, Hu2⟩ : ∃ u, Hid (u = f2.getD q []) := ⟨_, rfl⟩
            rw [← Hu.out] at c2'
            rw [← Hu2.out] at c4
            rcases Classical.em (u = u2) with huu | huu
            · have HQ2 : Hid (f.take (q + 1) = f2.take (q + 1)) := by
                show _ = _
                rw [take_snoc f q (by rw [Hl4.out]; exact hlt2) [], take_snoc f2 q (by rw [Hl5.out]; exact hlt2) [], HQ.out, ← Hu.out, ← Hu2.out, huu]
              subst huu
              have HKeep : Hid (∀ W, Below wr.heap.size wr W → W.cell? ⟨g, k, none⟩ = some (.slice (some ⟨b, o, none⟩) 4 c) ∧ W.cell? ⟨b, o + q, none⟩ = some (.string (strB u)) ∧ W.cell? ⟨g2, k, none⟩ = some (.slice (some ⟨b2, o2, none⟩) 4 c2) ∧ W.cell? ⟨b2, o2 + q, none⟩ = some (.string (strB u))) := fun W hW => ⟨(World.cell?_of_block (w := wr) (hW.block g hgr)).trans c1, (World.cell?_of_block (w := wr) (hW.block b hbr)).trans c2', (World.cell?_of_block (w := wr) (hW.block g2 hgr2)).trans c3, (World.cell?_of_block (w := wr) (hW.block b2 hbr2)).trans c4⟩
              clear c1 c2' c3 c4
              go_wp2
              have hC : Below wr.heap.size wr wr.drew := below_drewN (Below.refl _ _) 1
              refine wp_region_held_drew (S := (fun W => W.cell? ⟨g, k, none⟩ = some (.slice (some ⟨b, o, none⟩) 4 c) ∧ W.cell? ⟨b, o + q, none⟩ = some (.string (strB u)) ∧ W.cell? ⟨g2, k, none⟩ = some (.slice (some ⟨b2, o2, none⟩) 4 c2) ∧ W.cell? ⟨b2, o2 + q, none⟩ = some (.string (strB u)))) (by kernel_rfl) (HKeep.out _ hC) (fun hHeld => ?_)
              generalize wr.drew = wrd at *
              refine wpAnyH_take (i := 0) (oi := ⟨some 22, _, _, _, _, _⟩) (v := ?_) rfl (by kernel_rfl) (by kernel_rfl) (by kernel_rfl) (fun _ _ _ h => h) (Or.inl ⟨by rfl, ?_⟩) hHeld ?_
              rotate_left
              · intro w hSw
                go_simp
                with_reducible rfl
              try go_frame
              refine wpAnyH_take (i := 1) (oi := ⟨some 23, _, _, _, _, _⟩) (v := ?_) rfl (by kernel_rfl) (by kernel_rfl) (by kernel_rfl) (fun _ _ _ h => h) (Or.inl ⟨by rfl, ?_⟩) hHeld ?_
              rotate_left
              · intro w hSw
                go_simp
                with_reducible rfl
              try go_frame
              refine wpAnyH_take (i := 2) (oi := ⟨some 24, _, _, _, _, _⟩) (v := ?_) rfl (by kernel_rfl) (by kernel_rfl) (by kernel_rfl) (fun _ _ _ h => h) (Or.inl ⟨by rfl, ?_⟩) hHeld ?_
              rotate_left
              · intro w hSw
                go_simp
                with_reducible rfl
              try go_frame
              refine wpAnyH_take (i := 3) (oi := ⟨some 25, _, _, _, _, _⟩) (v := ?_) rfl (by kernel_rfl) (by kernel_rfl) (by kernel_rfl) (fun _ _ _ h => h) (Or.inl ⟨by rfl, ?_⟩) hHeld ?_
              rotate_left
              · intro w hSw
                obtain ⟨hS1, hS2, hS3, hS4⟩ := hSw
                go_simp
                with_reducible rfl
              try go_frame
              refine wpAnyH_take (i := 4) (oi := ⟨some 26, _, _, _, _, _⟩) (v := ?_) rfl (by kernel_rfl) (by kernel_rfl) (by kernel_rfl) (fun _ _ _ h => h) (Or.inl ⟨by rfl, ?_⟩) hHeld ?_
              rotate_left
              · intro w hSw
                go_simp
                with_reducible rfl
              try go_frame
              refine wpAnyH_take (i := 5) (oi := ⟨some 27, _, _, _, _, _⟩) (v := ?_) rfl (by kernel_rfl) (by kernel_rfl) (by kernel_rfl) (fun _ _ _ h => h) (Or.inl ⟨by rfl, ?_⟩) hHeld ?_
              rotate_left
              · intro w hSw
                go_simp
                with_reducible rfl
              try go_frame
              refine wpAnyH_take (i := 6) (oi := ⟨some 28, _, _, _, _, _⟩) (v := ?_) rfl (by kernel_rfl) (by kernel_rfl) (by kernel_rfl) (fun _ _ _ h => h) (Or.inl ⟨by rfl, ?_⟩) hHeld ?_
              rotate_left
              · intro w hSw
                obtain ⟨hS1, hS2, hS3, hS4⟩ := hSw
                go_simp
                with_reducible rfl
              try go_frame
              refine wpAnyH_take (i := 7) (oi := ⟨some 29, _, _, _, _, _⟩) (v := ?_) rfl (by kernel_rfl) (by kernel_rfl) (by kernel_rfl) (fun _ _ _ h => h) (Or.inl ⟨by rfl, ?_⟩) hHeld ?_
              rotate_left
              · intro w hSw
                go_simp
                with_reducible rfl
              try go_frame
              refine wpAnyH_take (i := 8) (oi := ⟨some 30, _, _, _, _, _⟩) (v := ?_) rfl (by kernel_rfl) (by kernel_rfl) (by kernel_rfl) (fun _ _ _ h => h) (Or.inl ⟨by rfl, ?_⟩) hHeld ?_
              rotate_left
              · intro w hSw
                go_simp
                with_reducible rfl
              try go_frame
              refine wpAnyH_take (i := 9) (oi := ⟨some 31, _, _, _, _, _⟩) (v := ?_) rfl (by kernel_rfl) (by kernel_rfl) (by kernel_rfl) (fun _ _ _ h => h) (Or.inl ⟨by rfl, ?_⟩) hHeld ?_
              rotate_left
              · intro w hSw
                go_simp
                with_reducible rfl
              try go_frame
              refine wpAnyH_take (i := 10) (oi := ⟨some 32, _, _, _, _, _⟩) (v := ?_) rfl (by kernel_rfl) (by kernel_rfl) (by kernel_rfl) (fun _ _ _ h => h) (Or.inl ⟨by rfl, ?_⟩) hHeld ?_
              rotate_left
              · intro w hSw
                obtain ⟨hS1, hS2, hS3, hS4⟩ := hSw
                go_simp
                with_reducible rfl
              try go_frame
              refine wpAnyH_take (i := 11) (oi := ⟨some 33, _, _, _, _, _⟩) (v := ?_) rfl (by kernel_rfl) (by kernel_rfl) (by kernel_rfl) (fun _ _ _ h => h) (Or.inl ⟨by rfl, ?_⟩) hHeld ?_
              rotate_left
              · intro w hSw
                go_simp
                with_reducible rfl
              try go_frame
              refine wpAnyH_take (i := 12) (oi := ⟨some 34, _, _, _, _, _⟩) (v := ?_) rfl (by kernel_rfl) (by kernel_rfl) (by kernel_rfl) (fun _ _ _ h => h) (Or.inl ⟨by rfl, ?_⟩) hHeld ?_
              rotate_left
              · intro w hSw
                go_simp
                with_reducible rfl
              try go_frame
              refine wpAnyH_take (i := 13) (oi := ⟨some 35, _, _, _, _, _⟩) (v := ?_) rfl (by kernel_rfl) (by kernel_rfl) (by kernel_rfl) (fun _ _ _ h => h) (Or.inl ⟨by rfl, ?_⟩) hHeld ?_
              rotate_left
              · intro w hSw
                obtain ⟨hS1, hS2, hS3, hS4⟩ := hSw
                go_simp
                with_reducible rfl
              try go_frame
              refine wpAnyH_take (i := 14) (oi := ⟨some 36, _, _, _, _, _⟩) (v := ?_) rfl (by kernel_rfl) (by kernel_rfl) (by kernel_rfl) (fun _ _ _ h => h) (Or.inl ⟨by rfl, ?_⟩) hHeld ?_
              rotate_left
              · intro w hSw
                go_simp
                with_reducible rfl
              try go_frame
              refine wpAnyH_done (by kernel_rfl) ?_ _
              have HB2 := Lib.hid (HBk.out.trans (hC.mono HBk.out.size))
              clear HKeep hHeld hC
              go_wp2
              go_roundw
              case rel => exact ⟨q + 1, by omega, by go_num, HQ2, HB2⟩
              case measure => simp [intOf]; omega
            · have hx := str_ne huu
              have Hno : Hid (¬ xs = ys) := fun e => huu (by
                have h1 := HF.out
                rw [e, HF2.out] at h1
                injection h1 with h1
                rw [Hu.out, Hu2.out, h1])
              have HKeep : Hid (∀ W, Below wr.heap.size wr W → W.cell? ⟨g, k, none⟩ = some (.slice (some ⟨b, o, none⟩) 4 c) ∧ W.cell? ⟨b, o + q, none⟩ = some (.string (strB u)) ∧ W.cell? ⟨g2, k, none⟩ = some (.slice (some ⟨b2, o2, none⟩) 4 c2) ∧ W.cell? ⟨b2, o2 + q, none⟩ = some (.string (strB u2))) := fun W hW => ⟨(World.cell?_of_block (w := wr) (hW.block g hgr)).trans c1, (World.cell?_of_block (w := wr) (hW.block b hbr)).trans c2', (World.cell?_of_block (w := wr) (hW.block g2 hgr2)).trans c3, (World.cell?_of_block (w := wr) (hW.block b2 hbr2)).trans c4⟩
              clear c1 c2' c3 c4
              go_wp2
              have hC : Below wr.heap.size wr wr.drew := below_drewN (Below.refl _ _) 1
              refine wp_region_held_drew (S := (fun W => W.cell? ⟨g, k, none⟩ = some (.slice (some ⟨b, o, none⟩) 4 c) ∧ W.cell? ⟨b, o + q, none⟩ = some (.string (strB u)) ∧ W.cell? ⟨g2, k, none⟩ = some (.slice (some ⟨b2, o2, none⟩) 4 c2) ∧ W.cell? ⟨b2, o2 + q, none⟩ = some (.string (strB u2)))) (by kernel_rfl) (HKeep.out _ hC) (fun hHeld => ?_)
              generalize wr.drew = wrd at *
              refine wpAnyH_take (i := 0) (oi := ⟨some 22, _, _, _, _, _⟩) (v := ?_) rfl (by kernel_rfl) (by kernel_rfl) (by kernel_rfl) (fun _ _ _ h => h) (Or.inl ⟨by rfl, ?_⟩) hHeld ?_
              rotate_left
              · intro w hSw
                go_simp
                with_reducible rfl
              try go_frame
              refine wpAnyH_take (i := 1) (oi := ⟨some 23, _, _, _, _, _⟩) (v := ?_) rfl (by kernel_rfl) (by kernel_rfl) (by kernel_rfl) (fun _ _ _ h => h) (Or.inl ⟨by rfl, ?_⟩) hHeld ?_
              rotate_left
              · intro w hSw
                go_simp
                with_reducible rfl
              try go_frame
              refine wpAnyH_take (i := 2) (oi := ⟨some 24, _, _, _, _, _⟩) (v := ?_) rfl (by kernel_rfl) (by kernel_rfl) (by kernel_rfl) (fun _ _ _ h => h) (Or.inl ⟨by rfl, ?_⟩) hHeld ?_
              rotate_left
              · intro w hSw
                go_simp
                with_reducible rfl
              try go_frame
              refine wpAnyH_take (i := 3) (oi := ⟨some 25, _, _, _, _, _⟩) (v := ?_) rfl (by kernel_rfl) (by kernel_rfl) (by kernel_rfl) (fun _ _ _ h => h) (Or.inl ⟨by rfl, ?_⟩) hHeld ?_
              rotate_left
              · intro w hSw
                obtain ⟨hS1, hS2, hS3, hS4⟩ := hSw
                go_simp
                with_reducible rfl
              try go_frame
              refine wpAnyH_take (i := 4) (oi := ⟨some 26, _, _, _, _, _⟩) (v := ?_) rfl (by kernel_rfl) (by kernel_rfl) (by kernel_rfl) (fun _ _ _ h => h) (Or.inl ⟨by rfl, ?_⟩) hHeld ?_
              rotate_left
              · intro w hSw
                go_simp
                with_reducible rfl
              try go_frame
              refine wpAnyH_take (i := 5) (oi := ⟨some 27, _, _, _, _, _⟩) (v := ?_) rfl (by kernel_rfl) (by kernel_rfl) (by kernel_rfl) (fun _ _ _ h => h) (Or.inl ⟨by rfl, ?_⟩) hHeld ?_
              rotate_left
              · intro w hSw
                go_simp
                with_reducible rfl
              try go_frame
              refine wpAnyH_take (i := 6) (oi := ⟨some 28, _, _, _, _, _⟩) (v := ?_) rfl (by kernel_rfl) (by kernel_rfl) (by kernel_rfl) (fun _ _ _ h => h) (Or.inl ⟨by rfl, ?_⟩) hHeld ?_
              rotate_left
              · intro w hSw
                obtain ⟨hS1, hS2, hS3, hS4⟩ := hSw
                go_simp
                with_reducible rfl
              try go_frame
              refine wpAnyH_take (i := 7) (oi := ⟨some 29, _, _, _, _, _⟩) (v := ?_) rfl (by kernel_rfl) (by kernel_rfl) (by kernel_rfl) (fun _ _ _ h => h) (Or.inl ⟨by rfl, ?_⟩) hHeld ?_
              rotate_left
              · intro w hSw
                go_simp
                with_reducible rfl
              try go_frame
              refine wpAnyH_take (i := 8) (oi := ⟨some 30, _, _, _, _, _⟩) (v := ?_) rfl (by kernel_rfl) (by kernel_rfl) (by kernel_rfl) (fun _ _ _ h => h) (Or.inl ⟨by rfl, ?_⟩) hHeld ?_
              rotate_left
              · intro w hSw
                go_simp
                with_reducible rfl
              try go_frame
              refine wpAnyH_take (i := 9) (oi := ⟨some 31, _, _, _, _, _⟩) (v := ?_) rfl (by kernel_rfl) (by kernel_rfl) (by kernel_rfl) (fun _ _ _ h => h) (Or.inl ⟨by rfl, ?_⟩) hHeld ?_
              rotate_left
              · intro w hSw
                go_simp
                with_reducible rfl
              try go_frame
              refine wpAnyH_take (i := 10) (oi := ⟨some 32, _, _, _, _, _⟩) (v := ?_) rfl (by kernel_rfl) (by kernel_rfl) (by kernel_rfl) (fun _ _ _ h => h) (Or.inl ⟨by rfl, ?_⟩) hHeld ?_
              rotate_left
              · intro w hSw
                obtain ⟨hS1, hS2, hS3, hS4⟩ := hSw
                go_simp
                with_reducible rfl
              try go_frame
              refine wpAnyH_take (i := 11) (oi := ⟨some 33, _, _, _, _, _⟩) (v := ?_) rfl (by kernel_rfl) (by kernel_rfl) (by kernel_rfl) (fun _ _ _ h => h) (Or.inl ⟨by rfl, ?_⟩) hHeld ?_
              rotate_left
              · intro w hSw
                go_simp
                with_reducible rfl
              try go_frame
              refine wpAnyH_take (i := 12) (oi := ⟨some 34, _, _, _, _, _⟩) (v := ?_) rfl (by kernel_rfl) (by kernel_rfl) (by kernel_rfl) (fun _ _ _ h => h) (Or.inl ⟨by rfl, ?_⟩) hHeld ?_
              rotate_left
              · intro w hSw
                go_simp
                with_reducible rfl
              try go_frame
              refine wpAnyH_take (i := 13) (oi := ⟨some 35, _, _, _, _, _⟩) (v := ?_) rfl (by kernel_rfl) (by kernel_rfl) (by kernel_rfl) (fun _ _ _ h => h) (Or.inl ⟨by rfl, ?_⟩) hHeld ?_
              rotate_left
              · intro w hSw
                obtain ⟨hS1, hS2, hS3, hS4⟩ := hSw
                go_simp
                with_reducible rfl
              try go_frame
              refine wpAnyH_take (i := 14) (oi := ⟨some 36, _, _, _, _, _⟩) (v := ?_) rfl (by kernel_rfl) (by kernel_rfl) (by kernel_rfl) (fun _ _ _ h => h) (Or.inl ⟨by rfl, ?_⟩) hHeld ?_
              rotate_left
              · intro w hSw
                go_simp
                with_reducible rfl
              try go_frame
              refine wpAnyH_done (by kernel_rfl) ?_ _
              have HB2 := Lib.hid (HBk.out.trans (hC.mono HBk.out.size))
              clear HKeep hHeld hC
              go_wp2
              go_ret
              rw [decide_eq_false Hno.out]
              exact ⟨rfl, HB2.out⟩
          · obtain rfl : q = 4 := by omega
            rw [List.take_of_length_le (by rw [Hl4.out]; omega), List.take_of_length_le (by rw [Hl5.out]; omega)] at HQ
            have HT2 : Hid (xs.take (k + 1) = ys.take (k + 1)) := by
              show _ = _
              rw [take_snoc xs k (by rw [← HNl.out]; exact hlt) [], take_snoc ys k (by rw [← HN2.out]; exact hlt) [], HT.out, List.getD_eq_getElem?_getD, List.getD_eq_getElem?_getD, HF.out, HF2.out, HQ.out]
            go_wp2
            go_roundw
            case rel => exact ⟨k + 1, by omega, by go_num, HT2, HBk⟩
            case measure => simp [intOf]; omega
      · obtain rfl : k = n := by omega
        have Heq : Hid (xs = ys) := by
          have h1 := HT.out
          rw [List.take_of_length_le (by rw [← HNl.out]; omega), List.take_of_length_le (by rw [← HN2.out]; omega)] at h1
          exact h1
        go_wp2
        go_ret
        rw [decide_eq_true Heq.out]
        exact ⟨rfl, HB.out⟩
  · have Hno : Hid (¬ xs = ys) := fun e => hnn (by rw [HNl.out, HN2.out, e])
    go_enter Tryd.func14, Tryd.ntmps14
    go_wp2
    go_ret
    rw [decide_eq_false Hno.out]
    exact ⟨rfl, Below.refl _ _⟩
end Go.Proofs.YtnlbhbacedbdoaaDoor
