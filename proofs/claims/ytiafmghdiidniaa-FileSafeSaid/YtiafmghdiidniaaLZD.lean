/-
  THE WALKS of slices.Grow and Concat of ints; of numberAt.
-/
import Derived.Test.YtiafmghdiidniaaLZB
import Derived.Test.YtiafmghdiidniaaLZE
import Derived.Lib.AppendZeros
namespace Go.Proofs.Ytiafmghdiidniaa
set_option maxRecDepth 100000
set_option maxHeartbeats 1000000
open Go.RowKit Cdc Inn Fil

theorem infoInt : (Try.prog.info? 3).map (fun i => (i.zero, i.size, i.bytes)) = some (some (.int .i64 0), 1, 8) := by kernel_rfl
theorem run_grow5 (w : World) : ∃ cap w', (Builtin.append_ #[77, 3] 77 #[.slice none 0 0, .int .i64 5]).run Try.prog w = .ok (.slice (some ⟨w.heap.size, 0, none⟩) 5 cap) w' ∧ 5 ≤ cap ∧ Own w' w.heap.size 3 (.slice (some ⟨w.heap.size, 0, none⟩) 0 cap) [] ∧ Below w.heap.size w w' := by
  obtain ⟨i, hi, hz0, hz1, hz2⟩ := info_parts infoInt
  have h := Lib.run_append_nil_zeros (P := Try.prog) w 77 3 77 3 i (.int .i64 0) .i64 .i64 Try.underlying77 Try.underlying3 hi hz0 5 (by omega) (by omega) (by omega) (by omega)
  refine ⟨_, _, h, grownCap_ge _ _ _ _, ?_, ?_⟩
  · have h5 := grownCap_ge w 5 0 3
    refine ⟨rfl, .inr ⟨w.heap.size, _, _, rfl, Nat.le_refl _, by show (w.heap.push _)[w.heap.size]? = _; exact Array.getElem?_push_size, Nat.zero_le _, grownCap_le_maxLen w 5 0 3 (by unfold maxLen; omega), ?_, rfl⟩⟩
    simp only [Array.size_append, Builtin.zeroCells, Array.size_map, Array.size_range]
    show 5 * 1 + (grownCap w 5 0 3 - 5) * 1 = grownCap w 5 0 3 * 1
    omega
  · exact (Below.refl _ _).drew.alloc (Nat.le_refl _) _
theorem QgrowI_any (w : World) : Calls Try.prog 65 #[.slice none 0 0, .int .i64 5] w fun e w' => ∃ v, e = .returned v ∧ Hid (Own w' w.heap.size 3 v []) ∧ Below w.heap.size w w' := by
  obtain ⟨cap, w', hr, hc, ho, hb⟩ := run_grow5 w
  have HO := Lib.hid ho
  have HB := Lib.hid hb
  have HR := Lib.hid hr
  clear ho hb hr
  go_enter Try.func65, Try.ntmps65
  go_wp2_with (refine Lib.wpList_append_run w rfl (.tmp 20) (.tmp 21) 77 3 rfl _ _ rfl rfl _ _ HR.out ?_)
  go_ret
  exact ⟨_, rfl, HO, HB.out⟩
theorem numberAt_any (l : List Nat) (off : Nat) (hoff : off ≤ 2304) (hp : placeOf off < l.length) (v : Value) (w : World) (h : From w v (VNs l)) :
    Calls Try.prog 37 #[v, .int .i64 off] w fun e w' => e = .returned (.int .i64 (numAt l off : Nat)) ∧ w' = w := by
  obtain ⟨A, cap, rfl, hs⟩ := h.parts
  rw [VNs_length] at hs ⊢
  obtain ⟨b, o, rfl, hb, hsee⟩ := hs (by omega)
  have hx : w.cell? ⟨b, o + placeOf off, none⟩ = some (.int .i64 ((l.getD (placeOf off) 0 : Nat) : Int)) := by
    have := hsee (placeOf off) (VI ((l.getD (placeOf off) 0 : Nat) : Int)) (by
      simp only [VNs, List.getElem?_map, List.getD_eq_getElem?_getD, List.getElem?_eq_getElem hp, Option.map_some, Option.getD_some])
    exact this
  unfold numAt
  generalize ((l.getD (placeOf off) 0 : Nat) : Int) = x at *
  generalize l.length = n at *
  obtain ⟨q, hq⟩ : ∃ q, q = off / 64 := ⟨_, rfl⟩
  have hd : ((off : Nat) : Int) / 64 = (q : Int) := by omega
  have hdt : Int.tdiv (off : Int) 64 = (q : Int) := by rw [Int.tdiv_eq_ediv_of_nonneg (by omega)]; exact hd
  unfold placeOf at hx hp
  rw [← hq] at hx hp
  have hq36 : q ≤ 36 := by omega
  clear hsee hs h hq
  by_cases h4 : 4 ≤ q
  · rw [if_pos h4] at hx hp
    go_enter Try.func37, Try.ntmps37
    go_wp2
    go_ret
    exact ⟨rfl, rfl⟩
  · rw [if_neg h4] at hx hp
    go_enter Try.func37, Try.ntmps37
    go_wp2
    go_ret
    exact ⟨rfl, rfl⟩
theorem QconcatI_any {w : World} {g ca : Nat} {va vb : Value} {xs ys : List Value} (ha : w.cell? ⟨g, 0, none⟩ = some va) (hb : w.cell? ⟨g, 1, none⟩ = some vb) (hva : From w va xs) (hvb : From w vb ys) (hx : xs.length = 4) (hy : ys.length = 1) (x1 : ∀ v ∈ xs, v.oneCell' = true) (y1 : ∀ v ∈ ys, v.oneCell' = true) :
    Calls Try.prog 55 #[.slice (some ⟨g, 0, none⟩) 2 ca] w fun e w' => ∃ v, e = .returned v ∧ Hid (Own w' w.heap.size 3 v (xs ++ ys)) ∧ Below w.heap.size w w' := by
  have hg := World.block_lt_of_cell? w _ ha
  have HKeep : Hid (∀ W, Below w.heap.size w W → W.cell? ⟨g, 0, none⟩ = some va ∧ W.cell? ⟨g, 1, none⟩ = some vb ∧ From W va xs ∧ From W vb ys) := fun W hW =>
    ⟨by rw [hW.cell (by exact hg)]; exact ha, by rw [hW.cell (by exact hg)]; exact hb, hva.below hW, hvb.below hW⟩
  obtain ⟨Aa, capa, ea, -⟩ := hva.parts
  obtain ⟨Ab, capb, eb, -⟩ := hvb.parts
  rw [hx] at ea
  rw [hy] at eb
  subst ea eb
  have H0 : Hid (([] : List Value).length + xs.length ≤ 100000000) := by show _ ≤ _; rw [hx]; decide
  have H1 : Hid (xs.length + ys.length ≤ 100000000) := by show _ ≤ _; rw [hx, hy]; decide
  have X1 := Lib.hid x1
  have Y1 := Lib.hid y1
  have HG := Lib.hid (QgrowI_any w)
  clear hva hvb hx hy x1 y1
  go_enter Try.func55, Try.ntmps55
  go_wp2_with fail
  refine wp_loop_rounds 3 ?_
  rw [rounds_succ]; go_wp2_with fail
  rw [rounds_succ]; go_wp2_with fail
  rw [rounds_succ]; go_wp2_with fail
  refine HG.out.mono ?_
  rintro e w1 ⟨v1, rfl, HO, hB⟩
  obtain ⟨ha1, -, hA1, -⟩ := HKeep.out w1 hB
  have HA1 := Lib.hid hA1
  have HBe := Lib.hid hB
  clear hB HG ha hb hA1
  have Hs1 := Lib.hid HBe.out.size
  go_wp2_with fail
  refine wp_loop_rounds 3 ?_
  rw [rounds_succ]
  go_wp2_with (refine wpList_app rfl (.tmp 31) (.tmp 32) 77 rfl w.heap.size 3 Try.underlying77 infoInt rfl (by decide) _ [] rfl HO.out _ xs rfl HA1.out X1.out H0.out Hs1.out ?_; intro v2 w2 ho2 hg2 h3; rw [List.nil_append] at ho2; have HO2 := Lib.hid ho2; have hbk : Below w.heap.size w w2 := below_app HBe.out HO.out hg2 (Nat.le_refl _) HBe.out.size; clear ho2 hg2 h3 HO HA1)
  obtain ⟨-, hb2, -, hB2⟩ := HKeep.out w2 hbk
  have HA2 := Lib.hid hB2
  have HBe2 := Lib.hid hbk
  clear hB2 hbk HBe Hs1 ha1 HKeep
  have Hs2 := Lib.hid HBe2.out.size
  rw [rounds_succ]
  go_wp2_with (refine wpList_app rfl (.tmp 31) (.tmp 32) 77 rfl w.heap.size 3 Try.underlying77 infoInt rfl (by decide) _ xs rfl HO2.out _ ys rfl HA2.out Y1.out H1.out Hs2.out ?_; intro v3 w3 ho3 hg3 h3; have HO3 := Lib.hid ho3; have HB3 : Hid (Below w.heap.size w w3) := below_app HBe2.out HO2.out hg3 (Nat.le_refl _) HBe2.out.size; clear ho3 hg3 h3 HO2 HA2)
  rw [rounds_succ]
  go_wp2
  go_ret
  exact ⟨_, rfl, HO3, HB3.out⟩
end Go.Proofs.Ytiafmghdiidniaa
