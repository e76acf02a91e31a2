/-
  THE WALK of the reference's Come.
-/
import Derived.Test.YtcmledlghipcbaaDoorH
import Derived.StillTailTactics
namespace Go.Proofs.YtcmledlghipcbaaDoor
open Go.RowKit Sha

theorem sees8 {w : World} {g o : Nat} {t : St} (h : Sees w g o (t.list.map V32)) :
    w.cell? ⟨g, o, none⟩ = some (.int .u32 t.a.toNat) ∧ w.cell? ⟨g, o + 1, none⟩ = some (.int .u32 t.b.toNat) ∧ w.cell? ⟨g, o + 2, none⟩ = some (.int .u32 t.c.toNat) ∧ w.cell? ⟨g, o + 3, none⟩ = some (.int .u32 t.d.toNat) ∧
    w.cell? ⟨g, o + 4, none⟩ = some (.int .u32 t.e.toNat) ∧ w.cell? ⟨g, o + 5, none⟩ = some (.int .u32 t.f.toNat) ∧ w.cell? ⟨g, o + 6, none⟩ = some (.int .u32 t.g.toNat) ∧ w.cell? ⟨g, o + 7, none⟩ = some (.int .u32 t.h.toNat) :=
  ⟨h 0 _ rfl, h 1 _ rfl, h 2 _ rfl, h 3 _ rfl, h 4 _ rfl, h 5 _ rfl, h 6 _ rfl, h 7 _ rfl⟩

theorem quiet_again {P : Program} {f : FuncId} {args : Array Value} {w : World} {a n : Nat} {v : Value} (h : Calls P f args (w.drewN (a + n)) fun e w' => e = .returned v ∧ w' = w.drewN (a + n)) :
    Calls P f args (w.drewN (a + n)) fun e w' => e = .returned v ∧ ∃ m, w' = w.drewN (a + m) := h.mono fun _ _ k => ⟨k.1, n, k.2⟩

theorem one_eq2 (a b c d e f g h cc mm : UInt32) :
    (((h.toNat : Int) + bits .xor .u32 (bits .xor .u32 (rot e 6).toNat (rot e 11).toNat) (rot e 25).toNat + bits .xor .u32 (bits .and .u32 e.toNat f.toNat) (bits .and .u32 ((4294967295 - (e.toNat : Int)) % 4294967296) g.toNat) + cc.toNat) % 4294967296 + mm.toNat) % 4294967296
      = ((one ⟨a, b, c, d, e, f, g, h⟩ cc mm).toNat : Int) := by
  have he : ((4294967295 - (e.toNat : Int)) % 4294967296) = ((~~~e).toNat : Int) := by
    rw [sub32]
    have := lt32 (~~~e)
    generalize (~~~e).toNat = z at *
    omega
  rw [he, ← one_eq a b c d e f g h cc mm]
  omega

theorem plus_take (s t : St) (j : Nat) (hj : j < 8) : (s.plus t).list.take (j + 1) = (s.plus t).list.take j ++ [s.list.getD j 0 + t.list.getD j 0] := by
  match j, hj with
  | 0, _ => rfl
  | 1, _ => rfl
  | 2, _ => rfl
  | 3, _ => rfl
  | 4, _ => rfl
  | 5, _ => rfl
  | 6, _ => rfl
  | 7, _ => rfl

/-- An append onto a new row turns nothing old. -/
theorem by_to_below' {w1 w2 : World} {ys : Array Value} {e : TypeId} (h : (w1.alloc (.cells ys e)).grownBy w2 (Value.ownBlock (.slice (some ⟨w1.heap.size, 0, none⟩) 0 0))) : Below w1.heap.size w1 w2 :=
  ((Below.refl _ _).alloc (Nat.le_refl _) _).grown h (by simp) (fun k hk => by simp [Value.ownBlock] at hk; omega)

set_option maxRecDepth 100000 in
set_option maxHeartbeats 1000000 in
theorem Come_any (sb so sc : Nat) (s : St) (b off cap : Nat) (bs : List UInt8) (hbs : bs.length = 64) (cb co cc : Nat) (C : List UInt32) (hC : C.length = 64) (w : World)
    (hsl : sb < w.heap.size) (hs : Sees w sb so (s.list.map V32)) (hb : b < w.heap.size) (h : Sees w b off (bs.map V8)) (hcl : cb < w.heap.size) (hc : Sees w cb co (C.map V32)) :
    Calls Tryd.prog 21 #[.slice (some ⟨sb, so, none⟩) 8 sc, .slice (some ⟨b, off, none⟩) 64 cap, .slice (some ⟨cb, co, none⟩) 64 cc] w fun e w' =>
      ∃ v, e = .returned v ∧ Own w' w.heap.size 49 v ((come C s bs).list.map V32) ∧ Below w.heap.size w w' := by
  have Hbs := Lib.hid hbs
  have HC := Lib.hid hC
  clear hbs hC
  go_enter Tryd.func21, Tryd.ntmps21
  go_wp2_with fail
  refine (Words_any b off cap bs Hbs.out w hb h).mono ?_
  rintro e w1 ⟨m, rfl, hm, hb1⟩
  obtain ⟨gm, cm, hmv, hgm1, hgm2, hmsee⟩ := hm.form (by rw [List.length_map, words_length]; omega)
  rw [List.length_map, words_length] at hmv
  rw [hmv]
  clear hmv hm
  have hsz1 := hb1.size
  have hs1 := hs.below hb1 hsl
  have HF : Hid (From (w1.alloc (.cells #[] 49)) (.slice (some ⟨sb, so, none⟩) 8 sc) (s.list.map V32)) := .inr ⟨sb, so, sc, rfl, by simp; omega, hs1.alloc (by omega) _⟩
  have HO : Hid (Own (w1.alloc (.cells #[] 49)) w.heap.size 49 (.slice (some ⟨w1.heap.size, 0, none⟩) 0 0) []) := Own.lit w1 _ _ [] hsz1 (by decide)
  have H8 : Hid (([] : List Value).length + (s.list.map V32).length ≤ 100000000) := by show _ ≤ _; rw [List.length_map]; simp [St.list]
  have H1 := Lib.hid (oneC32 s.list)
  clear hs1
  go_wp2_with (at_builtin; refine wpList_app rfl (.tmp 18) (.tmp 19) 34 rfl w.heap.size 49 Tryd.underlying34 info32 rfl (by decide) _ [] rfl HO.out _ (s.list.map V32) rfl HF.out H1.out H8.out (by simp; omega) ?_; intro v2 w2 hown2 hg2 _)
  have hb2 : Below w1.heap.size w1 w2 := by_to_below' hg2
  obtain ⟨g, cg, hv, hg1, hg2l, hsee⟩ := hown2.form (by rw [List.nil_append, List.length_map]; simp [St.list])
  rw [List.nil_append] at hsee hv
  rw [List.length_map, show s.list.length = 8 from rfl] at hv
  rw [hv]
  clear hv hown2 hg2 H8 H1 HF HO
  have hsz2 := hb2.size
  have HM : Hid (Sees w2 gm 0 ((words bs 64).map V32)) := hmsee.below hb2 hgm2
  have HCs : Hid (Sees w2 cb co (C.map V32)) := (hc.below hb1 hcl).below hb2 (by omega)
  have HS : Hid (Sees w2 sb so (s.list.map V32)) := (hs.below hb1 hsl).below hb2 (by omega)
  have hbw2 : Below w.heap.size w w2 := hb1.trans (hb2.mono hsz1)
  have Hsee := Lib.hid hsee
  clear hmsee hc hs h hsee hb1 hb2
  go_loopw [8, 9, 10, 11, 12, 13] (fun v i _ _ _ _ wr => ∃ (k g cg : Nat) (a b c d e f g' h : UInt32), k ≤ 64 ∧ i = .int .i64 k ∧ v = .slice (some ⟨g, 0, none⟩) 8 cg ∧ g < wr.heap.size ∧ Hid (⟨a, b, c, d, e, f, g', h⟩ = rnds C (words bs 64) s k) ∧ Hid (Sees wr g 0 ((St.list ⟨a, b, c, d, e, f, g', h⟩).map V32)) ∧ Below w2.heap.size w2 wr) (fun _ i _ _ _ _ _ => 64 - (intOf i).toNat)
  case atStart => exact ⟨0, g, cg, _, _, _, _, _, _, _, _, by omega, rfl, rfl, hg2l, rfl, Hsee.out, Below.refl _ _⟩
  case round =>
    clear hg1 hg2l Hsee
    obtain ⟨k, g, cg, a, b, c, d, e, f, g', h, hk, rfl, rfl, hgl, Ht, Hv, hbel⟩ := hrel
    have hszr := hbel.size
    by_cases hlt : k < 64
    · have Hst : Hid (rnds C (words bs 64) s (k + 1) = rnd ⟨a, b, c, d, e, f, g', h⟩ (C.getD k 0) ((words bs 64).getD k 0)) := by rw [Ht.out]; rfl
      have gC : wr.cell? ⟨cb, co + k, none⟩ = some (.int .u32 (C.getD k 0).toNat) := at32 (HCs.out.below hbel (by omega)) k (by rw [HC.out]; exact hlt)
      have gM : wr.cell? ⟨gm, k, none⟩ = some (.int .u32 ((words bs 64).getD k 0).toNat) := by
        have := at32 (HM.out.below hbel (by omega)) k (by rw [words_length]; exact hlt)
        rwa [Nat.zero_add] at this
      obtain ⟨c0, c1, c2, c3, c4, c5, c6, c7⟩ := sees8 Hv.out
      simp only [Nat.zero_add] at c0 c1 c2 c3 c4 c5 c6 c7
      generalize C.getD k 0 = kc at *
      generalize (words bs 64).getD k 0 = mm at *
      go_wp2
      go_quiet ((go_at_call 27; exact Calls.quiet_of_same (Turn_same _ _ (by decide) (by decide) _)))
      go_wp2
      go_quiet ((go_at_call 27; exact quiet_again (Turn_same _ _ (by decide) (by decide) _)))
      go_wp2
      rw [one_eq2 a b c d e f g' h kc mm, two_eq a b c d e f g' h]
      obtain ⟨U, hU⟩ : ∃ U, U = one ⟨a, b, c, d, e, f, g', h⟩ kc mm := ⟨_, rfl⟩
      obtain ⟨T, hT⟩ : ∃ T, T = two ⟨a, b, c, d, e, f, g', h⟩ := ⟨_, rfl⟩
      rw [← hU, ← hT]
      have Hnext : Hid (rnds C (words bs 64) s (k + 1) = ⟨U + T, a, b, c, d + U, e, f, g'⟩) := by show _ = _; rw [Hst.out, hU, hT]; rfl
      clear hU hT Hst
      refine leave_wp (fun w3 => Hid (∃ n, w3 = wr.drewN n)) ⟨_, World.drewN_drewN _ _ _⟩ ?_
      intro w3 Hw3
      have hh3 : w3.heap.size = wr.heap.size := by obtain ⟨n, rfl⟩ := Hw3.out; rfl
      have d0 : w3.cell? ⟨g, 0, none⟩ = some (.int .u32 a.toNat) := by obtain ⟨n, rfl⟩ := Hw3.out; exact c0
      have d1 : w3.cell? ⟨g, 1, none⟩ = some (.int .u32 b.toNat) := by obtain ⟨n, rfl⟩ := Hw3.out; exact c1
      have d2 : w3.cell? ⟨g, 2, none⟩ = some (.int .u32 c.toNat) := by obtain ⟨n, rfl⟩ := Hw3.out; exact c2
      have d3 : w3.cell? ⟨g, 3, none⟩ = some (.int .u32 d.toNat) := by obtain ⟨n, rfl⟩ := Hw3.out; exact c3
      have d4 : w3.cell? ⟨g, 4, none⟩ = some (.int .u32 e.toNat) := by obtain ⟨n, rfl⟩ := Hw3.out; exact c4
      have d5 : w3.cell? ⟨g, 5, none⟩ = some (.int .u32 f.toNat) := by obtain ⟨n, rfl⟩ := Hw3.out; exact c5
      have d6 : w3.cell? ⟨g, 6, none⟩ = some (.int .u32 g'.toNat) := by obtain ⟨n, rfl⟩ := Hw3.out; exact c6
      have hbel3 : Below w2.heap.size w2 w3 := by obtain ⟨n, rfl⟩ := Hw3.out; exact below_drewN hbel n
      have Hh3 := Lib.hid hh3
      have hsz3 := hbel3.size
      clear c0 c1 c2 c3 c4 c5 c6 c7 gC gM hh3 hbel Hw3 Hv
      refine wp_region_still_tail 26 (by kernel_rfl) (by kernel_rfl) ?_
      change wpStill _ _ w3.drew (fun a' => wpList _ _ _ _ a' w3.drew) _ _
      simp only [List.take_succ_cons, List.take_zero, List.drop_succ_cons, List.drop_zero]
      repeat still_step
      refine wpStill_nil ?_
      go_wp2
      go_roundw
      case rel =>
        rw [add32, add32]
        exact ⟨k + 1, w3.heap.size, 8, _, _, _, _, _, _, _, _, by omega, by go_num, rfl, by simp, Hnext.out.symm, (Row.new w3 49 ((St.list ⟨U + T, a, b, c, d + U, e, f, g'⟩).map V32)).drew.sees, (hbel3.alloc hsz3 _).drew⟩
      case measure => simp [intOf]; omega
    · obtain rfl : k = 64 := by omega
      rw [show ((64 : Nat) : Int) = 64 from rfl]
      have Hend : Hid (come C s bs = s.plus ⟨a, b, c, d, e, f, g', h⟩) := by show _ = _; rw [Ht.out]; rfl
      obtain ⟨t, ht⟩ : ∃ t : St, t = ⟨a, b, c, d, e, f, g', h⟩ := ⟨_, rfl⟩
      rw [← ht] at Hend Hv
      have HSx := Lib.hid (HS.out.below hbel (by omega))
      have hbx : Below w.heap.size w wr := hbw2.trans (hbel.mono (by have := hbw2.size; omega))
      clear ht Ht hbel HS HM HCs hbw2
      obtain ⟨wx, hwx⟩ : ∃ wx : World, wx = wr := ⟨_, rfl⟩
      subst hwx
      go_wp2
      go_loopw [14, 15] (fun out i wr => ∃ j : Nat, j ≤ 8 ∧ i = .int .i64 j ∧ Own wr wx.heap.size 49 out (((s.plus t).list.take j).map V32) ∧ Below wx.heap.size wx wr) (fun _ i _ => 8 - (intOf i).toNat)
      case atStart => exact ⟨0, by omega, rfl, Own.nil _ _ _, Below.refl _ _⟩
      case round =>
        obtain ⟨j, hj, rfl, hown, hbel⟩ := hrel
        have hszr := hbel.size
        by_cases hlt8 : j < 8
        · have gS : wr.cell? ⟨sb, so + j, none⟩ = some (.int .u32 (s.list.getD j 0).toNat) := at32 (HSx.out.below hbel (by omega)) j (by simpa [St.list] using hlt8)
          have gV : wr.cell? ⟨g, j, none⟩ = some (.int .u32 (t.list.getD j 0).toNat) := by
            have := at32 (Hv.out.below hbel hgl) j (by simpa [St.list] using hlt8)
            rwa [Nat.zero_add] at this
          have HT := Lib.hid (plus_take s t j hlt8)
          have HL : Hid ((((s.plus t).list.take j).map V32).length + 1 ≤ 100000000) := by show _ ≤ _; simp [St.list]; omega
          generalize s.list.getD j 0 = x at *
          generalize t.list.getD j 0 = y at *
          have Hown := Lib.hid hown
          clear hown
          go_wp2
          go_region_law (refine step_app rfl (.tmp 125) (.tmp 135) 34 rfl wx.heap.size 49 Tryd.underlying34 info32 rfl (by decide) _ (((s.plus t).list.take j).map V32) rfl (Hown.out.alloc _).drew _ [.int .u32 (((x.toNat : Int) + y.toNat) % 4294967296)] rfl (from_new wr 49 [.int .u32 (((x.toNat : Int) + y.toNat) % 4294967296)]) (fun y hy => by rw [List.mem_singleton.1 hy]; rfl) HL.out (by simp; omega) ?_; intro v' w4 hown4 hg4 _)
          all_goals
            go_wp2
            go_roundw
            case rel =>
              rw [add32] at hown4
              refine ⟨j + 1, by omega, by go_num, ?_, ?_⟩
              · rw [HT.out, List.map_append]; exact hown4
              · exact below_app (hbel.alloc hszr _).drew (Hown.out.alloc _).drew hg4 (Nat.le_refl _) (by simp; omega)
            case measure => simp [intOf]; omega
        · obtain rfl : j = 8 := by omega
          rw [show ((8 : Nat) : Int) = 8 from rfl]
          have hfin : Hid (Own wr w.heap.size 49 u14 ((come C s bs).list.map V32)) := by
            rw [Hend.out]
            exact Own.base hown hbx.size
          clear hown
          go_wp2
          go_ret
          exact ⟨_, rfl, hfin.out, hbx.trans (hbel.mono hbx.size)⟩
end Go.Proofs.YtcmledlghipcbaaDoor
