/-
  4 TEXTS IN ONE (HmH, HmI, HmJ, HmK): each says at its own head what it holds.
-/
import Derived.Test.YtepbnimheedodaaDoorHmD
import Derived.StillTailTactics
import Derived.Test.YtepbnimheedodaaDoorHmQ
import Derived.Deep.RegionHeld3

section
/-
  THE WALKS of the reference's Words and Come.
-/
namespace Go.Proofs.YtepbnimheedodaaDoor.Hm
open Go.RowKit Sha

theorem info32 : (Tryd.prog.info? 89).map (fun i => (i.zero, i.size, i.bytes)) = some (some (.int .u32 0), 1, 4) := by kernel_rfl
theorem info8 : (Tryd.prog.info? 5).map (fun i => (i.zero, i.size, i.bytes)) = some (some (.int .u8 0), 1, 1) := by kernel_rfl

theorem oneC32 (l : List UInt32) : ∀ y ∈ l.map V32, y.oneCell' = true := fun y hy => by obtain ⟨x, _, rfl⟩ := List.mem_map.1 hy; rfl
theorem oneC8 (l : List UInt8) : ∀ y ∈ l.map V8, y.oneCell' = true := fun y hy => by obtain ⟨x, _, rfl⟩ := List.mem_map.1 hy; rfl
/-- A slice literal of words. -/
theorem from_new (w : World) (e : TypeId) (ys : List Value) : From (w.alloc (.cells ys.toArray e)) (.slice (some ⟨w.heap.size, 0, none⟩) ys.length ys.length) ys :=
  .inr ⟨w.heap.size, 0, ys.length, rfl, by simp, (Row.new w e ys).sees⟩

/-- n*256 + the next byte, four times. -/
def acc4 (a b c d : UInt8) : Nat → UInt32
  | 0 => 0
  | 1 => UInt32.ofNat a.toNat
  | 2 => UInt32.ofNat (a.toNat * 256 + b.toNat)
  | 3 => UInt32.ofNat (a.toNat * 65536 + b.toNat * 256 + c.toNat)
  | _ => be a b c d
theorem acc4_step (a b c d : UInt8) (k : Nat) (hk : k < 4) (x : UInt8) (hx : x = [a, b, c, d].getD k 0) :
    (((acc4 a b c d k).toNat : Int) * 256 + x.toNat) % 4294967296 = ((acc4 a b c d (k + 1)).toNat : Int) := by
  have ha := lt8 a; have hb := lt8 b; have hc := lt8 c; have hd := lt8 d
  subst hx
  match k, hk with
  | 0, _ => simp only [acc4]; rw [toNat_ofNat32 (by omega)]; simp; omega
  | 1, _ => simp only [acc4]; rw [toNat_ofNat32 (by omega), toNat_ofNat32 (by omega)]; simp; omega
  | 2, _ => simp only [acc4]; rw [toNat_ofNat32 (by omega), toNat_ofNat32 (by omega)]; simp; omega
  | 3, _ => simp only [acc4]; rw [toNat_ofNat32 (by omega), be_toNat]; simp; omega

theorem shr_eq (p : UInt32) (n k : Nat) (hk : k = 2 ^ n) : ((p.toNat : Int) / (k : Int) % 4294967296) = ((shr p n).toNat : Int) := by
  have h := lt32 p
  have h2 : p.toNat / k ≤ p.toNat := Nat.div_le_self _ _
  rw [shr_toNat, ← hk, ← Int.natCast_ediv]
  generalize p.toNat / k = z at *
  omega
theorem mix_eq2 (u v p q : UInt32) :
    (((u.toNat : Int) + v.toNat + bits .xor .u32 (bits .xor .u32 (rot p 7).toNat (rot p 18).toNat) ((p.toNat : Int) / 8 % 4294967296)) % 4294967296 + bits .xor .u32 (bits .xor .u32 (rot q 17).toNat (rot q 19).toNat) ((q.toNat : Int) / 1024 % 4294967296)) % 4294967296 = ((mix u v p q).toNat : Int) := by
  have e1 := shr_eq p 3 8 rfl
  have e2 := shr_eq q 10 1024 rfl
  rw [show ((8 : Nat) : Int) = 8 from rfl] at e1
  rw [show ((1024 : Nat) : Int) = 1024 from rfl] at e2
  rw [e1, e2, ← mix_eq]
  omega

set_option maxRecDepth 100000 in
set_option maxHeartbeats 1000000 in
theorem Words_any (b off cap : Nat) (bs : List UInt8) (hbs : bs.length = 64) (w : World) (hb : b < w.heap.size) (h : Sees w b off (bs.map V8)) :
    Calls Tryd.prog 52 #[.slice (some ⟨b, off, none⟩) 64 cap] w fun e w' => ∃ v, e = .returned v ∧ Own w' w.heap.size 89 v ((words bs 64).map V32) ∧ Below w.heap.size w w' := by
  have Hbs := Lib.hid hbs
  clear hbs
  go_enter Tryd.func52, Tryd.ntmps52
  go_wp2
  go_loopw [3, 4, 5, 6, 7, 8] (fun m i _ _ _ _ wr => ∃ k : Nat, k ≤ 64 ∧ i = .int .i64 k ∧ Own wr w.heap.size 89 m ((words bs k).map V32) ∧ Below w.heap.size w wr) (fun _ i _ _ _ _ _ => 64 - (intOf i).toNat)
  case atStart => exact ⟨0, by omega, rfl, Own.nil _ _ _, Below.refl _ _⟩
  case round =>
    obtain ⟨k, hk, rfl, hown, hbel⟩ := hrel
    have hsz := hbel.size
    by_cases hlt : k < 64
    · by_cases h16 : k < 16
      · have hs := h.below hbel hb
        have Hc : Hid (∀ j, j < 4 → wr.cell? ⟨b, off + (4 * k + j), none⟩ = some (.int .u8 ([bs.getD (4 * k) 0, bs.getD (4 * k + 1) 0, bs.getD (4 * k + 2) 0, bs.getD (4 * k + 3) 0].getD j 0).toNat)) := by
          intro j hj
          match j, hj with
          | 0, _ => exact at8 hs _ (by rw [Hbs.out]; omega)
          | 1, _ => exact at8 hs _ (by rw [Hbs.out]; omega)
          | 2, _ => exact at8 hs _ (by rw [Hbs.out]; omega)
          | 3, _ => exact at8 hs _ (by rw [Hbs.out]; omega)
        have HW := Lib.hid (words_head bs k h16)
        clear hs
        generalize bs.getD (4 * k) 0 = x0 at *
        generalize bs.getD (4 * k + 1) 0 = x1 at *
        generalize bs.getD (4 * k + 2) 0 = x2 at *
        generalize bs.getD (4 * k + 3) 0 = x3 at *
        have Hown := Lib.hid hown
        clear hown
        go_wp2
        go_loop [5, 6] (fun n j => ∃ i : Nat, i ≤ 4 ∧ j = .int .i64 i ∧ n = .int .u32 (acc4 x0 x1 x2 x3 i).toNat) (fun _ j => 4 - (intOf j).toNat)
        case atStart => exact ⟨0, by omega, rfl, rfl⟩
        case round =>
          obtain ⟨i, hi, rfl, rfl⟩ := hrel
          by_cases hlt4 : i < 4
          · have hc := Hc.out i hlt4
            have Hst := Lib.hid (acc4_step x0 x1 x2 x3 i hlt4 _ rfl)
            generalize [x0, x1, x2, x3].getD i 0 = x at *
            go_wp2
            go_round
            case rel => exact ⟨i + 1, by omega, by go_num, int32 (by rw [← Hst.out]; omega)⟩
            case measure => simp [intOf]; omega
          · obtain rfl : i = 4 := by omega
            rw [show ((4 : Nat) : Int) = 4 from rfl]
            have HL : Hid (((words bs k).map V32).length + 1 ≤ 100000000) := by show _ ≤ _; rw [List.length_map, words_length]; omega
            have e4 : acc4 x0 x1 x2 x3 4 = be x0 x1 x2 x3 := rfl
            rw [e4]
            generalize be x0 x1 x2 x3 = y at *
            go_wp2_with (at_builtin; refine wpList_app rfl (.tmp 69) (.tmp 71) 58 rfl w.heap.size 89 Tryd.underlying58 info32 rfl (by decide) _ ((words bs k).map V32) rfl (Hown.out.alloc _) _ [V32 y] rfl (from_new wr 89 [V32 y]) (oneC32 [y]) HL.out (by simp; omega) ?_; intro v' w1 hown1 hg1 _)
            go_roundw
            case rel =>
              refine ⟨k + 1, by omega, by go_num, ?_, ?_⟩
              · rw [HW.out, List.map_append]; exact hown1
              · exact below_app (hbel.alloc hsz _) (Hown.out.alloc _) hg1 (Nat.le_refl _) (by simp; omega)
            case measure => simp [intOf]; omega
      · have h16' : 16 ≤ k := by omega
        obtain ⟨g, cg, hv, hg1, hg2, hsee⟩ := hown.form (by rw [List.length_map, words_length]; omega)
        rw [List.length_map, words_length] at hv
        have hg : ∀ j, j < k → wr.cell? ⟨g, j, none⟩ = some (.int .u32 ((words bs k).getD j 0).toNat) := fun j hj => by
          have := at32 hsee j (by rw [words_length]; omega)
          rwa [Nat.zero_add] at this
        have HW := Lib.hid (words_tail bs k h16')
        obtain ⟨u, hu⟩ : ∃ u, u = (words bs k).getD (k - 16) 0 := ⟨_, rfl⟩
        obtain ⟨x, hx⟩ : ∃ v, v = (words bs k).getD (k - 7) 0 := ⟨_, rfl⟩
        obtain ⟨p, hp⟩ : ∃ p, p = (words bs k).getD (k - 15) 0 := ⟨_, rfl⟩
        obtain ⟨q, hq⟩ : ∃ q, q = (words bs k).getD (k - 2) 0 := ⟨_, rfl⟩
        have g16 := hg (k - 16) (by omega)
        have g7 := hg (k - 7) (by omega)
        have g15 := hg (k - 15) (by omega)
        have g2 := hg (k - 2) (by omega)
        rw [← hu, ← hx, ← hp, ← hq] at HW
        rw [← hp] at g15
        rw [← hq] at g2
        rw [← hu] at g16
        rw [← hx] at g7
        rw [hv] at hown ⊢
        have Hown := Lib.hid hown
        have HL : Hid (((words bs k).map V32).length + 1 ≤ 100000000) := by show _ ≤ _; rw [List.length_map, words_length]; omega
        clear hg hu hx hp hq hsee hv hown
        go_wp2
        go_quiet ((go_at_call 53; exact Calls.quiet_of_same (Turn_same _ _ (by decide) (by decide) _)))
        rw [mix_eq2]
        generalize mix u x p q = y at *
        go_wp2_with (at_builtin; refine wpList_app rfl (.tmp 69) (.tmp 71) 58 rfl w.heap.size 89 Tryd.underlying58 info32 rfl (by decide) _ ((words bs k).map V32) rfl ((Hown.out.drewN nq).alloc _) _ [V32 y] rfl (from_new (wr.drewN nq) 89 [V32 y]) (oneC32 [y]) HL.out (by simp; omega) ?_; intro v' w1 hown1 hgr _)
        go_roundw
        case rel =>
          refine ⟨k + 1, by omega, by go_num, ?_, ?_⟩
          · rw [HW.out, List.map_append]; exact hown1
          · exact below_app ((below_drewN hbel nq).alloc (by simpa using hsz) _) ((Hown.out.drewN nq).alloc _) hgr (Nat.le_refl _) (by simp; omega)
        case measure => simp [intOf]; omega
    · obtain rfl : k = 64 := by omega
      rw [show ((64 : Nat) : Int) = 64 from rfl]
      go_wp2
      go_ret
      exact ⟨_, rfl, hown, hbel⟩
end Go.Proofs.YtepbnimheedodaaDoor.Hm
end

section
/-
  THE WALK of the reference's Come.
-/
namespace Go.Proofs.YtepbnimheedodaaDoor.Hm
open Go.RowKit Sha

theorem sees8 {w : World} {g o : Nat} {t : St} (h : Sees w g o (t.list.map V32)) :
    w.cell? ⟨g, o, none⟩ = some (.int .u32 t.a.toNat) ∧ w.cell? ⟨g, o + 1, none⟩ = some (.int .u32 t.b.toNat) ∧ w.cell? ⟨g, o + 2, none⟩ = some (.int .u32 t.c.toNat) ∧ w.cell? ⟨g, o + 3, none⟩ = some (.int .u32 t.d.toNat) ∧
    w.cell? ⟨g, o + 4, none⟩ = some (.int .u32 t.e.toNat) ∧ w.cell? ⟨g, o + 5, none⟩ = some (.int .u32 t.f.toNat) ∧ w.cell? ⟨g, o + 6, none⟩ = some (.int .u32 t.g.toNat) ∧ w.cell? ⟨g, o + 7, none⟩ = some (.int .u32 t.h.toNat) :=
  ⟨h 0 _ rfl, h 1 _ rfl, h 2 _ rfl, h 3 _ rfl, h 4 _ rfl, h 5 _ rfl, h 6 _ rfl, h 7 _ rfl⟩

theorem quiet_again {P : Program} {f : FuncId} {args : Array Value} {w : World} {a n : Nat} {v : Value} (h : Calls P f args (w.drewN (a + n)) fun e w' => e = .returned v ∧ w' = w.drewN (a + n)) :
    Calls P f args (w.drewN (a + n)) fun e w' => e = .returned v ∧ ∃ m, w' = w.drewN (a + m) := h.mono fun _ _ k => ⟨k.1, n, k.2⟩

theorem one_eq2 (a b c d e f g h cc mm : UInt32) :
    (((h.toNat : Int) + bits .xor .u32 (bits .xor .u32 (rot e 6).toNat (rot e 11).toNat) (rot e 25).toNat + bits .xor .u32 (bits .and .u32 e.toNat f.toNat) (bits .and .u32 ((4294967295 - (e.toNat : Int)) % 4294967296) g.toNat) + cc.toNat) % 4294967296 + mm.toNat) % 4294967296
      = ((one ⟨a, b, c, d, e, f, g, h⟩ cc mm).toNat : Int) := by
  have he : ((4294967295 - (e.toNat : Int)) % 4294967296) = ((~~~e).toNat : Int) := by
    rw [sub32]
    have := lt32 (~~~e)
    generalize (~~~e).toNat = z at *
    omega
  rw [he, ← one_eq a b c d e f g h cc mm]
  omega

theorem plus_take (s t : St) (j : Nat) (hj : j < 8) : (s.plus t).list.take (j + 1) = (s.plus t).list.take j ++ [s.list.getD j 0 + t.list.getD j 0] := by
  match j, hj with
  | 0, _ => rfl
  | 1, _ => rfl
  | 2, _ => rfl
  | 3, _ => rfl
  | 4, _ => rfl
  | 5, _ => rfl
  | 6, _ => rfl
  | 7, _ => rfl

/-- An append onto a new row turns nothing old. -/
theorem by_to_below' {w1 w2 : World} {ys : Array Value} {e : TypeId} (h : (w1.alloc (.cells ys e)).grownBy w2 (Value.ownBlock (.slice (some ⟨w1.heap.size, 0, none⟩) 0 0))) : Below w1.heap.size w1 w2 :=
  ((Below.refl _ _).alloc (Nat.le_refl _) _).grown h (by simp) (fun k hk => by simp [Value.ownBlock] at hk; omega)

set_option maxRecDepth 100000 in
set_option maxHeartbeats 1000000 in
theorem Come_any (sb so sc : Nat) (s : St) (b off cap : Nat) (bs : List UInt8) (hbs : bs.length = 64) (cb co cc : Nat) (C : List UInt32) (hC : C.length = 64) (w : World)
    (hsl : sb < w.heap.size) (hs : Sees w sb so (s.list.map V32)) (hb : b < w.heap.size) (h : Sees w b off (bs.map V8)) (hcl : cb < w.heap.size) (hc : Sees w cb co (C.map V32)) :
    Calls Tryd.prog 38 #[.slice (some ⟨sb, so, none⟩) 8 sc, .slice (some ⟨b, off, none⟩) 64 cap, .slice (some ⟨cb, co, none⟩) 64 cc] w fun e w' =>
      ∃ v, e = .returned v ∧ Own w' w.heap.size 89 v ((come C s bs).list.map V32) ∧ Below w.heap.size w w' := by
  have Hbs := Lib.hid hbs
  have HC := Lib.hid hC
  clear hbs hC
  go_enter Tryd.func38, Tryd.ntmps38
  go_wp2_with fail
  refine (Words_any b off cap bs Hbs.out w hb h).mono ?_
  rintro e w1 ⟨m, rfl, hm, hb1⟩
  obtain ⟨gm, cm, hmv, hgm1, hgm2, hmsee⟩ := hm.form (by rw [List.length_map, words_length]; omega)
  rw [List.length_map, words_length] at hmv
  rw [hmv]
  clear hmv hm
  have hsz1 := hb1.size
  have hs1 := hs.below hb1 hsl
  have HF : Hid (From (w1.alloc (.cells #[] 89)) (.slice (some ⟨sb, so, none⟩) 8 sc) (s.list.map V32)) := .inr ⟨sb, so, sc, rfl, by simp; omega, hs1.alloc (by omega) _⟩
  have HO : Hid (Own (w1.alloc (.cells #[] 89)) w.heap.size 89 (.slice (some ⟨w1.heap.size, 0, none⟩) 0 0) []) := Own.lit w1 _ _ [] hsz1 (by decide)
  have H8 : Hid (([] : List Value).length + (s.list.map V32).length ≤ 100000000) := by show _ ≤ _; rw [List.length_map]; simp [St.list]
  have H1 := Lib.hid (oneC32 s.list)
  clear hs1
  go_wp2_with (at_builtin; refine wpList_app rfl (.tmp 18) (.tmp 19) 58 rfl w.heap.size 89 Tryd.underlying58 info32 rfl (by decide) _ [] rfl HO.out _ (s.list.map V32) rfl HF.out H1.out H8.out (by simp; omega) ?_; intro v2 w2 hown2 hg2 _)
  have hb2 : Below w1.heap.size w1 w2 := by_to_below' hg2
  obtain ⟨g, cg, hv, hg1, hg2l, hsee⟩ := hown2.form (by rw [List.nil_append, List.length_map]; simp [St.list])
  rw [List.nil_append] at hsee hv
  rw [List.length_map, show s.list.length = 8 from rfl] at hv
  rw [hv]
  clear hv hown2 hg2 H8 H1 HF HO
  have hsz2 := hb2.size
  have HM : Hid (Sees w2 gm 0 ((words bs 64).map V32)) := hmsee.below hb2 hgm2
  have HCs : Hid (Sees w2 cb co (C.map V32)) := (hc.below hb1 hcl).below hb2 (by omega)
  have HS : Hid (Sees w2 sb so (s.list.map V32)) := (hs.below hb1 hsl).below hb2 (by omega)
  have hbw2 : Below w.heap.size w w2 := hb1.trans (hb2.mono hsz1)
  have Hsee := Lib.hid hsee
  clear hmsee hc hs h hsee hb1 hb2
  go_loopw [8, 9, 10, 11, 12, 13] (fun v i _ _ _ _ wr => ∃ (k g cg : Nat) (a b c d e f g' h : UInt32), k ≤ 64 ∧ i = .int .i64 k ∧ v = .slice (some ⟨g, 0, none⟩) 8 cg ∧ g < wr.heap.size ∧ Hid (⟨a, b, c, d, e, f, g', h⟩ = rnds C (words bs 64) s k) ∧ Hid (Sees wr g 0 ((St.list ⟨a, b, c, d, e, f, g', h⟩).map V32)) ∧ Below w2.heap.size w2 wr) (fun _ i _ _ _ _ _ => 64 - (intOf i).toNat)
  case atStart => exact ⟨0, g, cg, _, _, _, _, _, _, _, _, by omega, rfl, rfl, hg2l, rfl, Hsee.out, Below.refl _ _⟩
  case round =>
    clear hg1 hg2l Hsee
    obtain ⟨k, g, cg, a, b, c, d, e, f, g', h, hk, rfl, rfl, hgl, Ht, Hv, hbel⟩ := hrel
    have hszr := hbel.size
    by_cases hlt : k < 64
    · have Hst : Hid (rnds C (words bs 64) s (k + 1) = rnd ⟨a, b, c, d, e, f, g', h⟩ (C.getD k 0) ((words bs 64).getD k 0)) := by rw [Ht.out]; rfl
      have gC : wr.cell? ⟨cb, co + k, none⟩ = some (.int .u32 (C.getD k 0).toNat) := at32 (HCs.out.below hbel (by omega)) k (by rw [HC.out]; exact hlt)
      have gM : wr.cell? ⟨gm, k, none⟩ = some (.int .u32 ((words bs 64).getD k 0).toNat) := by
        have := at32 (HM.out.below hbel (by omega)) k (by rw [words_length]; exact hlt)
        rwa [Nat.zero_add] at this
      obtain ⟨c0, c1, c2, c3, c4, c5, c6, c7⟩ := sees8 Hv.out
      simp only [Nat.zero_add] at c0 c1 c2 c3 c4 c5 c6 c7
      generalize C.getD k 0 = kc at *
      generalize (words bs 64).getD k 0 = mm at *
      go_wp2
      go_quiet ((go_at_call 53; exact Calls.quiet_of_same (Turn_same _ _ (by decide) (by decide) _)))
      go_wp2
      go_quiet ((go_at_call 53; exact quiet_again (Turn_same _ _ (by decide) (by decide) _)))
      go_wp2
      rw [one_eq2 a b c d e f g' h kc mm, two_eq a b c d e f g' h]
      obtain ⟨U, hU⟩ : ∃ U, U = one ⟨a, b, c, d, e, f, g', h⟩ kc mm := ⟨_, rfl⟩
      obtain ⟨T, hT⟩ : ∃ T, T = two ⟨a, b, c, d, e, f, g', h⟩ := ⟨_, rfl⟩
      rw [← hU, ← hT]
      have Hnext : Hid (rnds C (words bs 64) s (k + 1) = ⟨U + T, a, b, c, d + U, e, f, g'⟩) := by show _ = _; rw [Hst.out, hU, hT]; rfl
      clear hU hT Hst
      refine leave_wp (fun w3 => Hid (∃ n, w3 = wr.drewN n)) ⟨_, World.drewN_drewN _ _ _⟩ ?_
      intro w3 Hw3
      have hh3 : w3.heap.size = wr.heap.size := by obtain ⟨n, rfl⟩ := Hw3.out; rfl
      have d0 : w3.cell? ⟨g, 0, none⟩ = some (.int .u32 a.toNat) := by obtain ⟨n, rfl⟩ := Hw3.out; exact c0
      have d1 : w3.cell? ⟨g, 1, none⟩ = some (.int .u32 b.toNat) := by obtain ⟨n, rfl⟩ := Hw3.out; exact c1
      have d2 : w3.cell? ⟨g, 2, none⟩ = some (.int .u32 c.toNat) := by obtain ⟨n, rfl⟩ := Hw3.out; exact c2
      have d3 : w3.cell? ⟨g, 3, none⟩ = some (.int .u32 d.toNat) := by obtain ⟨n, rfl⟩ := Hw3.out; exact c3
      have d4 : w3.cell? ⟨g, 4, none⟩ = some (.int .u32 e.toNat) := by obtain ⟨n, rfl⟩ := Hw3.out; exact c4
      have d5 : w3.cell? ⟨g, 5, none⟩ = some (.int .u32 f.toNat) := by obtain ⟨n, rfl⟩ := Hw3.out; exact c5
      have d6 : w3.cell? ⟨g, 6, none⟩ = some (.int .u32 g'.toNat) := by obtain ⟨n, rfl⟩ := Hw3.out; exact c6
      have hbel3 : Below w2.heap.size w2 w3 := by obtain ⟨n, rfl⟩ := Hw3.out; exact below_drewN hbel n
      have Hh3 := Lib.hid hh3
      have hsz3 := hbel3.size
      clear c0 c1 c2 c3 c4 c5 c6 c7 gC gM hh3 hbel Hw3 Hv
      refine wp_region_still_tail 26 (by kernel_rfl) (by kernel_rfl) ?_
      change wpStill _ _ w3.drew (fun a' => wpList _ _ _ _ a' w3.drew) _ _
      simp only [List.take_succ_cons, List.take_zero, List.drop_succ_cons, List.drop_zero]
      repeat still_step
      refine wpStill_nil ?_
      go_wp2
      go_roundw
      case rel =>
        rw [add32, add32]
        exact ⟨k + 1, w3.heap.size, 8, _, _, _, _, _, _, _, _, by omega, by go_num, rfl, by simp, Hnext.out.symm, (Row.new w3 89 ((St.list ⟨U + T, a, b, c, d + U, e, f, g'⟩).map V32)).drew.sees, (hbel3.alloc hsz3 _).drew⟩
      case measure => simp [intOf]; omega
    · obtain rfl : k = 64 := by omega
      rw [show ((64 : Nat) : Int) = 64 from rfl]
      have Hend : Hid (come C s bs = s.plus ⟨a, b, c, d, e, f, g', h⟩) := by show _ = _; rw [Ht.out]; rfl
      obtain ⟨t, ht⟩ : ∃ t : St, t = ⟨a, b, c, d, e, f, g', h⟩ := ⟨_, rfl⟩
      rw [← ht] at Hend Hv
      have HSx := Lib.hid (HS.out.below hbel (by omega))
      have hbx : Below w.heap.size w wr := hbw2.trans (hbel.mono (by have := hbw2.size; omega))
      clear ht Ht hbel HS HM HCs hbw2
      obtain ⟨wx, hwx⟩ : ∃ wx : World, wx = wr := ⟨_, rfl⟩
      subst hwx
      go_wp2
      go_loopw [14, 15] (fun out i wr => ∃ j : Nat, j ≤ 8 ∧ i = .int .i64 j ∧ Own wr wx.heap.size 89 out (((s.plus t).list.take j).map V32) ∧ Below wx.heap.size wx wr) (fun _ i _ => 8 - (intOf i).toNat)
      case atStart => exact ⟨0, by omega, rfl, Own.nil _ _ _, Below.refl _ _⟩
      case round =>
        obtain ⟨j, hj, rfl, hown, hbel⟩ := hrel
        have hszr := hbel.size
        by_cases hlt8 : j < 8
        · have gS : wr.cell? ⟨sb, so + j, none⟩ = some (.int .u32 (s.list.getD j 0).toNat) := at32 (HSx.out.below hbel (by omega)) j (by simpa [St.list] using hlt8)
          have gV : wr.cell? ⟨g, j, none⟩ = some (.int .u32 (t.list.getD j 0).toNat) := by
            have := at32 (Hv.out.below hbel hgl) j (by simpa [St.list] using hlt8)
            rwa [Nat.zero_add] at this
          have HT := Lib.hid (plus_take s t j hlt8)
          have HL : Hid ((((s.plus t).list.take j).map V32).length + 1 ≤ 100000000) := by show _ ≤ _; simp [St.list]; omega
          generalize s.list.getD j 0 = x at *
          generalize t.list.getD j 0 = y at *
          have Hown := Lib.hid hown
          clear hown
          go_wp2
          go_region_law (refine step_app rfl (.tmp 125) (.tmp 135) 58 rfl wx.heap.size 89 Tryd.underlying58 info32 rfl (by decide) _ (((s.plus t).list.take j).map V32) rfl (Hown.out.alloc _).drew _ [.int .u32 (((x.toNat : Int) + y.toNat) % 4294967296)] rfl (from_new wr 89 [.int .u32 (((x.toNat : Int) + y.toNat) % 4294967296)]) (fun y hy => by rw [List.mem_singleton.1 hy]; rfl) HL.out (by simp; omega) ?_; intro v' w4 hown4 hg4 _)
          all_goals
            go_wp2
            go_roundw
            case rel =>
              rw [add32] at hown4
              refine ⟨j + 1, by omega, by go_num, ?_, ?_⟩
              · rw [HT.out, List.map_append]; exact hown4
              · exact below_app (hbel.alloc hszr _).drew (Hown.out.alloc _).drew hg4 (Nat.le_refl _) (by simp; omega)
            case measure => simp [intOf]; omega
        · obtain rfl : j = 8 := by omega
          rw [show ((8 : Nat) : Int) = 8 from rfl]
          have hfin : Hid (Own wr w.heap.size 89 u14 ((come C s bs).list.map V32)) := by
            rw [Hend.out]
            exact Own.base hown hbx.size
          clear hown
          go_wp2
          go_ret
          exact ⟨_, rfl, hfin.out, hbx.trans (hbel.mono hbx.size)⟩
end Go.Proofs.YtepbnimheedodaaDoor.Hm
end

section
/-
  THE WALK of the reference's Filled.
-/
namespace Go.Proofs.YtepbnimheedodaaDoor.Hm
open Go.RowKit Sha

/-- The last i of the 8 bytes. -/
def tailB (L : Nat) : Nat → List UInt8
  | 0 => []
  | i + 1 => UInt8.ofNat (L / 256 ^ i) :: tailB L i
theorem tailB_8 (L : Nat) : tailB L 8 = be8 L := by simp [tailB, be8]
theorem tailB_length (L i : Nat) : (tailB L i).length = i := by
  induction i with
  | zero => rfl
  | succ i ih => simp [tailB, ih]

/-- A slice's length. -/
def sliceLen : Value → Nat
  | .slice _ n _ => n
  | _ => 0

set_option maxRecDepth 100000 in
set_option maxHeartbeats 1000000 in
theorem Filled_gen (A : Option Addr) (n cap : Nat) (bs : List UInt8) (hn : bs.length = n) (hl : n ≤ 1000000) (w : World) (hA : From w (.slice A n cap) (bs.map V8)) :
    Calls Tryd.prog 37 #[.slice A n cap] w fun e w' => ∃ v, e = .returned v ∧ Own w' w.heap.size 5 v ((filled bs).map V8) ∧ Below w.heap.size w w' := by
  have HF : Hid (From (w.alloc (.cells #[] 5)) (.slice A n cap) (bs.map V8)) := hA.alloc _
  have HO : Hid (Own (w.alloc (.cells #[] 5)) w.heap.size 5 (.slice (some ⟨w.heap.size, 0, none⟩) 0 0) []) := Own.lit w _ _ [] (Nat.le_refl _) (by decide)
  have Hn := Lib.hid hn
  have H1 := Lib.hid (oneC8 bs)
  have HL : Hid (([] : List Value).length + (bs.map V8).length ≤ 100000000) := by show _ ≤ _; rw [List.length_map, hn]; simp; omega
  have HL2 : Hid ((bs.map V8).length + [V8 128].length ≤ 100000000) := by show _ ≤ _; rw [List.length_map, hn]; simp; omega
  clear hA hn
  go_enter Tryd.func37, Tryd.ntmps37
  go_wp2_with (first
    | (at_builtin; refine wpList_app rfl (.tmp 7) (.tmp 8) 22 rfl w.heap.size 5 Tryd.underlying22 info8 rfl (by decide) _ [] rfl HO.out _ (bs.map V8) rfl HF.out H1.out HL.out (by simp) ?_; intro v1 w1 hown1 hg1 _; have hb1 : Below w.heap.size w w1 := by_to_below' hg1; have hsz1 := hb1.size; rw [List.nil_append] at hown1; have HO1 := Lib.hid hown1; clear hown1 hg1)
    | (at_builtin; refine wpList_app rfl (.tmp 9) (.tmp 10) 22 rfl w.heap.size 5 Tryd.underlying22 info8 rfl (by decide) _ (bs.map V8) rfl (HO1.out.alloc _) _ [V8 128] rfl (from_new w1 5 [V8 128]) (oneC8 [128]) HL2.out (by simp; omega) ?_; intro v2 w2 hown2 hg2 _; have hb2 : Below w.heap.size w w2 := below_app (hb1.alloc hsz1 _) (HO1.out.alloc _) hg2 (Nat.le_refl _) (by simp; omega); clear hg2))
  clear HF HO H1 HL HL2 HO1 hb1 hsz1
  have e0 : bs.map V8 ++ [V8 128] = (bs ++ [128] ++ List.replicate 0 0).map V8 := by simp
  rw [e0] at hown2
  clear e0
  obtain ⟨g2, c2, hv2, _, hg2l, _⟩ := hown2.form (by simp)
  have hlen2 : ((bs ++ [128] ++ List.replicate 0 0).map V8).length = n + 1 := by simp [Hn.out]
  rw [hlen2] at hv2
  subst hv2
  obtain ⟨Z, hZ⟩ : ∃ Z, Z = (119 - n % 64) % 64 := ⟨_, rfl⟩
  have hZ1 : (n + 1 + Z) % 64 = 56 := by omega
  have hZ2 : Z < 64 := by omega
  have HZ := Lib.hid hZ
  have HZ1 := Lib.hid hZ1
  clear hZ hZ1 hlen2
  go_loopw [3] (fun v wr => ∃ j g c : Nat, j ≤ Z ∧ v = .slice (some ⟨g, 0, none⟩) (n + 1 + j) c ∧ g < wr.heap.size ∧ Own wr w.heap.size 5 v ((bs ++ [128] ++ List.replicate j 0).map V8) ∧ Below w.heap.size w wr) (fun v _ => n + 1 + Z - sliceLen v)
  case atStart => exact ⟨0, g2, c2, by omega, rfl, hg2l, hown2, hb2⟩
  case round =>
    obtain ⟨j, g, c, hj, hv, hgl, hown, hbel⟩ := hrel
    have hsz := hbel.size
    by_cases hlt : j < Z
    · have hne : (((n : Int) + 1 + j) % 64 != 56) = true := by have := HZ1.out; rw [bne_iff_ne]; omega
      have HL : Hid (((bs ++ [128] ++ List.replicate j 0).map V8).length + [V8 0].length ≤ 100000000) := by show _ ≤ _; simp [Hn.out]; omega
      have Hown := Lib.hid hown
      have HV := Lib.hid hv
      clear hown
      rw [hv]
      clear hv
      go_wp2_with (at_builtin; refine wpList_app rfl (.tmp 16) (.tmp 17) 22 rfl w.heap.size 5 Tryd.underlying22 info8 rfl (by decide) _ _ rfl ((HV.out ▸ Hown.out).alloc _) _ [V8 0] rfl (from_new wr 5 [V8 0]) (oneC8 [0]) HL.out (by simp; omega) ?_; intro v' w3 hown3 hg3 _)
      have e1 : (bs ++ [128] ++ List.replicate j 0).map V8 ++ [V8 0] = (bs ++ [128] ++ List.replicate (j + 1) 0).map V8 := by
        rw [List.replicate_succ', ← List.append_assoc, List.map_append (l₂ := [(0 : UInt8)])]; rfl
      rw [e1] at hown3
      clear e1
      have hl3 : ((bs ++ [128] ++ List.replicate (j + 1) (0 : UInt8)).map V8).length = n + 1 + (j + 1) := by simp [Hn.out]; omega
      obtain ⟨g3, c3, hv3, _, hg3l, _⟩ := hown3.form (by rw [hl3]; omega)
      rw [hl3] at hv3
      subst hv3
      go_roundw
      case rel => exact ⟨j + 1, g3, c3, by omega, rfl, hg3l, hown3, below_app (hbel.alloc hsz _) ((HV.out ▸ Hown.out).alloc _) hg3 (Nat.le_refl _) (by simp; omega)⟩
      case measure => simp [sliceLen]; omega
    · obtain rfl : j = Z := by omega
      have hne : (((n : Int) + 1 + j) % 64 != 56) = false := by
        have := HZ1.out
        rw [Bool.eq_false_iff, Ne, bne_iff_ne, Decidable.not_not]; omega
      have HX : Hid (bs ++ [128] ++ List.replicate j 0 ++ be8 (8 * n) = filled bs) := by show _ = _; rw [filled, Hn.out, HZ.out]
      generalize hxs : bs ++ [128] ++ List.replicate j 0 = xs at *
      have HXL : Hid (xs.length = n + 1 + j) := by show _ = _; rw [← hxs]; simp [Hn.out]; omega
      rw [hv] at hown ⊢
      have Hown := Lib.hid hown
      clear hown hv hxs HZ HZ1
      obtain ⟨wx, hwx⟩ : ∃ wx : World, wx = wr := ⟨_, rfl⟩
      subst hwx
      go_wp2
      go_loopw [4, 5, 6] (fun y v i wr => ∃ k X : Nat, k ≤ 8 ∧ i = .int .i64 k ∧ y = .int .u64 X ∧ Hid (X = 8 * n / 256 ^ k) ∧ Own wr wx.heap.size 5 v ((tailB (8 * n) k).map V8) ∧ Below wx.heap.size wx wr) (fun _ _ i _ => 8 - (intOf i).toNat)
      case atStart =>
        refine ⟨0, n * 8, by omega, rfl, by go_num, ?_, Own.nil _ _ _, Below.refl _ _⟩
        show _ = _
        rw [Nat.pow_zero, Nat.div_one, Nat.mul_comm]
      case round =>
        obtain ⟨k, X, hk, rfl, rfl, HXk, hown5, hbel5⟩ := hrel
        have hsz5 := hbel5.size
        by_cases hlt8 : k < 8
        · have hXb : X ≤ 8 * n := by rw [HXk.out]; exact Nat.div_le_self _ _
          have HO5 := Lib.hid hown5
          have HT : Hid (tailB (8 * n) (k + 1) = UInt8.ofNat X :: tailB (8 * n) k) := by show _ = _; rw [HXk.out]; rfl
          have HL5 : Hid ([Value.int .u8 ((X : Int) % 256)].length + ((tailB (8 * n) k).map V8).length ≤ 100000000) := by show _ ≤ _; simp [tailB_length]; omega
          clear hown5
          go_wp2_with (at_builtin; refine wpList_app rfl (.tmp 30) (.tmp 31) 22 rfl wx.heap.size 5 Tryd.underlying22 info8 rfl (by decide) _ [.int .u8 ((X : Int) % 256)] rfl (Own.lit wr wx.heap.size 5 [.int .u8 ((X : Int) % 256)] hsz5 (by simp)) _ ((tailB (8 * n) k).map V8) rfl (HO5.out.alloc _).from_ (oneC8 _) HL5.out (by simp; omega) ?_; intro v6 w6 hown6 hg6 _)
          go_roundw
          case rel =>
            rw [byte_eq] at hown6
            refine ⟨k + 1, X / 256, by omega, by go_num, by go_num, ?_, ?_, ?_⟩
            · show _ = _; rw [HXk.out, Nat.div_div_eq_div_mul, Nat.pow_succ]
            · rw [HT.out]; exact hown6
            · exact (hbel5.alloc hsz5 _).grown hg6 (by simp; omega) (fun i hi => by have h : some wr.heap.size = some i := hi; cases h; exact hsz5)
          case measure => simp [intOf]; omega
        · obtain rfl : k = 8 := by omega
          rw [show ((8 : Nat) : Int) = 8 from rfl]
          rw [tailB_8] at hown5
          have HO5 := Lib.hid hown5
          have HOx : Hid (Own wr w.heap.size 5 (.slice (some ⟨g, 0, none⟩) (n + 1 + j) c) (xs.map V8)) := Own.below Hown.out hbel5 (Nat.le_refl _)
          have HLx : Hid ((xs.map V8).length + ((be8 (8 * n)).map V8).length ≤ 100000000) := by show _ ≤ _; rw [List.length_map, List.length_map, HXL.out]; simp [be8]; omega
          have hbx : Below w.heap.size w wr := hbel.trans (hbel5.mono hsz)
          clear hown5 HXk
          go_wp2_with (at_builtin; refine wpList_app rfl (.tmp 35) (.tmp 36) 22 rfl w.heap.size 5 Tryd.underlying22 info8 rfl (by decide) _ (xs.map V8) rfl HOx.out _ ((be8 (8 * n)).map V8) rfl HO5.out.from_ (oneC8 _) HLx.out hbx.size ?_; intro v7 w7 hown7 hg7 _)
          go_ret
          refine ⟨_, rfl, ?_, below_app hbx HOx.out hg7 (Nat.le_refl _) hbx.size⟩
          rw [← HX.out, List.map_append]
          exact hown7
end Go.Proofs.YtepbnimheedodaaDoor.Hm
end

section
/-
  THE WALK of the reference's Summed.
-/
namespace Go.Proofs.YtepbnimheedodaaDoor.Hm
open Go.RowKit Sha

theorem four_eq (x : UInt32) :
    [Value.int .u8 ((x.toNat : Int) / 16777216 % 4294967296 % 256), .int .u8 ((x.toNat : Int) / 65536 % 4294967296 % 256), .int .u8 ((x.toNat : Int) / 256 % 4294967296 % 256), .int .u8 ((x.toNat : Int) % 256)] = (b4 x).map V8 := by
  have h := lt32 x
  have e1 := byte_eq' x.toNat 16777216
  have e2 := byte_eq' x.toNat 65536
  have e3 := byte_eq' x.toNat 256
  have e4 := byte_eq x.toNat
  simp only [b4, List.map_cons, List.map_nil, V8]
  rw [← e1, ← e2, ← e3, ← e4]
  have h1 : ((x.toNat : Int) / 16777216 % 4294967296) = (x.toNat : Int) / 16777216 := by omega
  have h2 : ((x.toNat : Int) / 65536 % 4294967296) = (x.toNat : Int) / 65536 := by omega
  have h3 : ((x.toNat : Int) / 256 % 4294967296) = (x.toNat : Int) / 256 := by omega
  rw [h1, h2, h3]
  rfl

theorem cell_app {w w' : World} {B : Nat} {e : TypeId} {v : Value} {ys : List Value} {p : Addr} {u : Value} (h : Own w B e v ys) (hg : w.grownBy w' v.ownBlock) (hB : B ≤ w.heap.size) (hp : p.block < B) (hc : w.cell? p = some u) : w'.cell? p = some u :=
  (World.cell?_of_block (w := w) (hg.block p.block (by omega) (fun e => by have := (h.lt e.symm).1; omega))).trans hc

set_option maxRecDepth 100000 in
set_option maxHeartbeats 1000000 in
theorem Summed_gen (A : Option Addr) (n cap : Nat) (bs : List UInt8) (hn : bs.length = n) (hl : n ≤ 1000000) (rb ro rc : Nat) (s : St) (cb co cc : Nat) (C : List UInt32) (hC : C.length = 64) (w : World)
    (hA : From w (.slice A n cap) (bs.map V8))
    (hrl : rb < w.heap.size) (hr : Sees w rb ro (s.list.map V32)) (hcl : cb < w.heap.size) (hc : Sees w cb co (C.map V32)) :
    Calls Tryd.prog 23 #[.slice A n cap, .slice (some ⟨rb, ro, none⟩) 8 rc, .slice (some ⟨cb, co, none⟩) 64 cc] w fun e w' =>
      ∃ v, e = .returned v ∧ Own w' w.heap.size 5 v ((dig (run C s (filled bs) ((filled bs).length / 64))).map V8) ∧ Below w.heap.size w w' := by
  have HC := Lib.hid hC
  have HLf := Lib.hid (filled_length bs)
  have HMf := Lib.hid (filled_mod bs)
  clear hC
  go_enter Tryd.func23, Tryd.ntmps23
  go_wp2_with fail
  refine (Filled_gen A n cap bs hn hl w hA).mono ?_
  rintro e w1 ⟨v1, rfl, hown1, hb1⟩
  obtain ⟨La, hLa⟩ : ∃ La, La = (filled bs).length := ⟨_, rfl⟩
  rw [← hLa] at HLf HMf
  have hLa1 : La ≤ 1000200 := by rw [HLf.out, hn]; omega
  have hLa2 : 0 < La := by rw [HLf.out]; omega
  obtain ⟨ga, ca, hv, _, hgal, hca, hsee⟩ := hown1.form_cap (by rw [List.length_map, ← hLa]; exact hLa2)
  rw [List.length_map, ← hLa] at hv hca
  rw [hv]
  have HLa := Lib.hid hLa
  have hsz1 := hb1.size
  have HX : Hid (Sees w1 ga 0 ((filled bs).map V8)) := hsee
  have HR : Hid (Sees w1 rb ro (s.list.map V32)) := hr.below hb1 hrl
  have HCs : Hid (Sees w1 cb co (C.map V32)) := hc.below hb1 hcl
  clear hA hr hc hown1 hv hsee hLa HLf hn
  go_wp2
  go_loopw [7, 9] (fun v i wr => ∃ k sb so sc : Nat, 64 * k ≤ La ∧ i = .int .i64 ((64 * k : Nat) : Int) ∧ v = .slice (some ⟨sb, so, none⟩) 8 sc ∧ sb < wr.heap.size ∧ Hid (Sees wr sb so ((run C s (filled bs) k).list.map V32)) ∧ Below w1.heap.size w1 wr) (fun _ i _ => La - (intOf i).toNat)
  case atStart => exact ⟨0, rb, ro, rc, by omega, rfl, rfl, by omega, HR.out, Below.refl _ _⟩
  case round =>
    obtain ⟨k, sb, so, sc, hk, rfl, rfl, hsl, Hs, hbel⟩ := hrel
    have hsz := hbel.size
    by_cases hlt : 64 * k < La
    · have hk64 : 64 * k + 64 ≤ La := by have := HMf.out; omega
      have Hpl : Hid ((((filled bs).drop (64 * k)).take 64).length = 64) := by show _ = _; rw [List.length_take, List.length_drop, ← HLa.out]; omega
      have HP : Hid (Sees wr ga (64 * k) ((((filled bs).drop (64 * k)).take 64).map V8)) := by
        have h2 := (HX.out.below hbel hgal).piece (64 * k) 64
        rwa [← List.map_drop, ← List.map_take, Nat.zero_add] at h2
      have Hrun : Hid (run C s (filled bs) (k + 1) = come C (run C s (filled bs) k) (((filled bs).drop (64 * k)).take 64)) := rfl
      generalize run C s (filled bs) k = sk at *
      generalize ((filled bs).drop (64 * k)).take 64 = piece at *
      have hkc : 64 * k < ca := by omega
      have hkc2 : 64 * k + 64 ≤ ca := by omega
      go_wp2_with fail
      refine (Come_any sb so sc sk ga _ _ piece Hpl.out cb co cc C HC.out wr hsl Hs.out (by omega) HP.out (by omega) (HCs.out.below hbel (by omega))).mono ?_
      rintro e w2 ⟨v2, rfl, hown2, hb2⟩
      obtain ⟨g2, c2, hv2, _, hg2l, hsee2⟩ := hown2.form (by simp [St.list])
      rw [show ((come C sk piece).list.map V32).length = 8 from rfl] at hv2
      rw [hv2]
      clear hown2 hv2
      go_wp2
      go_roundw
      case rel => exact ⟨k + 1, g2, 0, c2, by omega, by go_num, rfl, hg2l, by rw [Hrun.out]; exact hsee2, hbel.trans (hb2.mono hsz)⟩
      case measure => simp [intOf]; omega
    · have hk2 : k = La / 64 := by omega
      have Hfin : Hid (run C s (filled bs) ((filled bs).length / 64) = run C s (filled bs) k) := by show _ = _; rw [← HLa.out, hk2]
      generalize run C s (filled bs) k = t at *
      have hbx : Below w.heap.size w wr := hb1.trans (hbel.mono hsz1)
      obtain ⟨wx, hwx⟩ : ∃ wx : World, wx = wr := ⟨_, rfl⟩
      subst hwx
      clear hbel HX HR HCs hk2
      obtain ⟨q, hq⟩ : ∃ q, q = 64 * k := ⟨_, rfl⟩
      rw [← hq] at hlt ⊢
      clear hq
      go_wp2
      go_loopw [10, 11] (fun out i wr => ∃ j : Nat, j ≤ 8 ∧ i = .int .i64 j ∧ Own wr wx.heap.size 5 out ((bytesOf (t.list.take j)).map V8) ∧ Below wx.heap.size wx wr) (fun _ i _ => 8 - (intOf i).toNat)
      case atStart => exact ⟨0, by omega, rfl, Own.nil _ _ _, Below.refl _ _⟩
      case round =>
        obtain ⟨j, hj, rfl, hown, hbel⟩ := hrel
        have hszr := hbel.size
        by_cases hlt8 : j < 8
        · have gS : wr.cell? ⟨sb, so + j, none⟩ = some (.int .u32 (t.list.getD j 0).toNat) := at32 (Hs.out.below hbel hsl) j (by simpa [St.list] using hlt8)
          have HT := Lib.hid (list_take_succ t j hlt8)
          have HF4 := Lib.hid (four_eq (t.list.getD j 0))
          have HL : Hid (((bytesOf (t.list.take j)).map V8).length + 4 ≤ 100000000) := by show _ ≤ _; rw [List.length_map, bytesOf_length]; simp [St.list]; omega
          generalize t.list.getD j 0 = x at *
          have Hown := Lib.hid hown
          clear hown
          go_wp2
          have gS0 : wr.drew.cell? ⟨sb, so + j, none⟩ = some (.int .u32 x.toNat) := gS
          have gS1 : ∀ o, (wr.alloc o).drew.cell? ⟨sb, so + j, none⟩ = some (.int .u32 x.toNat) := fun o => (World.cell?_alloc_lt wr o _ (by show sb < _; omega)).trans gS
          go_region_held3 (fun w' => w'.cell? ⟨sb, so + j, none⟩ = some (.int .u32 x.toNat)) (first | exact gS0 | exact gS1 _ | exact gS4)
            (first | (refine step_app rfl (.tmp 33) (.tmp 57) 22 rfl wx.heap.size 5 Tryd.underlying22 info8 rfl (by decide) _ ((bytesOf (t.list.take j)).map V8) rfl (Hown.out.alloc _).drew _ [.int .u8 ((x.toNat : Int) / 16777216 % 4294967296 % 256), .int .u8 ((x.toNat : Int) / 65536 % 4294967296 % 256), .int .u8 ((x.toNat : Int) / 256 % 4294967296 % 256), .int .u8 ((x.toNat : Int) % 256)] rfl (from_new wr 5 [.int .u8 ((x.toNat : Int) / 16777216 % 4294967296 % 256), .int .u8 ((x.toNat : Int) / 65536 % 4294967296 % 256), .int .u8 ((x.toNat : Int) / 256 % 4294967296 % 256), .int .u8 ((x.toNat : Int) % 256)]) (HF4.out ▸ oneC8 _) HL.out (by simp; omega) ?_; intro v' w4 hown4 hg4 _; have gS4 : w4.cell? ⟨sb, so + j, none⟩ = some (.int .u32 x.toNat) := cell_app (Hown.out.alloc _).drew hg4 (by simp; omega) (by show sb < _; omega) (gS1 _)))
          all_goals
            go_wp2
            go_roundw
            case rel =>
              rw [HF4.out] at hown4
              refine ⟨j + 1, by omega, by go_num, ?_, ?_⟩
              · rw [HT.out, bytesOf_snoc, List.map_append]; exact hown4
              · exact below_app (hbel.alloc hszr _).drew (Hown.out.alloc _).drew hg4 (Nat.le_refl _) (by simp; omega)
            case measure => simp [intOf]; omega
        · obtain rfl : j = 8 := by omega
          rw [show ((8 : Nat) : Int) = 8 from rfl]
          have hfin : Hid (Own wr w.heap.size 5 u10 ((dig (run C s (filled bs) ((filled bs).length / 64))).map V8)) := by
            rw [Hfin.out]
            exact Own.base hown hbx.size
          clear hown
          go_wp2
          go_ret
          exact ⟨_, rfl, hfin.out, hbx.trans (hbel.mono hbx.size)⟩
end Go.Proofs.YtepbnimheedodaaDoor.Hm
end
