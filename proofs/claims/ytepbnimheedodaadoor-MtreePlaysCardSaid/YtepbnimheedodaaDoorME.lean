/-
  THE WALK of the reference's Rows: every row, from the one with its zeros up to the root.
-/
import Derived.Test.YtepbnimheedodaaDoorMD
namespace Go.Proofs.YtepbnimheedodaaDoor
open Go.RowKit Mk

/-- The first i + 1 rows. -/
def rowsTo (key : Tg) (r0 : List Tg) (i : Nat) : List (List Tg) := (List.range (i + 1)).map (lev key r0)
theorem rowsTo_length (key : Tg) (r0 : List Tg) (i : Nat) : (rowsTo key r0 i).length = i + 1 := by simp [rowsTo]
theorem rowsTo_succ (key : Tg) (r0 : List Tg) (i : Nat) : rowsTo key r0 (i + 1) = rowsTo key r0 i ++ [lev key r0 (i + 1)] := by
  rw [rowsTo, List.range_succ, List.map_append]; rfl
theorem rowsTo_at (key : Tg) (r0 : List Tg) (i j : Nat) (h : j ≤ i) : (rowsTo key r0 i)[j]? = some (lev key r0 j) := by
  rw [rowsTo, List.getElem?_map, List.getElem?_range (by omega)]; rfl
theorem ups_snoc (key : Tg) (l : List Tg) (k : Nat) (h : 4 * k + 4 ≤ l.length) : (ups key l).take (k + 1) = (ups key l).take k ++ [node key ((l.drop (4 * k)).take 4)] := by
  have hk : k < (ups key l).length := by rw [ups_length]; omega
  rw [List.take_succ_eq_append_getElem hk]
  congr 2
  simp [ups]
theorem sees_four {W : World} {b o : Nat} {l : List Tg} (h : Sees W b o (l.map VS)) (i : Nat) : Sees W b (o + i) (((l.drop i).take 4).map VS) := by
  have := h.piece i 4
  rwa [← List.map_drop, ← List.map_take] at this
/-- x[a : a + 4] of a row of strings. -/
theorem cut_four (b o n c a : Nat) (h : a + 4 ≤ c) (W : World) : (Instr.sliceAt 38 (.slice (some ⟨b, o, none⟩) n c) (some (.int .i64 (a : Int))) (some (.int .i64 ((a : Int) + 4))) none).run Tryd.prog W = .ok (.slice (some ⟨b, o + a, none⟩) 4 (c - a)) W := by
  have hu : Tryd.prog.underlying 38 = some (.slice (Tryd.prog.elem 38)) := by kernel_rfl
  have hs : (sizeOf (Tryd.prog.elem 38)).run Tryd.prog W = .ok 1 W := by kernel_rfl
  rw [run_sliceAt_slice W _ _ _ _ _ hu, run_slice_lh W _ (some ⟨b, o, none⟩) n c hu .i64 .i64 (a : Int) ((a : Int) + 4) (by omega) (by omega) (by omega), hs]
  have e1 : (a : Int).toNat = a := Int.toNat_natCast a
  have e2 : ((a : Int) + 4).toNat = a + 4 := by omega
  simp only [Result.andThen_ok, sliced, e1, e2]
  rw [if_neg (by omega), Option.map_some, add_off, Nat.mul_one, show a + 4 - a = 4 by omega]

theorem Rowed.base {α : Type} {f : α → Value} {e : TypeId} {B B' : Nat} {W : World} {v : Value} {ps : List (List α)} (h : Rowed f e B W v ps) (hB : B' ≤ B) : Rowed f e B' W v ps := by
  obtain ⟨vs, ho, r⟩ := h
  exact ⟨vs, ho.base hB, r⟩

set_option maxRecDepth 100000 in
set_option maxHeartbeats 2000000 in
theorem RMRows_any (pm : Value) (key : Tg) (l : List Tg) (h32 : ∀ t ∈ l, t.length = 32) (hl : l.length ≤ 100) (x : Value) (w : World) (hK : Hm.KeyAt w pm key) (hx : From w x (l.map VS)) :
    Calls Tryd.prog 30 #[pm, x] w fun e w' => (∃ (h : Nat) (r : Value), Hid (IsH l.length h) ∧ h ≤ 9 ∧ e = .returned r ∧ Hid (Rowed VS 38 w.heap.size w' r (rowsTo key (full l h) h))) ∧ Below w.heap.size w w' := by
  obtain ⟨gm, rb, rc, cb, cc, rfl, hin⟩ := hK.named
  obtain ⟨A, cap, rfl, hsx⟩ := hx.parts
  rw [List.length_map] at hsx hx ⊢
  obtain ⟨n, hnl⟩ : ∃ n, n = l.length := ⟨_, rfl⟩
  rw [← hnl] at hl hx ⊢
  have HNl := Lib.hid hnl
  have HK := Lib.hid hK
  have HX := Lib.hid hx
  have H32 := Lib.hid h32
  clear hin hsx hnl hK hx h32
  go_enter Tryd.func30, Tryd.ntmps30
  go_wp2_with fail
  refine (RMWhole_any n (by omega) w).mono ?_
  rintro e w1 ⟨⟨h, N, HH, h9, HN, rfl⟩, hb1⟩
  have hnN : n ≤ N := by
    have h1 := HH.out.2.1
    have h2 := pow_int h
    rw [← HN.out] at h2
    omega
  have hN9 : N ≤ 262144 := by
    have h3 : (4 ^ 9 : Nat) = 262144 := by decide
    rw [HN.out, ← h3]
    exact Nat.pow_le_pow_right (by omega) h9
  have HX1 := Lib.hid (HX.out.below hb1)
  have HK1 := Lib.hid (HK.out.below hb1)
  have HB1 := Lib.hid hb1
  have hs1 := hb1.size
  obtain ⟨wD, hwD⟩ : ∃ wD, wD = w1.alloc (.cells #[] 9) := ⟨_, rfl⟩
  have HBD : Hid (Below w1.heap.size w1 wD) := by rw [hwD]; exact (Below.refl _ _).alloc (Nat.le_refl _) _
  have HLD : Hid (Own wD w1.heap.size 9 (.slice (some ⟨w1.heap.size, 0, none⟩) 0 0) ([] : List Value)) := by rw [hwD]; exact Own.lit w1 w1.heap.size 9 [] (Nat.le_refl _) (by simp)
  have HXD := Lib.hid (HX1.out.below HBD.out)
  have hszD : w1.heap.size ≤ wD.heap.size := HBD.out.size
  have HLn : Hid (([] : List Value).length + (l.map VS).length ≤ 1000000) := by show _ ≤ _; rw [List.length_map, ← HNl.out]; simp; omega
  clear hb1 HX HK HX1
  go_wp2_with (at_builtin; rw [← hwD]; refine wpList_appT rfl (.tmp 18) (.tmp 19) 38 rfl w1.heap.size 9 Tryd.underlying38 infoStr rfl (by decide) _ [] rfl HLD.out _ (l.map VS) rfl HXD.out (oneStr _) HLn.out hszD ?_; intro v2 w2 hown hg _; rw [List.nil_append] at hown; have HO2 := Lib.hid hown; have HB2 : Hid (Below w1.heap.size w1 w2) := below_app HBD.out HLD.out hg (Nat.le_refl _) hszD; clear hown hg)
  clear hwD HBD HLD HXD hszD HLn
  have HK2 := Lib.hid (HK1.out.below HB2.out)
  obtain ⟨A2, c2, rfl⟩ := own_shape HO2.out
  rw [List.length_map, ← HNl.out] at HO2 ⊢
  go_loopw [7] (fun v wr => ∃ j : Nat, n + j ≤ N ∧ Hid (∃ A c, v = .slice A (n + j) c) ∧ Hid (Own wr w1.heap.size 9 v ((l ++ List.replicate j zero).map VS)) ∧ Hid (Below w1.heap.size w1 wr)) (fun v _ => N - (match v with | .slice _ m _ => m | _ => 0))
  case atStart => exact ⟨0, hnN, ⟨_, _, rfl⟩, by show Own _ _ _ _ _; simpa using HO2.out, HB2⟩
  case round =>
    obtain ⟨j, hj, Hsh, HO, HB⟩ := hrel
    clear HO2 HB2
    obtain ⟨A3, c3, rfl⟩ := Hsh.out
    have hsr := HB.out.size
    by_cases hlt : n + j < N
    · have HLn : Hid (((l ++ List.replicate j zero).map VS).length + [VS zero].length ≤ 1000000) := by show _ ≤ _; rw [List.length_map, List.length_append, List.length_replicate, ← HNl.out]; simp; omega
      go_wp2_with fail
      refine (RMZero_any wr).mono ?_
      rintro e w3 ⟨rfl, hb3⟩
      have HO3 := Lib.hid (HO.out.below hb3 (Nat.le_refl _))
      have HB3 := Lib.hid (HB.out.trans (hb3.mono hsr))
      have hs3 := HB3.out.size
      have HOa := Lib.hid (HO3.out.alloc (.cells #[VS zero] 9))
      clear HO HB hb3 HO3 Hsh
      go_wp2_with (at_builtin; refine wpList_appT rfl (.tmp 25) (.tmp 27) 38 rfl w1.heap.size 9 Tryd.underlying38 infoStr rfl (by decide) _ ((l ++ List.replicate j zero).map VS) rfl HOa.out _ [VS zero] rfl (from_new w3 9 [VS zero]) (oneStr [zero]) HLn.out (by simp; omega) ?_; intro v4 w4 hown hg _)
      go_roundw
      case rel =>
        refine ⟨j + 1, by omega, ?_, ?_, ?_⟩
        · obtain ⟨A, c, e⟩ := own_shape hown
          refine ⟨A, c, ?_⟩
          rw [e, List.length_append, List.length_map, List.length_append, List.length_replicate, ← HNl.out]; rfl
        · show Own _ _ _ _ _
          rw [List.replicate_succ', ← List.append_assoc, List.map_append]; exact hown
        · exact below_app (HB3.out.alloc hs3 _) HOa.out hg (Nat.le_refl _) (by simp; omega)
      case measure =>
        obtain ⟨A, c, e⟩ := own_shape hown
        rw [e, List.length_append, List.length_map, List.length_append, List.length_replicate, ← HNl.out]
        simp; omega
    · have hjN : n + j = N := by omega
      obtain ⟨R0, HR0⟩ : ∃ R, Hid (R = full l h) := ⟨_, rfl⟩
      have eR : l ++ List.replicate j zero = R0 := by rw [HR0.out, full, ← HN.out, ← HNl.out, show N - n = j by omega]
      rw [eR] at HO
      have HRl : Hid (R0.length = N) := by show _ = _; rw [← eR, List.length_append, List.length_replicate, ← HNl.out]; exact hjN
      have HR32 : Hid (∀ t ∈ R0, t.length = 32) := by rw [HR0.out]; exact full_32 l h H32.out
      have hN1 : 1 ≤ N := by rw [HN.out]; exact Nat.pow_pos (by omega)
      obtain ⟨g0, c0, e0, hg0, hgl0, hc0, hs0⟩ := HO.out.form_cap (by rw [List.length_map, HRl.out]; omega)
      rw [List.length_map, HRl.out] at e0 hc0
      rw [hjN] at e0 ⊢
      rw [e0]
      have HS0 := Lib.hid hs0
      have hal := Joins.below_alloc1 wr (.cells #[.slice (some ⟨g0, 0, none⟩) N c0] 38)
      have HW5 : Hid (Rowed VS 38 w1.heap.size (wr.alloc (.cells #[.slice (some ⟨g0, 0, none⟩) N c0] 38)) (.slice (some ⟨wr.heap.size, 0, none⟩) 1 1) (rowsTo key R0 0)) := by
        refine ⟨_, Own.lit wr w1.heap.size 38 [.slice (some ⟨g0, 0, none⟩) N c0] hsr (by simp), rfl, fun q u p hu hp => ?_⟩
        match q with
        | 0 =>
          rw [rowsTo_at key R0 0 0 (Nat.le_refl _)] at hp
          simp only [List.getElem?_cons_zero, Option.some.injEq] at hu hp
          subst hu hp
          exact ⟨g0, 0, c0, by rw [lev, HRl.out], by rw [lev, HRl.out]; exact hc0, by simp; omega, by show some _ ≠ some _; simp; omega, HS0.out.below hal hgl0⟩
        | q + 1 => simp at hu
      have HV5 : Hid (∃ b o c, Value.slice (some ⟨g0, 0, none⟩) N c0 = .slice (some ⟨b, o, none⟩) (lev key R0 0).length c ∧ (lev key R0 0).length ≤ c ∧ b < (wr.alloc (.cells #[.slice (some ⟨g0, 0, none⟩) N c0] 38)).heap.size ∧ Sees (wr.alloc (.cells #[.slice (some ⟨g0, 0, none⟩) N c0] 38)) b o ((lev key R0 0).map VS)) :=
        ⟨g0, 0, c0, by rw [lev, HRl.out], by rw [lev, HRl.out]; exact hc0, by simp; omega, HS0.out.below hal hgl0⟩
      have HB5 : Hid (Below w1.heap.size w1 (wr.alloc (.cells #[.slice (some ⟨g0, 0, none⟩) N c0] 38))) := HB.out.trans (hal.mono hsr)
      clear HO HB hs0 hal eR e0 Hsh
      go_wp2
      generalize wr.alloc (.cells #[.slice (some ⟨g0, 0, none⟩) N c0] 38) = w5 at *
      go_loopw [7, 8, 9] (fun v7 v8 i wk => ∃ k : Nat, k ≤ h ∧ i = .int .i64 k ∧ Hid (∃ b o c, v7 = .slice (some ⟨b, o, none⟩) (lev key R0 k).length c ∧ (lev key R0 k).length ≤ c ∧ b < wk.heap.size ∧ Sees wk b o ((lev key R0 k).map VS)) ∧ Hid (Rowed VS 38 w1.heap.size wk v8 (rowsTo key R0 k)) ∧ Hid (Below w1.heap.size w1 wk)) (fun _ _ i _ => 10 - (intOf i).toNat)
      case atStart => exact ⟨0, by omega, rfl, HV5, HW5, HB5⟩
      case round =>
        obtain ⟨k, hk, rfl, Hv, HW, HB⟩ := hrel
        clear HV5 HW5 HB5 HS0
        obtain ⟨b, o, c, rfl, hc, hb, hse⟩ := Hv.out
        generalize wr = wq at *
        have hsq := HB.out.size
        by_cases hlt2 : k < h
        · obtain ⟨L, HL⟩ : ∃ L, Hid (L = lev key R0 k) := ⟨_, rfl⟩
          obtain ⟨m, hm⟩ : ∃ m, m = 4 ^ (h - (k + 1)) := ⟨_, rfl⟩
          have hLl : L.length = 4 * m := by
            rw [HL.out, lev_length key R0 h (by rw [HRl.out, HN.out]) k (by omega), hm, show h - k = (h - (k + 1)) + 1 by omega, Nat.pow_succ]; omega
          have hm1 : 1 ≤ m := by rw [hm]; exact Nat.pow_pos (by omega)
          have hm9 : m ≤ 262144 := by
            have h3 : (4 ^ 9 : Nat) = 262144 := by decide
            rw [hm, ← h3]
            exact Nat.pow_le_pow_right (by omega) (by omega)
          have HL32 : Hid (∀ t ∈ L, t.length = 32) := by rw [HL.out]; exact lev_32 key R0 HR32.out k
          have Hup : Hid (lev key R0 (k + 1) = ups key L) := by show _ = _; rw [HL.out]; rfl
          have Hul : Hid ((ups key L).length = m) := by show _ = _; rw [ups_length, hLl]; omega
          rw [← HL.out] at hc hse ⊢
          rw [hLl] at hc ⊢
          have HLl := Lib.hid hLl
          have HSe := Lib.hid hse
          have HKq := Lib.hid (HK1.out.below HB.out)
          clear hLl hm hse Hv
          go_wp2
          go_loopw [10, 11] (fun v a wk => ∃ (q A : Nat), q ≤ m ∧ Hid (A = 4 * q) ∧ a = .int .i64 (A : Int) ∧ Hid (Own wk wq.heap.size 9 v (((ups key L).take q).map VS)) ∧ Hid (Below wq.heap.size wq wk)) (fun _ a _ => 4 * m - (intOf a).toNat)
          case atStart => exact ⟨0, 0, by omega, rfl, rfl, Own.nil _ _ _, Below.refl _ _⟩
          case round =>
            obtain ⟨q, A, hq, HA, rfl, HO, HBk⟩ := hrel
            have hA4 : A ≤ 4 * m := by have := HA.out; omega
            have hsk := HBk.out.size
            by_cases hlt3 : q < m
            · have hAm : A + 4 ≤ 4 * m := by have := HA.out; omega
              have hsl := fun W => cut_four b o (4 * m) c A (by omega) W
              have HSf : Hid (Sees wr b (o + A) (((L.drop A).take 4).map VS)) := sees_four (HSe.out.below HBk.out hb) A
              have HK3 := Lib.hid (HKq.out.below HBk.out)
              have Hf4 : Hid (((L.drop A).take 4).length = 4) := by show _ = _; rw [List.length_take, List.length_drop, HLl.out]; omega
              have Hsn : Hid ((ups key L).take (q + 1) = (ups key L).take q ++ [node key ((L.drop A).take 4)]) := by
                show _ = _
                rw [HA.out, ups_snoc key L q (by rw [HLl.out]; omega)]
              have HLn : Hid ((((ups key L).take q).map VS).length + [VS (node key ((L.drop A).take 4))].length ≤ 1000000) := by show _ ≤ _; rw [List.length_map, List.length_take]; simp; omega
              have Hfs : Hid (∀ t ∈ (L.drop A).take 4, t.length ≤ 1000) := fun t ht => by
                rw [HL32.out t (List.mem_of_mem_drop (List.mem_of_mem_take ht))]; omega
              go_wp2_with fail
              refine (RMNode_any _ key ((L.drop A).take 4) Hf4.out Hfs.out b (o + A) (c - A) wr (Nat.lt_of_lt_of_le hb hsk) HSf.out HK3.out).mono ?_
              rintro e w6 ⟨rfl, hb6⟩
              have HO6 := Lib.hid (HO.out.below hb6 (Nat.le_refl _))
              have HB6 := Lib.hid (HBk.out.trans (hb6.mono hsk))
              have hs6 := HB6.out.size
              generalize node key ((L.drop A).take 4) = T at *
              have HOa := Lib.hid (HO6.out.alloc (.cells #[VS T] 9))
              clear HO HBk hb6 HO6 hsl HSf HK3 Hf4 Hfs
              go_wp2_with (at_builtin; refine wpList_appT rfl (.tmp 42) (.tmp 50) 38 rfl wq.heap.size 9 Tryd.underlying38 infoStr rfl (by decide) _ (((ups key L).take q).map VS) rfl HOa.out _ [VS T] rfl (from_new w6 9 [VS T]) (oneStr [T]) HLn.out (by simp; omega) ?_; intro v7 w7 hown hg _)
              go_roundw
              case rel =>
                refine ⟨q + 1, A + 4, by omega, (by show _ = _; have := HA.out; omega), by go_num, ?_, ?_⟩
                · show Own _ _ _ _ _
                  rw [Hsn.out, List.map_append]; exact hown
                · exact below_app (HB6.out.alloc hs6 _) HOa.out hg (Nat.le_refl _) (by simp; omega)
              case measure => simp [intOf]; omega
            · have hAq : A = 4 * q := HA.out
              obtain rfl : q = m := by omega
              rw [List.take_of_length_le (by rw [Hul.out]; omega)] at HO
              have hqm : ((ups key L).map VS).length = q := by rw [List.length_map, Hul.out]
              obtain ⟨g1, c1, e1, hg1, hgl1, hc1, hs1'⟩ := HO.out.form_cap (by omega)
              rw [hqm] at e1 hc1
              subst e1
              have hsk1 : w1.heap.size ≤ wr.heap.size := Nat.le_trans hsq hsk
              obtain ⟨w6, hw6⟩ : ∃ w6, w6 = wr.alloc (.cells #[.slice (some ⟨g1, 0, none⟩) q c1] 38) := ⟨_, rfl⟩
              have hal : Below wr.heap.size wr w6 := by rw [hw6]; exact Joins.below_alloc1 wr _
              have hsz6 : w6.heap.size = wr.heap.size + 1 := by rw [hw6]; simp
              have HRb : Hid (Rowed VS 38 w1.heap.size w6 u8 (rowsTo key R0 k)) := (HW.out.below HBk.out).below hal
              have HSo : Hid (Sees w6 wr.heap.size 0 [.slice (some ⟨g1, 0, none⟩) (ups key L).length c1]) := by
                rw [Hul.out, hw6]; exact (Row.new wr 38 [.slice (some ⟨g1, 0, none⟩) q c1]).sees
              have HSt : Hid (Sees w6 g1 0 ((ups key L).map VS)) := hs1'.below hal hgl1
              have Hne : Hid (u8.ownBlock ≠ some g1) := by
                obtain ⟨vs, ho, _⟩ := HW.out
                intro h
                have := (ho.lt h).2
                omega
              have Hln : Hid ((rowsTo key R0 k).length ≤ 1000) := by show _ ≤ _; rw [rowsTo_length]; omega
              have Hc1 : Hid ((ups key L).length ≤ c1) := by show _ ≤ _; rw [Hul.out]; exact hc1
              have HB6 : Hid (Below w1.heap.size w1 w6) := (HB.out.trans (HBk.out.mono hsq)).trans (hal.mono hsk1)
              have Hlt1 : Hid (wr.heap.size < w6.heap.size) := by show _ < _; omega
              have Hlt2 : Hid (g1 < w6.heap.size) := by show _ < _; omega
              have Hlt3 : Hid (w1.heap.size ≤ w6.heap.size) := by show _ ≤ _; omega
              clear hs1' hqm hal HO
              go_wp2_with (at_builtin; rw [← hw6]; refine wpList_rowed rfl (.tmp 53) (.tmp 55) 76 rfl Tryd.underlying76 infoSS _ rfl HRb.out wr.heap.size 1 rfl Hlt1.out HSo.out Hlt2.out Hne.out Hc1.out HSt.out Hln.out Hlt3.out ?_; intro v9 w9 HR9 hg9 _)
              go_roundw
              case rel =>
                refine ⟨k + 1, by omega, by go_num, ⟨g1, 0, c1, by rw [Hup.out, Hul.out], by rw [Hup.out]; exact Hc1.out, Nat.lt_of_lt_of_le Hlt2.out hg9.size, by rw [Hup.out]; exact HSt.out.grown hg9 Hlt2.out (fun h => Hne.out h.symm)⟩, ?_, ?_⟩
                · show Rowed _ _ _ _ _ _
                  rw [rowsTo_succ, Hup.out]; exact HR9.out
                · obtain ⟨vs, ho, _⟩ := HRb.out
                  exact below_app HB6.out ho hg9 (Nat.le_refl _) Hlt3.out
              case measure => simp [intOf]; omega
        · obtain rfl : k = h := by omega
          have HWf : Hid (Rowed VS 38 w.heap.size wq u8 (rowsTo key (full l k) k)) := by rw [← HR0.out]; exact HW.out.base hs1
          go_wp2
          go_ret
          exact ⟨⟨k, u8, HH, h9, rfl, HWf⟩, HB1.out.trans (HB.out.mono hs1)⟩
end Go.Proofs.YtepbnimheedodaaDoor
