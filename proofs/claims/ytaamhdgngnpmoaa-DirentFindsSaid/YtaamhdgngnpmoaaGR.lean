/-
  THE WALK of hasTwice: two maps of what has been seen.
-/
import Derived.Test.YtaamhdgngnpmoaaGQ
import Derived.Carry
import Derived.Deep.RegionHeld
import Derived.Deep.RegionHeld3
namespace Go.Proofs.Ytaamhdgngnpmoaa
open Go.RowKit Dir
open Go.Maps (Keyed)

abbrev vNone : Value := .agg #[]
theorem SetAt.look {P : Program} {k e t : TypeId} {w : World} {b : Nat} {ks : List Value} {key u : Value} {kl : Lit} (K : Keyed P k) (h : SetAt P k u w b ks) (ht : P.underlying t = some (.map k e)) (hz : (zeroValue e).run P w = .ok u w) (hkey : keyOf P k key = some kl) (r : Bool) (hr : r = true ↔ key ∈ ks) :
    (Instr.lookup t (.map (some b)) key true).run P w = .ok (.tuple #[u, .bool r]) w := by
  cases r with
  | true =>
    have := MapAt.look_in (t := t) (v := u) K h ht hkey (List.mem_map.2 ⟨key, hr.1 rfl, rfl⟩) true
    simpa using this
  | false =>
    have hn : key ∉ ks := fun hk => by have := hr.2 hk; cases this
    have := MapAt.look_out (t := t) K h ht hz hkey (fun p hp e => by
      obtain ⟨y, hy, rfl⟩ := List.mem_map.1 hp
      exact hn (by rw [← e]; exact hy)) true
    simpa using this
theorem below_map {n : Nat} {w w' : World} {b : Nat} (h : Chg (fun q _ => q = b) w w') (hl : b < w.heap.size) (hb : n ≤ b) : Below n w w' :=
  ⟨h.os, h.tape, h.output, h.size, fun k hk => h.block k (by omega) (fun o e => by omega)⟩
theorem key_str (s : List UInt8) (h : s.length ≤ 9223372036854775807) : ∃ kl, keyOf Try.prog 9 (SB s) = some kl := by
  refine ⟨.string (strB s).data.toList, ?_⟩
  have : (strB s).size ≤ maxLen := by rw [strB_size']; simp only [maxLen]; omega
  simp [keyOf, Try.underlying9, mapKey, SB, this]
theorem key_int (a : Int) (h1 : -9223372036854775808 ≤ a) (h2 : a ≤ 9223372036854775807) : ∃ kl, keyOf Try.prog 3 (.int .i64 a) = some kl := by
  have hw : (Lit.int .i64 a).wf = true := by simp [Lit.wf, IntKind.min, IntKind.max, IntKind.signed, IntKind.bits]; omega
  exact ⟨_, Maps.keyOf_int_mk Try.underlying3 hw⟩
theorem zero_none (w : World) : (zeroValue 66).run Try.prog w = .ok vNone w := by kernel_rfl

set_option maxRecDepth 100000 in
set_option maxHeartbeats 1000000 in
theorem DiTwice_any (l : List En) (hn : l.length ≤ 1000) (hok : EnsOk l) (v : Value) (w : World) (h : EntsAt w v l) :
    Calls Try.prog 22 #[v] w fun e w' => e = .returned (.bool (twN l l.length)) ∧ Below w.heap.size w w' := by
  obtain ⟨A, cap, rfl, hs⟩ := h
  obtain ⟨n, hnl⟩ : ∃ n, n = l.length := ⟨_, rfl⟩
  rw [← hnl] at hs hn ⊢
  have HS := Lib.hid hs
  have HNl := Lib.hid hnl
  have HOk := Lib.hid hok
  clear hs hnl hok
  obtain ⟨R, hR⟩ : ∃ R, R = twN l n := ⟨_, rfl⟩
  have HR := Lib.hid hR
  rw [← hR]
  clear hR
  have hmm := @run_makeMap Try.prog
  go_enter Try.func22, Try.ntmps22
  go_wp2
  clear hmm
  go_loopw [15] (fun i wr => ∃ (k : Nat), k ≤ n ∧ i = .int .i64 k ∧ Hid (twN l k = false) ∧ Hid (SetAt Try.prog 9 vNone wr w.heap.size ((l.take k).map fun e => SB e.n)) ∧ Hid (SetAt Try.prog 3 vNone wr (w.heap.size + 1) ((l.take k).map fun e => Value.int .i64 e.k)) ∧ Hid (Below w.heap.size w wr)) (fun i _ => n - (intOf i).toNat)
  case atStart =>
    refine ⟨0, by omega, rfl, rfl, ?_, ?_, ?_⟩
    · exact MapAt.below (setAt_new _ _ _ _) ((Below.refl _ _).alloc (Nat.le_refl _) _)
    · have := setAt_new Try.prog 3 vNone (w.alloc (.map #[] 0))
      rwa [World.size_alloc] at this
    · exact ((Below.refl _ _).alloc (Nat.le_refl _) _).alloc (by simp) _
  case round =>
    obtain ⟨k, hk, rfl, Htk, Hm1, Hm2, Hbel⟩ := hrel
    by_cases hlt : k < n
    · obtain ⟨bb, o, rfl, hb, hsee⟩ := HS.out (by omega)
      obtain ⟨hx, hx1⟩ := atE (hsee.below Hbel.out hb) k (by rw [← HNl.out]; exact hlt)
      have Ht := Lib.hid (take_snoc l k (by rw [← HNl.out]; exact hlt) ⟨[], 0⟩)
      have Hrd := Lib.hid (tw_round l k (by rw [← HNl.out]; omega) (l.getD k ⟨[], 0⟩))
      have Hsc := Lib.hid (twN_succ l k)
      have hmem : l.getD k ⟨[], 0⟩ ∈ l := by
        rw [List.getD_eq_getElem?_getD, List.getElem?_eq_getElem (by rw [← HNl.out]; exact hlt)]
        exact List.getElem_mem _
      obtain ⟨hxl, hk0, hk1⟩ := HOk.out _ hmem
      clear hsee HS hmem HOk
      rw [Hrd.out, Htk.out, Bool.false_or] at Hsc
      clear Hrd
      generalize l.getD k ⟨[], 0⟩ = x at *
      obtain ⟨xn, xk⟩ := x
      obtain ⟨kl1, hk1'⟩ := key_str xn hxl
      obtain ⟨kl2, hk2'⟩ := key_int xk hk0 hk1
      unfold SB at hx
      simp only at hx hx1 hxl hk0 hk1 Hsc
      rename World => wx
      have HRow : Hid (Row (wx.alloc (.cells #[.string (strB xn), .int .i64 xk] 26)) wx.heap.size 26 (cE ⟨xn, xk⟩)) := Row.new wx _ _
      obtain ⟨r1, hr1⟩ : ∃ r, r = decide (∃ e ∈ l.take k, e.n = xn) := ⟨_, rfl⟩
      obtain ⟨r2, hr2⟩ : ∃ r, r = decide (∃ e ∈ l.take k, e.k = xk) := ⟨_, rfl⟩
      rw [← hr1, ← hr2] at Hsc
      have HL1 : Hid (∀ W, SetAt Try.prog 9 vNone W w.heap.size ((l.take k).map fun e => SB e.n) → (Instr.lookup 64 (.map (some w.heap.size)) (.string (strB xn)) true).run Try.prog W = .ok (.tuple #[vNone, .bool r1]) W) := fun W hW =>
        SetAt.look (Maps.string_keyed Try.underlying9) hW Try.underlying64 (zero_none W) hk1' r1 (by
          rw [hr1, decide_eq_true_eq, List.mem_map]
          constructor
          · rintro ⟨e, he, rfl⟩; exact ⟨e, he, rfl⟩
          · rintro ⟨e, he, h2⟩
            refine ⟨e, he, ?_⟩
            unfold SB at h2
            injection h2 with h2
            have := congrArg ByteArray.toList h2
            rwa [strB_list, strB_list] at this)
      have HL2 : Hid (∀ W, SetAt Try.prog 3 vNone W (w.heap.size + 1) ((l.take k).map fun e => Value.int .i64 e.k) → (Instr.lookup 65 (.map (some (w.heap.size + 1))) (.int .i64 xk) true).run Try.prog W = .ok (.tuple #[vNone, .bool r2]) W) := fun W hW =>
        SetAt.look (Maps.int_keyed Try.underlying3) hW Try.underlying65 (zero_none W) hk2' r2 (by
          rw [hr2, decide_eq_true_eq, List.mem_map]
          constructor
          · rintro ⟨e, he, rfl⟩; exact ⟨e, he, rfl⟩
          · rintro ⟨e, he, h2⟩
            injection h2 with _ h2
            exact ⟨e, he, h2⟩)
      have Hr1 := Lib.hid hr1
      have Hr2 := Lib.hid hr2
      obtain ⟨kk, hkk⟩ : ∃ kk, kk = (l.take k).map fun e => SB e.n := ⟨_, rfl⟩
      obtain ⟨kj, hkj⟩ : ∃ kj, kj = (l.take k).map fun e => Value.int .i64 e.k := ⟨_, rfl⟩
      have Hkk : Hid ((l.take (k + 1)).map (fun e => SB e.n) = kk ++ [SB xn]) := by show _ = _; rw [Ht.out, List.map_append, hkk]; rfl
      have Hkj : Hid ((l.take (k + 1)).map (fun e => Value.int .i64 e.k) = kj ++ [Value.int .i64 xk]) := by show _ = _; rw [Ht.out, List.map_append, hkj]; rfl
      have Hn1 : Hid (r1 = false → SB xn ∉ kk) := fun h hm => by
        rw [hkk, List.mem_map] at hm
        obtain ⟨e, he, h2⟩ := hm
        unfold SB at h2
        injection h2 with h2
        have h3 := congrArg ByteArray.toList h2
        rw [strB_list, strB_list] at h3
        have := Hr1.out
        rw [h, decide_eq_true (⟨e, he, h3⟩ : ∃ e ∈ l.take k, e.n = xn)] at this
        cases this
      have Hn2 : Hid (r2 = false → Value.int .i64 xk ∉ kj) := fun h hm => by
        rw [hkj, List.mem_map] at hm
        obtain ⟨e, he, h2⟩ := hm
        injection h2 with _ h2
        have := Hr2.out
        rw [h, decide_eq_true (⟨e, he, h2⟩ : ∃ e ∈ l.take k, e.k = xk)] at this
        cases this
      rw [← hkk] at HL1 Hm1
      rw [← hkj] at HL2 Hm2
      have hl1 := HL1.out (wx.alloc (.cells #[.string (strB xn), .int .i64 xk] 26)) (MapAt.below Hm1.out ((Below.refl _ _).alloc (Nat.le_refl _) _))
      have hl2 := HL2.out ((wx.alloc (.cells #[.string (strB xn), .int .i64 xk] 26)).alloc (.cells #[] 66)) (MapAt.below Hm2.out (((Below.refl _ _).alloc (Nat.le_refl _) _).alloc (by simp) _))
      have HK1 : Hid (∃ kl, keyOf Try.prog 9 (SB xn) = some kl) := ⟨_, hk1'⟩
      have HK2 : Hid (∃ kl, keyOf Try.prog 3 (.int .i64 xk) = some kl) := ⟨_, hk2'⟩
      have Hb4 : Hid (Below w.heap.size w (((wx.alloc (.cells #[.string (strB xn), .int .i64 xk] 26)).alloc (.cells #[] 66)).alloc (.cells #[] 66))) := ((Hbel.out.alloc Hbel.out.size _).alloc (Nat.le_trans Hbel.out.size (by simp)) _).alloc (Nat.le_trans Hbel.out.size (by simp; omega)) _
      clear hr1 hr2 hkk hkj hk1' hk2' hxl hk0 hk1 HL1 HL2
      cases r1 with
      | true =>
        have HD : Hid (R = true) := by
          show _ = _
          rw [HR.out]
          exact twN_true (Hsc.out.trans (by simp)) (by omega : k + 1 ≤ n)
        go_wp2
        go_ret
        rw [HD.out]
        exact ⟨rfl, Hb4.out⟩
      | false =>
        cases r2 with
        | true =>
          have HD : Hid (R = true) := by
            show _ = _
            rw [HR.out]
            exact twN_true (Hsc.out.trans (by simp)) (by omega : k + 1 ≤ n)
          go_wp2
          go_ret
          rw [HD.out]
          exact ⟨rfl, Hb4.out⟩
        | false =>
          have Hs1 : Hid (SetAt Try.prog 9 vNone (((wx.alloc (.cells #[.string (strB xn), .int .i64 xk] 26)).alloc (.cells #[] 66)).alloc (.cells #[] 66)) w.heap.size kk) := MapAt.below Hm1.out ((((Below.refl _ _).alloc (Nat.le_refl _) _).alloc (by simp) _).alloc (by simp; omega) _)
          have Hs2 : Hid (SetAt Try.prog 3 vNone (((wx.alloc (.cells #[.string (strB xn), .int .i64 xk] 26)).alloc (.cells #[] 66)).alloc (.cells #[] 66)) (w.heap.size + 1) kj) := MapAt.below Hm2.out ((((Below.refl _ _).alloc (Nat.le_refl _) _).alloc (by simp) _).alloc (by simp; omega) _)
          have HRw : Hid (Row (((wx.alloc (.cells #[.string (strB xn), .int .i64 xk] 26)).alloc (.cells #[] 66)).alloc (.cells #[] 66)) wx.heap.size 26 (cE ⟨xn, xk⟩)) := HRow.out.below (((Below.refl _ _).alloc (Nat.le_refl _) _).alloc (by simp) _) HRow.out.lt
          have hszx : w.heap.size + 1 < wx.heap.size := Hm2.out.lt
          go_wp2
          generalize ((wx.alloc (.cells #[.string (strB xn), .int .i64 xk] 26)).alloc (.cells #[] 66)).alloc (.cells #[] 66) = W0 at *
          clear hl1 hl2 hx hx1 HRow Hm1 Hm2 Hbel
          have HCl : Hid (∀ W, Row W wx.heap.size 26 (cE ⟨xn, xk⟩) → W.cell? ⟨wx.heap.size, 0, none⟩ = some (.string (strB xn)) ∧ W.cell? ⟨wx.heap.size, 1, none⟩ = some (.int .i64 xk)) := fun W h => ⟨h.cell 0, h.cell 1⟩
          have HRd : Hid (Row W0.drew wx.heap.size 26 (cE ⟨xn, xk⟩)) := HRw.out
          have Hs1d : Hid (SetAt Try.prog 9 vNone W0.drew w.heap.size kk) := Hs1.out
          have Hs2d : Hid (SetAt Try.prog 3 vNone W0.drew (w.heap.size + 1) kj) := Hs2.out
          have Hb5 : Hid (Below w.heap.size w W0.drew) := below_drewN Hb4.out 1
          refine wp_region_held_drew (S := (fun W => W.cell? ⟨wx.heap.size, 0, none⟩ = some (.string (strB xn)) ∧ W.cell? ⟨wx.heap.size, 1, none⟩ = some (.int .i64 xk))) (by kernel_rfl) (HCl.out _ HRd.out) (fun hHeld => ?_)
          generalize W0.drew = Wd at *
          clear Hs1 Hs2 HRw Hb4
          refine wpAnyH_take (i := 0) (oi := ⟨some 37, _, _, _, _, _⟩) (v := ?_) rfl (by kernel_rfl) (by kernel_rfl) (by kernel_rfl) (fun _ _ _ h => h) (Or.inl ⟨by rfl, ?_⟩) hHeld ?_
          rotate_left
          · intro w hSw
            go_simp
            with_reducible rfl
          try go_frame
          refine wpAnyH_take (i := 1) (oi := ⟨some 38, _, _, _, _, _⟩) (v := ?_) rfl (by kernel_rfl) (by kernel_rfl) (by kernel_rfl) (fun _ _ _ h => h) (Or.inl ⟨by rfl, ?_⟩) hHeld ?_
          rotate_left
          · intro w hSw
            go_simp
            with_reducible rfl
          try go_frame
          refine wpAnyH_take (i := 2) (oi := ⟨some 39, _, _, _, _, _⟩) (v := ?_) rfl (by kernel_rfl) (by kernel_rfl) (by kernel_rfl) (fun _ _ _ h => h) (Or.inl ⟨by rfl, ?_⟩) hHeld ?_
          rotate_left
          · intro w hSw
            obtain ⟨hc0, hc1⟩ := hSw
            go_simp
            with_reducible rfl
          try go_frame
          refine wpAnyH_take (i := 3) (oi := ⟨some 40, _, _, _, _, _⟩) (v := ?_) rfl (by kernel_rfl) (by kernel_rfl) (by kernel_rfl) (fun _ _ _ h => h) (Or.inl ⟨by rfl, ?_⟩) hHeld ?_
          rotate_left
          · intro w hSw
            go_simp
            with_reducible rfl
          try go_frame
          refine wpAnyH_take (i := 4) (oi := ⟨some 41, _, _, _, _, _⟩) (v := ?_) rfl (by kernel_rfl) (by kernel_rfl) (by kernel_rfl) (fun _ _ _ h => h) (Or.inl ⟨by rfl, ?_⟩) hHeld ?_
          rotate_left
          · intro w hSw
            go_simp
            with_reducible rfl
          try go_frame
          refine wpAnyH_take (i := 5) (oi := ⟨some 42, _, _, _, _, _⟩) (v := ?_) rfl (by kernel_rfl) (by kernel_rfl) (by kernel_rfl) (fun _ _ _ h => h) (Or.inl ⟨by rfl, ?_⟩) hHeld ?_
          rotate_left
          · intro w hSw
            obtain ⟨hc0, hc1⟩ := hSw
            go_simp
            with_reducible rfl
          try go_frame
          refine wpAnyH_take (i := 6) (oi := ⟨some 43, _, _, _, _, _⟩) (v := ?_) rfl (by kernel_rfl) (by kernel_rfl) (by kernel_rfl) (fun _ _ _ h => h) (Or.inl ⟨by rfl, ?_⟩) hHeld ?_
          rotate_left
          · intro w hSw
            go_simp
            with_reducible rfl
          try go_frame
          refine wpAnyH_take (i := 7) (oi := ⟨some 44, _, _, _, _, _⟩) (v := ?_) rfl (by kernel_rfl) (by kernel_rfl) (by kernel_rfl) (fun _ _ _ h => h) (Or.inl ⟨by rfl, ?_⟩) hHeld ?_
          rotate_left
          · intro w hSw
            go_simp
            with_reducible rfl
          try go_frame
          refine wpAnyH_ready (rs := [8]) (by kernel_rfl) (by simp) ?_
          refine AllReadyH.cons (o := ⟨none, _, _, _, _, _⟩) rfl (fun K hK => ?_) AllReadyH.nil
          obtain ⟨kl1, hkl1⟩ := HK1.out
          obtain ⟨W5, hu1, hch1, hsz1, hm1⟩ := SetAt.add (Maps.string_keyed Try.underlying9) Hs1d.out Try.underlying64 hkl1
          unfold SB at hu1
          go_simp
          have HM1 : Hid (SetAt Try.prog 9 vNone W5 w.heap.size (kk ++ [SB xn])) := by
            rcases hm1 with hm | hm
            · exact hm.2
            · exact absurd hm.1 (by first | exact Hn1.out rfl | exact Hn1.out trivial)
          have HR5 : Hid (Row W5 wx.heap.size 26 (cE ⟨xn, xk⟩)) := (hch1.block _ HRd.out.lt (fun _ e => by omega)).trans HRd.out
          have HM2 : Hid (SetAt Try.prog 3 vNone W5 (w.heap.size + 1) kj) := MapAt.chg Hs2d.out hch1 (fun _ e => by omega)
          have HB5 : Hid (Below w.heap.size w W5) := Hb5.out.trans (below_map hch1 Hs1d.out.lt (Nat.le_refl _))
          refine hK.out _ _ (HCl.out _ HR5.out) (fun hHeld => ?_)
          clear hK K hu1 hch1 hsz1 hm1 hkl1 kl1 HRd Hs1d Hs2d Hb5
          try go_frame
          refine wpAnyH_ready (rs := [9]) (by kernel_rfl) (by simp) ?_
          refine AllReadyH.cons (o := ⟨none, _, _, _, _, _⟩) rfl (fun K hK => ?_) AllReadyH.nil
          obtain ⟨kl2, hkl2⟩ := HK2.out
          obtain ⟨W6, hu2, hch2, hsz2, hm2⟩ := SetAt.add (Maps.int_keyed Try.underlying3) HM2.out Try.underlying65 hkl2
          go_simp
          have HM2' : Hid (SetAt Try.prog 3 vNone W6 (w.heap.size + 1) (kj ++ [Value.int .i64 xk])) := by
            rcases hm2 with hm | hm
            · exact hm.2
            · exact absurd hm.1 (by first | exact Hn2.out rfl | exact Hn2.out trivial)
          have HR6 : Hid (Row W6 wx.heap.size 26 (cE ⟨xn, xk⟩)) := (hch2.block _ HR5.out.lt (fun _ e => by omega)).trans HR5.out
          have HM1' : Hid (SetAt Try.prog 9 vNone W6 w.heap.size (kk ++ [SB xn])) := MapAt.chg HM1.out hch2 (fun _ e => by omega)
          have HB6 : Hid (Below w.heap.size w W6) := HB5.out.trans (below_map hch2 HM2.out.lt (by omega))
          refine hK.out _ _ (HCl.out _ HR6.out) (fun hHeld => ?_)
          clear hK K hu2 hch2 hsz2 hm2 hkl2 kl2 HR5 HM1 HM2 HB5
          try go_frame
          refine wpAnyH_done (by kernel_rfl) ?_ _
          go_wp2
          go_roundw
          case rel => exact ⟨k + 1, by omega, by go_num, by show _ = _; rw [Hsc.out]; rfl, by rw [Hkk.out]; exact HM1'.out, by rw [Hkj.out]; exact HM2'.out, HB6.out⟩
          case measure => simp [intOf]; omega
    · obtain rfl : k = n := by omega
      have HD : Hid (R = false) := by
        show _ = _
        rw [HR.out, Htk.out]
      go_wp2
      go_ret
      rw [HD.out]
      exact ⟨rfl, Hbel.out⟩
end Go.Proofs.Ytaamhdgngnpmoaa
