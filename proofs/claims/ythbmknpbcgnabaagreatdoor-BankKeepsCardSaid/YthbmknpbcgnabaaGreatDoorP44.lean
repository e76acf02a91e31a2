/-
  OF THE WALK: WC.
-/
import Derived.Test.YthbmknpbcgnabaaGreatDoorP42
import Derived.Test.YthbmknpbcgnabaaGreatDoorP43
namespace Go.Proofs.YthbmknpbcgnabaaGreatDoor
open Go.RowKit Aes Ctr Sl Dsk
theorem lay_at (x : List UInt8) (k : Nat) : (Bk.lay x k).length = 64 := Bk.lay_length x k
theorem lay_beyond (x : List UInt8) (k : Nat) (hk : x.length ≤ k ∨ 64 ≤ k) : Bk.lay x k = Bk.lay x 64 := hk.elim (Bk.lay_end x k) (Bk.lay_cap x k)
theorem set_v8 (l : List UInt8) (j : Nat) (b : UInt8) : (l.map V8).set j (V8 b) = (l.set j b).map V8 := by rw [List.map_set]
set_option maxRecDepth 100000 in
set_option maxHeartbeats 4000000 in
theorem Jrow_any {w : World} {K : Nat → Prop} {v : Value} {l : List (List UInt8)} (n : Nat) (hn : n ≤ 100) (h : PartsOn w K v l) (hl : l.length ≤ 100) :
    Calls Tryz.prog 15 #[IV n, v] w fun e w' => (∃ r, e = .returned r ∧ Hid (Rowed w.heap.size w.heap.size w' r (Bk.rowL n l))) ∧ Below w.heap.size w w' := by
  obtain ⟨A, cap, rfl⟩ := h.form
  obtain ⟨z, hz⟩ : ∃ z, z = Bk.z64.map V8 := ⟨_, rfl⟩
  have hmk : ∀ W : World, (Instr.makeSlice 22 (.int .i64 64) (.int .i64 64)).run Tryz.prog W = .ok (.slice (some ⟨W.heap.size, 0, none⟩) 64 64) (W.alloc (.cells z.toArray 5)) := fun W => by rw [hz, Bk.z64]; exact madeB 64 (by omega) W
  have HZ := Lib.hid hz
  have HMk := Lib.hid hmk
  obtain ⟨m, hm⟩ : ∃ m, m = l.length := ⟨_, rfl⟩
  rw [← hm] at h hl ⊢
  have HPt : Hid (0 < m → _) := fun hp => h.at_ hm.symm hp
  have HM := Lib.hid hm
  clear h hm hz hmk
  go_enter Tryz.func15, Tryz.ntmps15
  go_wp2
  go_loopw [5, 6, 7, 8, 9] (fun r i _ _ _ wr => ∃ k : Nat, k ≤ n ∧ i = .int .i64 k ∧ Hid (Rowed w.heap.size w.heap.size wr r (Bk.rowL k l)) ∧ Hid (Below w.heap.size w wr)) (fun _ i _ _ _ _ => n - (RowKit.intOf i).toNat)
  case atStart => exact ⟨0, by omega, rfl, Rowed.nil _ _ _, Below.refl _ _⟩
  case round =>
    obtain ⟨k, hk, rfl, HR, HB⟩ := hrel
    rename World => w2
    by_cases hlt : k < n
    · have hmk2 := HMk.out w2
      obtain ⟨w3, hw3⟩ : ∃ W, W = w2.alloc (.cells z.toArray 5) := ⟨_, rfl⟩
      have HB3 : Hid (Below w2.heap.size w2 w3) := by rw [hw3]; exact (Below.refl _ _).alloc (Nat.le_refl _) _
      obtain ⟨g, hg⟩ : ∃ g, g = w2.heap.size := ⟨_, rfl⟩
      have HZ3 : Hid (Row w3 g 5 (Bk.z64.map V8)) := by rw [hw3, hg, ← HZ.out]; exact Row.new w2 5 z
      rw [← hw3, ← hg] at hmk2
      have Hge := Lib.hid hg
      clear hw3 hg
      by_cases hm0 : m = 0
      · subst hm0
        have HRow : Hid (Row w3 g 5 ((Bk.rowB l k).map V8)) := by
          have : Bk.rowB l k = Bk.z64 := by unfold Bk.rowB; rw [if_pos HM.out.symm]
          rw [this]; exact HZ3.out
        have HBE := HB3
        clear HPt HZ3 HB3
        have hRw := HRow.out
        have hBE := HBE.out
        have hsE := hBE.size
        have hgl : g < w3.heap.size := hRw.lt
        obtain ⟨w4, hw4⟩ : ∃ W, W = (w3.alloc (.cells #[.slice (some ⟨g, 0, none⟩) 64 64] 22)) := ⟨_, rfl⟩
        have hal : Below w3.heap.size w3 w4 := by rw [hw4]; exact below_drewN ((Below.refl _ _).alloc (Nat.le_refl _) _) 0
        have HSe : Hid (Sees w4 w3.heap.size 0 [.slice (some ⟨g, 0, none⟩) (Bk.rowB l k).length 64]) := by rw [hw4, Bk.rowB_length]; exact (Row.new w3 22 [.slice (some ⟨g, 0, none⟩) 64 64]).sees
        have HR4 := Lib.hid ((HR.out.below hBE).below hal)
        have hszB := HB.out.size
        have hge := Hge.out
        have HG4 : Hid (g < w4.heap.size ∧ w.heap.size ≤ g ∧ (Bk.rowB l k).length ≤ 64 ∧ Sees w4 g 0 ((Bk.rowB l k).map V8)) := ⟨Nat.lt_of_lt_of_le hgl hal.size, by omega, by rw [Bk.rowB_length]; omega, (hRw.below hal hgl).sees⟩
        have Hne : Hid (u5.ownBlock ≠ some g) := by
          show _ ≠ _
          intro e
          obtain ⟨vs, ho, _⟩ := HR.out
          have := (ho.lt e).2
          omega
        have HB4 : Hid (Below w.heap.size w w4) := HB.out.trans ((hBE.trans (hal.mono hsE)).mono hszB)
        have HB4s : Hid (w.heap.size ≤ w4.heap.size) := HB4.out.size
        have HLk : Hid ((Bk.rowL k l).length ≤ 1000) := by show _ ≤ _; rw [Bk.rowL_length]; omega
        have HS : Hid (Bk.rowL k l ++ [Bk.rowB l k] = Bk.rowL (k + 1) l) := (Bk.rowL_succ k l).symm
        clear hRw hBE hsE hgl hal hszB hge HR HRow HBE
        go_wp2_with (at_builtin; rw [← hw4]; clear hw4; refine wpList_rowed rfl (.tmp 63) (.tmp 65) rfl w.heap.size w.heap.size _ (Bk.rowL k l) rfl HR4.out w3.heap.size 1 g 0 64 (Bk.rowB l k) rfl HSe.out HG4.out.1 HG4.out.2.1 Hne.out HG4.out.2.2.1 HG4.out.2.2.2 HLk.out HB4s.out ?_; intro v5 w5 HR5 hb5)
        go_roundw
        case rel => exact ⟨k + 1, by omega, by go_num, by have := HR5.out; rw [HS.out] at this; exact this, HB4.out.trans hb5⟩
        case measure => simp [RowKit.intOf]; omega
      · obtain ⟨b, o, hA, hbl, hKb, hcell⟩ := HPt.out (by omega)
        obtain ⟨r, hr⟩ : ∃ r, r = k % m := ⟨_, rfl⟩
        have hrm : r < m := by rw [hr]; exact Nat.mod_lt _ (by omega)
        obtain ⟨A1, c1, hc1, ha1⟩ := hcell r hrm
        have Hrem : Hid (Int.tmod (k : Int) (m : Int) = (r : Int)) := by show _ = _; rw [hr, Int.ofNat_tmod]
        have Hm0 : Hid (¬ m = 0) := hm0
        have Hpm : Hid (0 < m) := by show _ < _; omega
        have Hrm := Lib.hid hrm
        obtain ⟨x, hx⟩ : ∃ x, x = l.getD r [] := ⟨_, rfl⟩
        rw [← hx] at hc1 ha1
        have HXe : Hid (x = l.getD (k % m) []) := by show _ = _; rw [hx, hr]
        have HC1 : Hid (w2.cell? ⟨b, o + r, none⟩ = some (.slice A1 x.length c1)) := (World.cell?_of_block (w := w) (HB.out.block b hbl)).trans hc1
        have HC1r : Hid (w3.cell? ⟨b, o + r, none⟩ = some (.slice A1 x.length c1)) := (World.cell?_of_block (w := w2) (HB3.out.block b (Nat.lt_of_lt_of_le hbl HB.out.size))).trans HC1.out
        have HXc : Hid (∀ j, j < x.length → ∃ b1 o1, A1 = some ⟨b1, o1, none⟩ ∧ b1 < w.heap.size ∧ w.cell? ⟨b1, o1 + j, none⟩ = some (.int .u8 (x.getD j 0).toNat)) := fun j hj => by
          rcases ha1.arg with ⟨A', e, hn⟩ | ⟨b1, o1, c', e, hb1, hc', hs⟩
          · rw [hn] at hj; simp at hj
          · injection e with e1 _ _
            exact ⟨b1, o1, e1, hb1, at8 hs j hj⟩
        obtain ⟨xn, hxn⟩ : ∃ n, n = x.length := ⟨_, rfl⟩
        have HXn := Lib.hid hxn
        rw [← hxn] at HC1 HC1r HXc
        have HL3 : Hid (Row w3 g 5 ((Bk.lay x 0).map V8)) := by rw [Bk.lay_zero]; exact HZ3.out
        subst hA
        have hrem := Hrem.out
        have hm0' := Hm0.out
        have hpm := Hpm.out
        have hc1r := HC1r.out
        have hrm' := Hrm.out
        clear hcell hc1 ha1 hx hr hxn HZ3 hKb HPt hm0 hrm
        go_wp2_with fail
        clear hmk2 hrem hc1r hrm' hm0' hpm
        go_loopw [9] (fun jj wr => ∃ j : Nat, j ≤ 64 ∧ jj = .int .i64 j ∧ Hid (Row wr g 5 ((Bk.lay x j).map V8)) ∧ Hid (Below w2.heap.size w2 wr)) (fun jj _ => 64 - (RowKit.intOf jj).toNat)
        case atStart => exact ⟨0, by omega, rfl, HL3, HB3⟩
        case round =>
          obtain ⟨j, hj, rfl, HLj, HBj⟩ := hrel
          clear HL3 HB3
          by_cases h64 : j < 64
          · by_cases hjx : j < xn
            · obtain ⟨b1, o1, rfl, hb1, hcx⟩ := HXc.out j hjx
              have hsz := HB.out.size
              have hcx3 : wr.cell? ⟨b1, o1 + j, none⟩ = some (.int .u8 (x.getD j 0).toNat) := (World.cell?_of_block (w := w2) (HBj.out.block b1 (Nat.lt_of_lt_of_le hb1 hsz))).trans ((World.cell?_of_block (w := w) (HB.out.block b1 hb1)).trans hcx)
              have hcg : wr.cell? ⟨g, j, none⟩ = some (.int .u8 ((Bk.lay x j).getD j 0).toNat) := row8 HLj.out j (by rw [lay_at]; exact h64)
              have hfg := HLj.out.free j
              have HE : Hid (Row (wr.setCell ⟨g, j, none⟩ (.int .u8 (x.getD j 0).toNat)) g 5 ((Bk.lay x (j + 1)).map V8) ∧ Below w2.heap.size w2 (wr.setCell ⟨g, j, none⟩ (.int .u8 (x.getD j 0).toNat))) := by
                refine ⟨?_, HBj.out.setCell (by rw [Hge.out]; exact Nat.le_refl _) _⟩
                have := HLj.out.set j (V8 (x.getD j 0))
                rw [set_v8, ← Bk.lay_succ x j h64] at this
                exact this
              generalize (x.getD j 0).toNat = y at *
              generalize ((Bk.lay x j).getD j 0).toNat = y2 at *
              clear hcx HLj HBj
              go_wp2
              go_roundw
              case rel => exact ⟨j + 1, by omega, by go_num, HE.out.1, HE.out.2⟩
              case measure => simp [RowKit.intOf]; omega
            · have HLE : Hid (Row wr g 5 ((Bk.lay x 64).map V8)) := by rw [← lay_beyond x j (.inl (by rw [← HXn.out]; omega))]; exact HLj.out
              clear HLj HXc
              have HBE := HBj
              clear HBj
              have hpm := Hpm.out
              by_cases hkm : k < m
              · have HRow : Hid (Row wr g 5 ((Bk.rowB l k).map V8)) := by
                  have : Bk.rowB l k = Bk.lay x 64 := by unfold Bk.rowB; rw [← HM.out, if_neg Hm0.out, if_neg (by omega), ← HXe.out]
                  rw [this]; exact HLE.out
                clear HLE
                have hRw := HRow.out
                have hBE := HBE.out
                have hsE := hBE.size
                have hgl : g < wr.heap.size := hRw.lt
                obtain ⟨w4, hw4⟩ : ∃ W, W = (wr.alloc (.cells #[.slice (some ⟨g, 0, none⟩) 64 64] 22)) := ⟨_, rfl⟩
                have hal : Below wr.heap.size wr w4 := by rw [hw4]; exact below_drewN ((Below.refl _ _).alloc (Nat.le_refl _) _) 0
                have HSe : Hid (Sees w4 wr.heap.size 0 [.slice (some ⟨g, 0, none⟩) (Bk.rowB l k).length 64]) := by rw [hw4, Bk.rowB_length]; exact (Row.new wr 22 [.slice (some ⟨g, 0, none⟩) 64 64]).sees
                have HR4 := Lib.hid ((HR.out.below hBE).below hal)
                have hszB := HB.out.size
                have hge := Hge.out
                have HG4 : Hid (g < w4.heap.size ∧ w.heap.size ≤ g ∧ (Bk.rowB l k).length ≤ 64 ∧ Sees w4 g 0 ((Bk.rowB l k).map V8)) := ⟨Nat.lt_of_lt_of_le hgl hal.size, by omega, by rw [Bk.rowB_length]; omega, (hRw.below hal hgl).sees⟩
                have Hne : Hid (u5.ownBlock ≠ some g) := by
                  show _ ≠ _
                  intro e
                  obtain ⟨vs, ho, _⟩ := HR.out
                  have := (ho.lt e).2
                  omega
                have HB4 : Hid (Below w.heap.size w w4) := HB.out.trans ((hBE.trans (hal.mono hsE)).mono hszB)
                have HB4s : Hid (w.heap.size ≤ w4.heap.size) := HB4.out.size
                have HLk : Hid ((Bk.rowL k l).length ≤ 1000) := by show _ ≤ _; rw [Bk.rowL_length]; omega
                have HS : Hid (Bk.rowL k l ++ [Bk.rowB l k] = Bk.rowL (k + 1) l) := (Bk.rowL_succ k l).symm
                clear hRw hBE hsE hgl hal hszB hge HR HRow HBE
                go_wp2_with (at_builtin; rw [← hw4]; clear hw4; refine wpList_rowed rfl (.tmp 63) (.tmp 65) rfl w.heap.size w.heap.size _ (Bk.rowL k l) rfl HR4.out wr.heap.size 1 g 0 64 (Bk.rowB l k) rfl HSe.out HG4.out.1 HG4.out.2.1 Hne.out HG4.out.2.2.1 HG4.out.2.2.2 HLk.out HB4s.out ?_; intro v5 w5 HR5 hb5)
                go_roundw
                case rel => exact ⟨k + 1, by omega, by go_num, by have := HR5.out; rw [HS.out] at this; exact this, HB4.out.trans hb5⟩
                case measure => simp [RowKit.intOf]; omega
              · obtain ⟨q, hq⟩ : ∃ q, q = k / m := ⟨_, rfl⟩
                have hq100 : q ≤ 100 := by rw [hq]; exact Nat.le_trans (Nat.div_le_self _ _) (by omega)
                have Hquo : Hid (Int.tdiv (k : Int) (m : Int) = (q : Int)) := by show _ = _; rw [hq, Int.ofNat_tdiv]
                obtain ⟨y3, hy3⟩ : ∃ y, y = ((Bk.lay x 64).getD 63 0 + UInt8.ofNat q).toNat := ⟨_, rfl⟩
                obtain ⟨wz, hwz⟩ : ∃ W, W = wr.setCell ⟨g, 63, none⟩ (.int .u8 (y3 : Int)) := ⟨_, rfl⟩
                have HRow : Hid (Row wz g 5 ((Bk.rowB l k).map V8)) := by
                  have : Bk.rowB l k = (Bk.lay x 64).set 63 ((Bk.lay x 64).getD 63 0 + UInt8.ofNat q) := by unfold Bk.rowB; rw [← HM.out, if_neg Hm0.out, if_pos (by omega), ← HXe.out, hq]
                  rw [this, hwz, hy3]
                  have := HLE.out.set 63 (V8 ((Bk.lay x 64).getD 63 0 + UInt8.ofNat q))
                  rw [set_v8] at this
                  exact this
                replace HBE : Hid (Below w2.heap.size w2 wz) := by
                  rw [hwz]
                  exact HBE.out.setCell (by rw [Hge.out]; exact Nat.le_refl _) _
                have hc63 : wr.cell? ⟨g, 63, none⟩ = some (.int .u8 ((Bk.lay x 64).getD 63 0).toNat) := row8 HLE.out 63 (by rw [lay_at]; omega)
                have hf63 := HLE.out.free 63
                have Hadd : Hid (((((Bk.lay x 64).getD 63 0).toNat : Int) + wrap64 (q : Int)) % 256 = (y3 : Int)) := by
                  show (_ : Int) % 256 = _
                  rw [Mr.w64 _ (by omega), hy3, UInt8.toNat_add, UInt8.toNat_ofNat']
                  omega
                clear hy3
                generalize ((Bk.lay x 64).getD 63 0).toNat = y2 at *
                have hquo := Hquo.out
                have hm0' := Hm0.out
                clear hq hq100 HLE Hquo
                go_wp2
                refine wp_region_still_tail 11 (by kernel_rfl) (by kernel_rfl) ?_
                simp only [List.take_succ_cons, List.take_zero, List.drop_succ_cons, List.drop_zero]
                repeat still_step
                refine wpStill_nil ?_
                change wpList _ _ _ _ _ wr.drew
                have hRw := HRow.out
                have hBE := HBE.out
                have hsE := hBE.size
                have hgl : g < wz.heap.size := hRw.lt
                obtain ⟨w4, hw4⟩ : ∃ W, W = (wz.alloc (.cells #[.slice (some ⟨g, 0, none⟩) 64 64] 22)).drew := ⟨_, rfl⟩
                have hal : Below wz.heap.size wz w4 := by rw [hw4]; exact below_drewN ((Below.refl _ _).alloc (Nat.le_refl _) _) 1
                have HSe : Hid (Sees w4 wr.heap.size 0 [.slice (some ⟨g, 0, none⟩) (Bk.rowB l k).length 64]) := by rw [hw4, Bk.rowB_length, show wr.heap.size = wz.heap.size by rw [hwz]; simp [World.setCell]]; exact (Row.new wz 22 [.slice (some ⟨g, 0, none⟩) 64 64]).sees
                have HR4 := Lib.hid ((HR.out.below hBE).below hal)
                have hszB := HB.out.size
                have hge := Hge.out
                have HG4 : Hid (g < w4.heap.size ∧ w.heap.size ≤ g ∧ (Bk.rowB l k).length ≤ 64 ∧ Sees w4 g 0 ((Bk.rowB l k).map V8)) := ⟨Nat.lt_of_lt_of_le hgl hal.size, by omega, by rw [Bk.rowB_length]; omega, (hRw.below hal hgl).sees⟩
                have Hne : Hid (u5.ownBlock ≠ some g) := by
                  show _ ≠ _
                  intro e
                  obtain ⟨vs, ho, _⟩ := HR.out
                  have := (ho.lt e).2
                  omega
                have HB4 : Hid (Below w.heap.size w w4) := HB.out.trans ((hBE.trans (hal.mono hsE)).mono hszB)
                have HB4s : Hid (w.heap.size ≤ w4.heap.size) := HB4.out.size
                have HLk : Hid ((Bk.rowL k l).length ≤ 1000) := by show _ ≤ _; rw [Bk.rowL_length]; omega
                have HS : Hid (Bk.rowL k l ++ [Bk.rowB l k] = Bk.rowL (k + 1) l) := (Bk.rowL_succ k l).symm
                clear hRw hBE hsE hgl hal hszB hge HR HRow HBE
                go_wp2_with (at_builtin; rw [Hadd.out, ← hwz]; clear hwz; rw [← hw4]; clear hw4; refine wpList_rowed rfl (.tmp 63) (.tmp 65) rfl w.heap.size w.heap.size _ (Bk.rowL k l) rfl HR4.out wr.heap.size 1 g 0 64 (Bk.rowB l k) rfl HSe.out HG4.out.1 HG4.out.2.1 Hne.out HG4.out.2.2.1 HG4.out.2.2.2 HLk.out HB4s.out ?_; intro v5 w5 HR5 hb5)
                go_roundw
                case rel => exact ⟨k + 1, by omega, by go_num, by have := HR5.out; rw [HS.out] at this; exact this, HB4.out.trans hb5⟩
                case measure => simp [RowKit.intOf]; omega
          · have HLE : Hid (Row wr g 5 ((Bk.lay x 64).map V8)) := by rw [← lay_beyond x j (.inr (by omega))]; exact HLj.out
            clear HLj HXc
            have HBE := HBj
            clear HBj
            have hpm := Hpm.out
            by_cases hkm : k < m
            · have HRow : Hid (Row wr g 5 ((Bk.rowB l k).map V8)) := by
                have : Bk.rowB l k = Bk.lay x 64 := by unfold Bk.rowB; rw [← HM.out, if_neg Hm0.out, if_neg (by omega), ← HXe.out]
                rw [this]; exact HLE.out
              clear HLE
              have hRw := HRow.out
              have hBE := HBE.out
              have hsE := hBE.size
              have hgl : g < wr.heap.size := hRw.lt
              obtain ⟨w4, hw4⟩ : ∃ W, W = (wr.alloc (.cells #[.slice (some ⟨g, 0, none⟩) 64 64] 22)) := ⟨_, rfl⟩
              have hal : Below wr.heap.size wr w4 := by rw [hw4]; exact below_drewN ((Below.refl _ _).alloc (Nat.le_refl _) _) 0
              have HSe : Hid (Sees w4 wr.heap.size 0 [.slice (some ⟨g, 0, none⟩) (Bk.rowB l k).length 64]) := by rw [hw4, Bk.rowB_length]; exact (Row.new wr 22 [.slice (some ⟨g, 0, none⟩) 64 64]).sees
              have HR4 := Lib.hid ((HR.out.below hBE).below hal)
              have hszB := HB.out.size
              have hge := Hge.out
              have HG4 : Hid (g < w4.heap.size ∧ w.heap.size ≤ g ∧ (Bk.rowB l k).length ≤ 64 ∧ Sees w4 g 0 ((Bk.rowB l k).map V8)) := ⟨Nat.lt_of_lt_of_le hgl hal.size, by omega, by rw [Bk.rowB_length]; omega, (hRw.below hal hgl).sees⟩
              have Hne : Hid (u5.ownBlock ≠ some g) := by
                show _ ≠ _
                intro e
                obtain ⟨vs, ho, _⟩ := HR.out
                have := (ho.lt e).2
                omega
              have HB4 : Hid (Below w.heap.size w w4) := HB.out.trans ((hBE.trans (hal.mono hsE)).mono hszB)
              have HB4s : Hid (w.heap.size ≤ w4.heap.size) := HB4.out.size
              have HLk : Hid ((Bk.rowL k l).length ≤ 1000) := by show _ ≤ _; rw [Bk.rowL_length]; omega
              have HS : Hid (Bk.rowL k l ++ [Bk.rowB l k] = Bk.rowL (k + 1) l) := (Bk.rowL_succ k l).symm
              clear hRw hBE hsE hgl hal hszB hge HR HRow HBE
              go_wp2_with (at_builtin; rw [← hw4]; clear hw4; refine wpList_rowed rfl (.tmp 63) (.tmp 65) rfl w.heap.size w.heap.size _ (Bk.rowL k l) rfl HR4.out wr.heap.size 1 g 0 64 (Bk.rowB l k) rfl HSe.out HG4.out.1 HG4.out.2.1 Hne.out HG4.out.2.2.1 HG4.out.2.2.2 HLk.out HB4s.out ?_; intro v5 w5 HR5 hb5)
              go_roundw
              case rel => exact ⟨k + 1, by omega, by go_num, by have := HR5.out; rw [HS.out] at this; exact this, HB4.out.trans hb5⟩
              case measure => simp [RowKit.intOf]; omega
            · obtain ⟨q, hq⟩ : ∃ q, q = k / m := ⟨_, rfl⟩
              have hq100 : q ≤ 100 := by rw [hq]; exact Nat.le_trans (Nat.div_le_self _ _) (by omega)
              have Hquo : Hid (Int.tdiv (k : Int) (m : Int) = (q : Int)) := by show _ = _; rw [hq, Int.ofNat_tdiv]
              obtain ⟨y3, hy3⟩ : ∃ y, y = ((Bk.lay x 64).getD 63 0 + UInt8.ofNat q).toNat := ⟨_, rfl⟩
              obtain ⟨wz, hwz⟩ : ∃ W, W = wr.setCell ⟨g, 63, none⟩ (.int .u8 (y3 : Int)) := ⟨_, rfl⟩
              have HRow : Hid (Row wz g 5 ((Bk.rowB l k).map V8)) := by
                have : Bk.rowB l k = (Bk.lay x 64).set 63 ((Bk.lay x 64).getD 63 0 + UInt8.ofNat q) := by unfold Bk.rowB; rw [← HM.out, if_neg Hm0.out, if_pos (by omega), ← HXe.out, hq]
                rw [this, hwz, hy3]
                have := HLE.out.set 63 (V8 ((Bk.lay x 64).getD 63 0 + UInt8.ofNat q))
                rw [set_v8] at this
                exact this
              replace HBE : Hid (Below w2.heap.size w2 wz) := by
                rw [hwz]
                exact HBE.out.setCell (by rw [Hge.out]; exact Nat.le_refl _) _
              have hc63 : wr.cell? ⟨g, 63, none⟩ = some (.int .u8 ((Bk.lay x 64).getD 63 0).toNat) := row8 HLE.out 63 (by rw [lay_at]; omega)
              have hf63 := HLE.out.free 63
              have Hadd : Hid (((((Bk.lay x 64).getD 63 0).toNat : Int) + wrap64 (q : Int)) % 256 = (y3 : Int)) := by
                show (_ : Int) % 256 = _
                rw [Mr.w64 _ (by omega), hy3, UInt8.toNat_add, UInt8.toNat_ofNat']
                omega
              clear hy3
              generalize ((Bk.lay x 64).getD 63 0).toNat = y2 at *
              have hquo := Hquo.out
              have hm0' := Hm0.out
              clear hq hq100 HLE Hquo
              go_wp2
              refine wp_region_still_tail 11 (by kernel_rfl) (by kernel_rfl) ?_
              simp only [List.take_succ_cons, List.take_zero, List.drop_succ_cons, List.drop_zero]
              repeat still_step
              refine wpStill_nil ?_
              change wpList _ _ _ _ _ wr.drew
              have hRw := HRow.out
              have hBE := HBE.out
              have hsE := hBE.size
              have hgl : g < wz.heap.size := hRw.lt
              obtain ⟨w4, hw4⟩ : ∃ W, W = (wz.alloc (.cells #[.slice (some ⟨g, 0, none⟩) 64 64] 22)).drew := ⟨_, rfl⟩
              have hal : Below wz.heap.size wz w4 := by rw [hw4]; exact below_drewN ((Below.refl _ _).alloc (Nat.le_refl _) _) 1
              have HSe : Hid (Sees w4 wr.heap.size 0 [.slice (some ⟨g, 0, none⟩) (Bk.rowB l k).length 64]) := by rw [hw4, Bk.rowB_length, show wr.heap.size = wz.heap.size by rw [hwz]; simp [World.setCell]]; exact (Row.new wz 22 [.slice (some ⟨g, 0, none⟩) 64 64]).sees
              have HR4 := Lib.hid ((HR.out.below hBE).below hal)
              have hszB := HB.out.size
              have hge := Hge.out
              have HG4 : Hid (g < w4.heap.size ∧ w.heap.size ≤ g ∧ (Bk.rowB l k).length ≤ 64 ∧ Sees w4 g 0 ((Bk.rowB l k).map V8)) := ⟨Nat.lt_of_lt_of_le hgl hal.size, by omega, by rw [Bk.rowB_length]; omega, (hRw.below hal hgl).sees⟩
              have Hne : Hid (u5.ownBlock ≠ some g) := by
                show _ ≠ _
                intro e
                obtain ⟨vs, ho, _⟩ := HR.out
                have := (ho.lt e).2
                omega
              have HB4 : Hid (Below w.heap.size w w4) := HB.out.trans ((hBE.trans (hal.mono hsE)).mono hszB)
              have HB4s : Hid (w.heap.size ≤ w4.heap.size) := HB4.out.size
              have HLk : Hid ((Bk.rowL k l).length ≤ 1000) := by show _ ≤ _; rw [Bk.rowL_length]; omega
              have HS : Hid (Bk.rowL k l ++ [Bk.rowB l k] = Bk.rowL (k + 1) l) := (Bk.rowL_succ k l).symm
              clear hRw hBE hsE hgl hal hszB hge HR HRow HBE
              go_wp2_with (at_builtin; rw [Hadd.out, ← hwz]; clear hwz; rw [← hw4]; clear hw4; refine wpList_rowed rfl (.tmp 63) (.tmp 65) rfl w.heap.size w.heap.size _ (Bk.rowL k l) rfl HR4.out wr.heap.size 1 g 0 64 (Bk.rowB l k) rfl HSe.out HG4.out.1 HG4.out.2.1 Hne.out HG4.out.2.2.1 HG4.out.2.2.2 HLk.out HB4s.out ?_; intro v5 w5 HR5 hb5)
              go_roundw
              case rel => exact ⟨k + 1, by omega, by go_num, by have := HR5.out; rw [HS.out] at this; exact this, HB4.out.trans hb5⟩
              case measure => simp [RowKit.intOf]; omega
    · obtain rfl : k = n := by omega
      clear HPt
      go_wp2
      go_ret
      exact ⟨⟨_, rfl, HR⟩, HB.out⟩
end Go.Proofs.YthbmknpbcgnabaaGreatDoor
