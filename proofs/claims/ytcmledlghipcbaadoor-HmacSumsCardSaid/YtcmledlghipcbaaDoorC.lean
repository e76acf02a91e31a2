/-
  THE WALK of the program's process: a block changes the state as chapter 1 says.
-/
import Derived.Test.YtcmledlghipcbaaDoorB
namespace Go.Proofs.YtcmledlghipcbaaDoor
open Go.RowKit Sha

theorem cells_of_state {w : World} {S : Nat} {t : TypeId} {s : St} (h : Row w S t (s.list.map V32)) :
    w.cell? ⟨S, 0, none⟩ = some (.int .u32 s.a.toNat) ∧ w.cell? ⟨S, 1, none⟩ = some (.int .u32 s.b.toNat) ∧ w.cell? ⟨S, 2, none⟩ = some (.int .u32 s.c.toNat) ∧ w.cell? ⟨S, 3, none⟩ = some (.int .u32 s.d.toNat) ∧
    w.cell? ⟨S, 4, none⟩ = some (.int .u32 s.e.toNat) ∧ w.cell? ⟨S, 5, none⟩ = some (.int .u32 s.f.toNat) ∧ w.cell? ⟨S, 6, none⟩ = some (.int .u32 s.g.toNat) ∧ w.cell? ⟨S, 7, none⟩ = some (.int .u32 s.h.toNat) :=
  ⟨h.cell 0, h.cell 1, h.cell 2, h.cell 3, h.cell 4, h.cell 5, h.cell 6, h.cell 7⟩

/-- The call of schedule, and its row laid into a block of its own. -/
theorem info64 : (Tryd.prog.info? 70).map (·.size) = some 64 := by kernel_rfl

theorem schedule_var (b off cap : Nat) (bs : List UInt8) (hbs : bs.length = 64) (w : World) (hb : b < w.heap.size) (h : Sees w b off (bs.map V8)) :
    Calls Tryd.prog 33 #[.slice (some ⟨b, off, none⟩) 64 cap] w fun e w' => ∃ rs : List Value, Hid (rs = (words bs 64).map V32) ∧ e = .returned (.agg rs.toArray) ∧ Below w.heap.size w w' :=
  (schedule_any b off cap bs hbs w hb h).mono fun _ _ h => ⟨_, rfl, h⟩

theorem stored_state {w wr : World} {S : Nat} {t : TypeId} {s : St} (a b c d e f g h : UInt32) (hr : Row wr S t (s.list.map V32)) (hg : w.grownBy wr (some S)) :
    ∀ X, X = ((((((((wr.setCell ⟨S, 0, none⟩ (.int .u32 (((s.a.toNat : Int) + a.toNat) % 4294967296))).setCell ⟨S, 1, none⟩ (.int .u32 (((s.b.toNat : Int) + b.toNat) % 4294967296))).setCell ⟨S, 2, none⟩ (.int .u32 (((s.c.toNat : Int) + c.toNat) % 4294967296))).setCell ⟨S, 3, none⟩ (.int .u32 (((s.d.toNat : Int) + d.toNat) % 4294967296))).setCell ⟨S, 4, none⟩ (.int .u32 (((s.e.toNat : Int) + e.toNat) % 4294967296))).setCell ⟨S, 5, none⟩ (.int .u32 (((s.f.toNat : Int) + f.toNat) % 4294967296))).setCell ⟨S, 6, none⟩ (.int .u32 (((s.g.toNat : Int) + g.toNat) % 4294967296))).setCell ⟨S, 7, none⟩ (.int .u32 (((s.h.toNat : Int) + h.toNat) % 4294967296))) →
      Row X S t ((s.plus ⟨a, b, c, d, e, f, g, h⟩).list.map V32) ∧ w.grownBy X (some S) := by
  rintro X rfl
  rw [add32, add32, add32, add32, add32, add32, add32, add32]
  refine ⟨(((((((hr.set 0 _).set 1 _).set 2 _).set 3 _).set 4 _).set 5 _).set 6 _).set 7 _, ?_⟩
  iterate 8 refine by_setCell ?_ (.inl rfl) _
  exact hg

set_option maxRecDepth 100000 in
set_option maxHeartbeats 1000000 in
theorem process_any (S b off cap : Nat) (s : St) (K : List UInt32) (hKl : K.length = 64) (bs : List UInt8) (hbs : bs.length = 64) (w : World) (hb : b < w.heap.size) (hS : Row w S 61 (s.list.map V32))
    (hK : Sees w 0 0 (K.map V32)) (h : Sees w b off (bs.map V8)) :
    Calls Tryd.prog 30 #[.pointer (some ⟨S, 0, none⟩), .slice (some ⟨b, off, none⟩) 64 cap] w fun e w' => e = .returned (.tuple #[]) ∧ Row w' S 61 ((come K s bs).list.map V32) ∧ w.grownBy w' (some S) := by
  have HKl := Lib.hid hKl
  have Hbs := Lib.hid hbs
  have h0 : 0 < w.heap.size := Nat.lt_of_le_of_lt (Nat.zero_le b) hb
  have hSl := hS.lt
  clear hKl hbs
  go_enter Tryd.func30, Tryd.ntmps30
  go_wp2_with fail
  refine (schedule_var b off cap bs Hbs.out w hb h).mono ?_
  rintro e w1 ⟨rs, Hrs, rfl, hb1⟩
  have Hone : Hid (rs.toArray.all (·.oneCell') = true) := by rw [Hrs.out]; exact one32 _
  have Hsz : Hid (rs.toArray.size = 64) := by rw [Hrs.out]; show _ = _; simp [words_length]
  have hsz1 := hb1.size
  go_wp2_with (refine wpList_store_row rfl 70 (.tmp 4) (.tmp 17) rfl w1.heap.size rs.toArray rfl rfl 70 _ (Row.new w1 _ (List.replicate 64 (.int .u32 0))) (by rw [Hsz.out]; kernel_rfl) (by rw [Hsz.out]; rfl) Hone.out ?_)
  go_frame
  refine leave_wp (fun w2 => Row w2 w1.heap.size 70 rs ∧ Row w2 S 61 (s.list.map V32) ∧ Sees w2 0 0 (K.map V32) ∧ w.grownBy w2 (some S)) ?_ ?_
  · have r1 : Row w1 S 61 (s.list.map V32) := hS.below hb1 hSl
    have k1 : Sees w1 0 0 (K.map V32) := hK.below hb1 h0
    refine ⟨(Row.new w1 _ (List.replicate 64 (.int .u32 0))).whole rs, (r1.alloc _).wholeOff (by omega) _, ?_, ?_⟩
    · exact (k1.alloc (by omega) _).same (setRow_other _ _ _ _ (by omega))
    · exact by_setRow (by_alloc (below_to_by hb1 _) _) (.inr hsz1) _
  rintro w2 ⟨hM, hS2, hK2, hg2⟩
  have hMc : ∀ j, j < 64 → w2.cell? ⟨w1.heap.size, j, none⟩ = some (.int .u32 ((words bs 64).getD j 0).toNat) := fun j hj => by
    rw [hM.cell, Hrs.out, List.getElem?_map, List.getElem?_eq_getElem (by rw [words_length]; exact hj)]; simp [V32, words_length, hj]
  have hKc : ∀ j, j < 64 → w2.cell? ⟨0, j, none⟩ = some (.int .u32 (K.getD j 0).toNat) := fun j hj => by
    have := at32 hK2 j (by rw [HKl.out]; exact hj)
    rwa [Nat.zero_add] at this
  obtain ⟨c0, c1, c2, c3, c4, c5, c6, c7⟩ := cells_of_state hS2
  have HMc := Lib.hid hMc
  have HKc := Lib.hid hKc
  have HS2 := Lib.hid hS2
  clear hMc hKc hK2 hM hS hK h hS2
  go_quiet (fail)
  go_wp2
  go_loopw [5, 6, 7, 8, 9, 10, 11, 12, 13, 14, 15] (fun va vb vc vd ve vf vg vh i _ _ wr => ∃ (k : Nat) (a b c d e f g h : UInt32), k ≤ 64 ∧ i = .int .i64 k ∧ Hid (⟨a, b, c, d, e, f, g, h⟩ = rnds K (words bs 64) s k) ∧
    va = .int .u32 a.toNat ∧ vb = .int .u32 b.toNat ∧ vc = .int .u32 c.toNat ∧ vd = .int .u32 d.toNat ∧ ve = .int .u32 e.toNat ∧ vf = .int .u32 f.toNat ∧ vg = .int .u32 g.toNat ∧ vh = .int .u32 h.toNat ∧ Hid (∃ n, wr = w2.drewN n)) (fun _ _ _ _ _ _ _ _ i _ _ _ => 64 - (intOf i).toNat)
  case atStart => exact ⟨0, _, _, _, _, _, _, _, _, by omega, rfl, rfl, rfl, rfl, rfl, rfl, rfl, rfl, rfl, rfl, ⟨_, rfl⟩⟩
  case round =>
    clear c0 c1 c2 c3 c4 c5 c6 c7
    obtain ⟨k, a, b, c, d, e, f, g, h, hk, rfl, Ht, rfl, rfl, rfl, rfl, rfl, rfl, rfl, rfl, Hwr⟩ := hrel
    by_cases hlt : k < 64
    · have Hst : Hid (rnds K (words bs 64) s (k + 1) = rnd ⟨a, b, c, d, e, f, g, h⟩ (K.getD k 0) ((words bs 64).getD k 0)) := by rw [Ht.out]; rfl
      have gK : wr.cell? ⟨0, k, none⟩ = some (.int .u32 (K.getD k 0).toNat) := by obtain ⟨n, rfl⟩ := Hwr.out; exact HKc.out k hlt
      have gM : wr.cell? ⟨w1.heap.size, k, none⟩ = some (.int .u32 ((words bs 64).getD k 0).toNat) := by obtain ⟨n, rfl⟩ := Hwr.out; exact HMc.out k hlt
      generalize K.getD k 0 = cc at *
      generalize (words bs 64).getD k 0 = mm at *
      go_wp2
      go_quiet ((go_at_call 34; exact Calls.quiet_of_same (turn_same _ _ (by decide) (by decide) _)))
      go_wp2_with ((with_reducible refine (turn_same _ _ (by decide) (by decide) _).mono ?_); rintro e w' ⟨rfl, rfl⟩)
      go_roundw
      case rel =>
        rw [not32, one_eq a b c d e f g h cc mm, two_eq a b c d e f g h, add32, add32]
        exact ⟨k + 1, _, _, _, _, _, _, _, _, by omega, by go_num, Hst.out.symm, rfl, rfl, rfl, rfl, rfl, rfl, rfl, rfl, by obtain ⟨n, rfl⟩ := Hwr.out; exact ⟨_, World.drewN_drewN _ _ _⟩⟩
      case measure => simp [intOf]; omega
    · obtain rfl : k = 64 := by omega
      have hSr : Row wr S 61 (s.list.map V32) := by obtain ⟨n, rfl⟩ := Hwr.out; exact HS2.out.drewN n
      have hgr : w.grownBy wr (some S) := by obtain ⟨n, rfl⟩ := Hwr.out; exact by_drewN hg2 n
      have hend : Hid (come K s bs = s.plus ⟨a, b, c, d, e, f, g, h⟩) := by rw [Ht.out]; rfl
      clear Ht HKc HMc HS2 Hwr hg2 Hrs
      obtain ⟨c0, c1, c2, c3, c4, c5, c6, c7⟩ := cells_of_state hSr
      have f0 := hSr.free 0
      have f1 := hSr.free 1
      have f2 := hSr.free 2
      have f3 := hSr.free 3
      have f4 := hSr.free 4
      have f5 := hSr.free 5
      have f6 := hSr.free 6
      have f7 := hSr.free 7
      go_wp2
      go_region
      go_wp2
      go_region
      go_wp2
      go_region
      go_wp2
      go_region
      go_wp2
      go_region
      go_wp2
      go_region
      go_wp2
      go_region
      go_wp2
      go_region
      go_wp2
      go_end0
      obtain ⟨q1, q2⟩ := stored_state a b c d e f g h hSr hgr _ rfl
      rw [hend.out]
      exact ⟨rfl, q1.drew.drew.drew.drew.drew.drew.drew.drew, by_drew (by_drew (by_drew (by_drew (by_drew (by_drew (by_drew (by_drew q2)))))))⟩
end Go.Proofs.YtcmledlghipcbaaDoor
