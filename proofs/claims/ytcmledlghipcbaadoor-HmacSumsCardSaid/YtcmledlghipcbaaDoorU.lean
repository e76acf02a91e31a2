/-
  THE WALK of the reference's Above.
-/
import Derived.Test.YtcmledlghipcbaaDoorS
import Derived.Deep.RegionLaw
namespace Go.Proofs.YtcmledlghipcbaaDoor
open Go.RowKit Sha

theorem Digits_int (n : Int) (h0 : 0 ≤ n) (hn : n < 18446744073709551616) (w : World) :
    Calls Tryd.prog 23 #[.int .u64 n] w fun e w' => e = .returned (.slice (some ⟨w.heap.size, 0, none⟩) 4 4) ∧ w.alloc (.cells ((digitsN n.toNat).map V64).toArray 47) = w' := by
  obtain ⟨k, rfl⟩ := Int.eq_ofNat_of_zero_le h0
  rw [Int.toNat_natCast]
  exact Digits_any k (by omega) w

theorem oneC64 (l : List Nat) : ∀ y ∈ l.map V64, y.oneCell' = true := fun y hy => by obtain ⟨x, _, rfl⟩ := List.mem_map.1 hy; rfl

theorem own_at (w : World) (B g n : Nat) (e : TypeId) (ys : List Value) (hg : w.heap.size = g) (hl : ys.length = n) (hB : B ≤ g) (hn : n ≤ 1000000) : Own (w.alloc (.cells ys.toArray e)) B e (.slice (some ⟨g, 0, none⟩) n n) ys := by
  subst hg hl
  exact Own.lit w B e ys hB hn
theorem from_at (w : World) (g n : Nat) (e : TypeId) (ys : List Value) (hg : w.heap.size = g) (hl : ys.length = n) : From (w.alloc (.cells ys.toArray e)) (.slice (some ⟨g, 0, none⟩) n n) ys := by
  subst hg hl
  exact .inr ⟨_, 0, _, rfl, by simp, (Row.new w e ys).sees⟩
theorem getD_out (l : List Nat) (m : Nat) (h : l.length ≤ m) : l.getD m 0 = 0 := by rw [List.getD_eq_getElem?_getD, List.getElem?_eq_none h]; rfl
theorem Z64_length (n : Nat) : (Z64 n).length = n := List.length_replicate

set_option maxRecDepth 100000 in
set_option maxHeartbeats 1000000 in
theorem Above_z (z : Nat) (hz : z ≤ 10) (ab ao ac : Nat) (a : List Nat) (ha : a.length ≤ 100) (ha0 : 0 < a.length) (n : Nat) (hn : n < 18446744073709551616) (w : World) (hal : ab < w.heap.size) (hA : Sees w ab ao (a.map V64)) :
    Calls Tryd.prog 25 #[.slice (some ⟨ab, ao, none⟩) a.length ac, .int .u64 n, .int .i64 z] w fun e w' =>
      e = .returned (.bool (aboveN a n z)) ∧ Below w.heap.size w w' := by
  have hmk := fun W => make64 z (by omega) (z : Int) rfl W
  obtain ⟨ds, hds⟩ : ∃ ds, ds = (digitsN n).map V64 := ⟨_, rfl⟩
  have HD := Lib.hid hds
  have Hlen : Hid (ds.length = 4) := by show _ = _; rw [hds]; rfl
  have H1 : Hid (∀ y ∈ ds, y.oneCell' = true) := by rw [hds]; exact oneC64 _
  have hdig : ∀ W : World, Calls Tryd.prog 23 #[.int .u64 n] W fun e w' => e = .returned (.slice (some ⟨W.heap.size, 0, none⟩) 4 4) ∧ W.alloc (.cells ds.toArray 47) = w' := fun W => by rw [hds]; exact Digits_any n hn W
  have HDIG := Lib.hid hdig
  clear hds hdig
  have O1 : Hid (Own ((w.alloc (.cells (Z64 z).toArray 47)).alloc (.cells ds.toArray 47)).drew w.heap.size 47 (.slice (some ⟨w.heap.size, 0, none⟩) z z) (Z64 z)) := ((own_at w _ _ z _ _ rfl (Z64_length z) (Nat.le_refl _) (by omega)).alloc _).drew
  have F1 : Hid (From ((w.alloc (.cells (Z64 z).toArray 47)).alloc (.cells ds.toArray 47)).drew (.slice (some ⟨w.heap.size + 1, 0, none⟩) 4 4) ds) := from_at (w.alloc _) _ 4 _ _ (by simp) Hlen.out
  have O2 : Hid (Own ((w.alloc (.cells ds.toArray 47)).alloc (.cells (Z64 z).toArray 47)).drew w.heap.size 47 (.slice (some ⟨w.heap.size + 1, 0, none⟩) z z) (Z64 z)) := (own_at (w.alloc _) _ _ z _ _ (by simp) (Z64_length z) (by omega) (by omega)).drew
  have F2 : Hid (From ((w.alloc (.cells ds.toArray 47)).alloc (.cells (Z64 z).toArray 47)).drew (.slice (some ⟨w.heap.size, 0, none⟩) 4 4) ds) := .inr ⟨_, 0, 4, by rw [Hlen.out], by simp; omega, ((Row.new w 47 ds).alloc _).sees⟩
  have HL : Hid ((Z64 z).length + ds.length ≤ 100000000) := by show _ ≤ _; rw [Z64_length, Hlen.out]; omega
  go_enter Tryd.func25, Tryd.ntmps25
  go_wp2
  go_region_law (first
    | (refine step_app rfl (.tmp 12) (.tmp 14) 54 rfl w.heap.size 47 Tryd.underlying54 info64u rfl (by decide) _ (Z64 z) rfl (by first | exact O1.out | exact O2.out) _ ds rfl (by first | exact F1.out | exact F2.out) H1.out HL.out (by simp; omega) ?_; intro v1 w1 hown1 hg1 _)
    | (go_simp; go_at_call 23; refine (HDIG.out _).mono ?_; rintro e w' ⟨rfl, rfl⟩))
  all_goals
    have hb1 : Below w.heap.size w w1 := by
      first
        | exact below_app (((Below.refl _ _).alloc (Nat.le_refl _) _).alloc (by simp) _).drew O1.out hg1 (Nat.le_refl _) (by simp; omega)
        | exact below_app (((Below.refl _ _).alloc (Nat.le_refl _) _).alloc (by simp) _).drew O2.out hg1 (Nat.le_refl _) (by simp; omega)
    have Heq : Hid (Z64 z ++ ds = (List.replicate z 0 ++ digitsN n).map V64) := by show _ = _; rw [Z64_map, HD.out, List.map_append]
    rw [Heq.out] at hown1
    have HBl : Hid ((List.replicate z 0 ++ digitsN n).length = z + 4) := by show _ = _; simp [digitsN]
    obtain ⟨g1, c1, hv1, _, _, hs1⟩ := hown1.form (by rw [List.length_map, HBl.out]; omega)
    rw [List.length_map, HBl.out] at hv1
    subst hv1
    have HBs := Lib.hid hs1
    have HA := Lib.hid hA
    have Hab : Hid (aboveN a n z = aboveTo a (List.replicate z 0 ++ digitsN n) (a.length + (z + 4))) := rfl
    clear hmk O1 O2 F1 F2 HL HDIG hown1 hg1 hs1 hA Heq HD Hlen H1
    go_wp2
    go_loop [8, 9, 10] (fun i _ _ => ∃ k : Nat, k ≤ a.length + (z + 4) ∧ i = .int .i64 ((k : Int) - 1) ∧ Hid (aboveTo a (List.replicate z 0 ++ digitsN n) (a.length + (z + 4)) = aboveTo a (List.replicate z 0 ++ digitsN n) k)) (fun i _ _ => (intOf i + 1).toNat)
    case atStart => exact ⟨a.length + (z + 4), Nat.le_refl _, by go_num, rfl⟩
    case round =>
      obtain ⟨k, hk, rfl, Hk⟩ := hrel
      match k, hk, Hk with
      | 0, _, Hk =>
        rw [show (((0 : Nat) : Int) - 1) = -1 from rfl]
        go_wp2
        go_ret
        exact ⟨by rw [Hab.out, Hk.out]; rfl, hb1⟩
      | m + 1, hk, Hk =>
        rw [show (((m + 1 : Nat) : Int) - 1) = (m : Int) by omega]
        have Hst : Hid (aboveTo a (List.replicate z 0 ++ digitsN n) (m + 1) = if a.getD m 0 = (List.replicate z 0 ++ digitsN n).getD m 0 then aboveTo a (List.replicate z 0 ++ digitsN n) m else decide ((List.replicate z 0 ++ digitsN n).getD m 0 < a.getD m 0)) := rfl
        by_cases hma : m < a.length
        · by_cases hmb : m < z + 4
          · have ca : w1.cell? ⟨ab, ao + m, none⟩ = some (.int .u64 (a.getD m 0 : Nat)) := at64 (HA.out.below hb1 hal) m hma
            generalize a.getD m 0 = X at *
            have cb : w1.cell? ⟨g1, m, none⟩ = some (.int .u64 ((List.replicate z 0 ++ digitsN n).getD m 0 : Nat)) := by
              have := at64 HBs.out m (by rw [HBl.out]; exact hmb)
              rwa [Nat.zero_add] at this
            generalize (List.replicate z 0 ++ digitsN n).getD m 0 = Y at *
            by_cases hxy : X = Y
            · subst hxy
              rw [if_pos rfl] at Hst
              go_wp2
              go_round
              case rel => exact ⟨m, by omega, rfl, by rw [← Hst.out]; exact Hk.out⟩
              case measure => simp [intOf] <;> omega
            · have hne : (((X : Nat) : Int) != ((Y : Nat) : Int)) = true := by rw [bne_iff_ne]; omega
              rw [if_neg hxy] at Hst
              go_wp2
              go_ret
              exact ⟨by rw [Hab.out, Hk.out, Hst.out]; simp, hb1⟩
          · have ca : w1.cell? ⟨ab, ao + m, none⟩ = some (.int .u64 (a.getD m 0 : Nat)) := at64 (HA.out.below hb1 hal) m hma
            generalize a.getD m 0 = X at *
            rw [getD_out (List.replicate z 0 ++ digitsN n) m (by rw [HBl.out]; omega)] at Hst
            by_cases hxy : X = 0
            · subst hxy
              rw [if_pos rfl] at Hst
              go_wp2
              go_round
              case rel => exact ⟨m, by omega, rfl, by rw [← Hst.out]; exact Hk.out⟩
              case measure => simp [intOf] <;> omega
            · have hne : (((X : Nat) : Int) != ((0 : Nat) : Int)) = true := by rw [bne_iff_ne]; omega
              rw [if_neg hxy] at Hst
              go_wp2
              go_ret
              exact ⟨by rw [Hab.out, Hk.out, Hst.out]; simp, hb1⟩
        · by_cases hmb : m < z + 4
          · rw [getD_out a m (by omega)] at Hst
            have cb : w1.cell? ⟨g1, m, none⟩ = some (.int .u64 ((List.replicate z 0 ++ digitsN n).getD m 0 : Nat)) := by
              have := at64 HBs.out m (by rw [HBl.out]; exact hmb)
              rwa [Nat.zero_add] at this
            generalize (List.replicate z 0 ++ digitsN n).getD m 0 = Y at *
            by_cases hxy : 0 = Y
            · subst hxy
              rw [if_pos rfl] at Hst
              go_wp2
              go_round
              case rel => exact ⟨m, by omega, rfl, by rw [← Hst.out]; exact Hk.out⟩
              case measure => simp [intOf] <;> omega
            · have hne : (((0 : Nat) : Int) != ((Y : Nat) : Int)) = true := by rw [bne_iff_ne]; omega
              rw [if_neg hxy] at Hst
              go_wp2
              go_ret
              exact ⟨by rw [Hab.out, Hk.out, Hst.out]; simp, hb1⟩
          · rw [getD_out a m (by omega)] at Hst
            rw [getD_out (List.replicate z 0 ++ digitsN n) m (by rw [HBl.out]; omega)] at Hst
            by_cases hxy : 0 = 0
            · clear hxy
              rw [if_pos rfl] at Hst
              go_wp2
              go_round
              case rel => exact ⟨m, by omega, rfl, by rw [← Hst.out]; exact Hk.out⟩
              case measure => simp [intOf] <;> omega
            · exact absurd rfl hxy
end Go.Proofs.YtcmledlghipcbaaDoor
