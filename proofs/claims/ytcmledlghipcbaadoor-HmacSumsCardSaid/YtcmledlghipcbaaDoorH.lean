/-
  THE WALKS of the reference's Words and Come.
-/
import Derived.Test.YtcmledlghipcbaaDoorA
import Derived.Test.YtcmledlghipcbaaDoorN
namespace Go.Proofs.YtcmledlghipcbaaDoor
open Go.RowKit Sha

theorem info32 : (Tryd.prog.info? 49).map (fun i => (i.zero, i.size, i.bytes)) = some (some (.int .u32 0), 1, 4) := by kernel_rfl
theorem info8 : (Tryd.prog.info? 5).map (fun i => (i.zero, i.size, i.bytes)) = some (some (.int .u8 0), 1, 1) := by kernel_rfl

theorem oneC32 (l : List UInt32) : ∀ y ∈ l.map V32, y.oneCell' = true := fun y hy => by obtain ⟨x, _, rfl⟩ := List.mem_map.1 hy; rfl
theorem oneC8 (l : List UInt8) : ∀ y ∈ l.map V8, y.oneCell' = true := fun y hy => by obtain ⟨x, _, rfl⟩ := List.mem_map.1 hy; rfl
/-- A slice literal of words. -/
theorem from_new (w : World) (e : TypeId) (ys : List Value) : From (w.alloc (.cells ys.toArray e)) (.slice (some ⟨w.heap.size, 0, none⟩) ys.length ys.length) ys :=
  .inr ⟨w.heap.size, 0, ys.length, rfl, by simp, (Row.new w e ys).sees⟩

/-- n*256 + the next byte, four times. -/
def acc4 (a b c d : UInt8) : Nat → UInt32
  | 0 => 0
  | 1 => UInt32.ofNat a.toNat
  | 2 => UInt32.ofNat (a.toNat * 256 + b.toNat)
  | 3 => UInt32.ofNat (a.toNat * 65536 + b.toNat * 256 + c.toNat)
  | _ => be a b c d
theorem acc4_step (a b c d : UInt8) (k : Nat) (hk : k < 4) (x : UInt8) (hx : x = [a, b, c, d].getD k 0) :
    (((acc4 a b c d k).toNat : Int) * 256 + x.toNat) % 4294967296 = ((acc4 a b c d (k + 1)).toNat : Int) := by
  have ha := lt8 a; have hb := lt8 b; have hc := lt8 c; have hd := lt8 d
  subst hx
  match k, hk with
  | 0, _ => simp only [acc4]; rw [toNat_ofNat32 (by omega)]; simp; omega
  | 1, _ => simp only [acc4]; rw [toNat_ofNat32 (by omega), toNat_ofNat32 (by omega)]; simp; omega
  | 2, _ => simp only [acc4]; rw [toNat_ofNat32 (by omega), toNat_ofNat32 (by omega)]; simp; omega
  | 3, _ => simp only [acc4]; rw [toNat_ofNat32 (by omega), be_toNat]; simp; omega

theorem shr_eq (p : UInt32) (n k : Nat) (hk : k = 2 ^ n) : ((p.toNat : Int) / (k : Int) % 4294967296) = ((shr p n).toNat : Int) := by
  have h := lt32 p
  have h2 : p.toNat / k ≤ p.toNat := Nat.div_le_self _ _
  rw [shr_toNat, ← hk, ← Int.natCast_ediv]
  generalize p.toNat / k = z at *
  omega
theorem mix_eq2 (u v p q : UInt32) :
    (((u.toNat : Int) + v.toNat + bits .xor .u32 (bits .xor .u32 (rot p 7).toNat (rot p 18).toNat) ((p.toNat : Int) / 8 % 4294967296)) % 4294967296 + bits .xor .u32 (bits .xor .u32 (rot q 17).toNat (rot q 19).toNat) ((q.toNat : Int) / 1024 % 4294967296)) % 4294967296 = ((mix u v p q).toNat : Int) := by
  have e1 := shr_eq p 3 8 rfl
  have e2 := shr_eq q 10 1024 rfl
  rw [show ((8 : Nat) : Int) = 8 from rfl] at e1
  rw [show ((1024 : Nat) : Int) = 1024 from rfl] at e2
  rw [e1, e2, ← mix_eq]
  omega

set_option maxRecDepth 100000 in
set_option maxHeartbeats 1000000 in
theorem Words_any (b off cap : Nat) (bs : List UInt8) (hbs : bs.length = 64) (w : World) (hb : b < w.heap.size) (h : Sees w b off (bs.map V8)) :
    Calls Tryd.prog 26 #[.slice (some ⟨b, off, none⟩) 64 cap] w fun e w' => ∃ v, e = .returned v ∧ Own w' w.heap.size 49 v ((words bs 64).map V32) ∧ Below w.heap.size w w' := by
  have Hbs := Lib.hid hbs
  clear hbs
  go_enter Tryd.func26, Tryd.ntmps26
  go_wp2
  go_loopw [3, 4, 5, 6, 7, 8] (fun m i _ _ _ _ wr => ∃ k : Nat, k ≤ 64 ∧ i = .int .i64 k ∧ Own wr w.heap.size 49 m ((words bs k).map V32) ∧ Below w.heap.size w wr) (fun _ i _ _ _ _ _ => 64 - (intOf i).toNat)
  case atStart => exact ⟨0, by omega, rfl, Own.nil _ _ _, Below.refl _ _⟩
  case round =>
    obtain ⟨k, hk, rfl, hown, hbel⟩ := hrel
    have hsz := hbel.size
    by_cases hlt : k < 64
    · by_cases h16 : k < 16
      · have hs := h.below hbel hb
        have Hc : Hid (∀ j, j < 4 → wr.cell? ⟨b, off + (4 * k + j), none⟩ = some (.int .u8 ([bs.getD (4 * k) 0, bs.getD (4 * k + 1) 0, bs.getD (4 * k + 2) 0, bs.getD (4 * k + 3) 0].getD j 0).toNat)) := by
          intro j hj
          match j, hj with
          | 0, _ => exact at8 hs _ (by rw [Hbs.out]; omega)
          | 1, _ => exact at8 hs _ (by rw [Hbs.out]; omega)
          | 2, _ => exact at8 hs _ (by rw [Hbs.out]; omega)
          | 3, _ => exact at8 hs _ (by rw [Hbs.out]; omega)
        have HW := Lib.hid (words_head bs k h16)
        clear hs
        generalize bs.getD (4 * k) 0 = x0 at *
        generalize bs.getD (4 * k + 1) 0 = x1 at *
        generalize bs.getD (4 * k + 2) 0 = x2 at *
        generalize bs.getD (4 * k + 3) 0 = x3 at *
        have Hown := Lib.hid hown
        clear hown
        go_wp2
        go_loop [5, 6] (fun n j => ∃ i : Nat, i ≤ 4 ∧ j = .int .i64 i ∧ n = .int .u32 (acc4 x0 x1 x2 x3 i).toNat) (fun _ j => 4 - (intOf j).toNat)
        case atStart => exact ⟨0, by omega, rfl, rfl⟩
        case round =>
          obtain ⟨i, hi, rfl, rfl⟩ := hrel
          by_cases hlt4 : i < 4
          · have hc := Hc.out i hlt4
            have Hst := Lib.hid (acc4_step x0 x1 x2 x3 i hlt4 _ rfl)
            generalize [x0, x1, x2, x3].getD i 0 = x at *
            go_wp2
            go_round
            case rel => exact ⟨i + 1, by omega, by go_num, int32 (by rw [← Hst.out]; omega)⟩
            case measure => simp [intOf]; omega
          · obtain rfl : i = 4 := by omega
            rw [show ((4 : Nat) : Int) = 4 from rfl]
            have HL : Hid (((words bs k).map V32).length + 1 ≤ 100000000) := by show _ ≤ _; rw [List.length_map, words_length]; omega
            have e4 : acc4 x0 x1 x2 x3 4 = be x0 x1 x2 x3 := rfl
            rw [e4]
            generalize be x0 x1 x2 x3 = y at *
            go_wp2_with (at_builtin; refine wpList_app rfl (.tmp 69) (.tmp 71) 34 rfl w.heap.size 49 Tryd.underlying34 info32 rfl (by decide) _ ((words bs k).map V32) rfl (Hown.out.alloc _) _ [V32 y] rfl (from_new wr 49 [V32 y]) (oneC32 [y]) HL.out (by simp; omega) ?_; intro v' w1 hown1 hg1 _)
            go_roundw
            case rel =>
              refine ⟨k + 1, by omega, by go_num, ?_, ?_⟩
              · rw [HW.out, List.map_append]; exact hown1
              · exact below_app (hbel.alloc hsz _) (Hown.out.alloc _) hg1 (Nat.le_refl _) (by simp; omega)
            case measure => simp [intOf]; omega
      · have h16' : 16 ≤ k := by omega
        obtain ⟨g, cg, hv, hg1, hg2, hsee⟩ := hown.form (by rw [List.length_map, words_length]; omega)
        rw [List.length_map, words_length] at hv
        have hg : ∀ j, j < k → wr.cell? ⟨g, j, none⟩ = some (.int .u32 ((words bs k).getD j 0).toNat) := fun j hj => by
          have := at32 hsee j (by rw [words_length]; omega)
          rwa [Nat.zero_add] at this
        have HW := Lib.hid (words_tail bs k h16')
        obtain ⟨u, hu⟩ : ∃ u, u = (words bs k).getD (k - 16) 0 := ⟨_, rfl⟩
        obtain ⟨x, hx⟩ : ∃ v, v = (words bs k).getD (k - 7) 0 := ⟨_, rfl⟩
        obtain ⟨p, hp⟩ : ∃ p, p = (words bs k).getD (k - 15) 0 := ⟨_, rfl⟩
        obtain ⟨q, hq⟩ : ∃ q, q = (words bs k).getD (k - 2) 0 := ⟨_, rfl⟩
        have g16 := hg (k - 16) (by omega)
        have g7 := hg (k - 7) (by omega)
        have g15 := hg (k - 15) (by omega)
        have g2 := hg (k - 2) (by omega)
        rw [← hu, ← hx, ← hp, ← hq] at HW
        rw [← hp] at g15
        rw [← hq] at g2
        rw [← hu] at g16
        rw [← hx] at g7
        rw [hv] at hown ⊢
        have Hown := Lib.hid hown
        have HL : Hid (((words bs k).map V32).length + 1 ≤ 100000000) := by show _ ≤ _; rw [List.length_map, words_length]; omega
        clear hg hu hx hp hq hsee hv hown
        go_wp2
        go_quiet ((go_at_call 27; exact Calls.quiet_of_same (Turn_same _ _ (by decide) (by decide) _)))
        rw [mix_eq2]
        generalize mix u x p q = y at *
        go_wp2_with (at_builtin; refine wpList_app rfl (.tmp 69) (.tmp 71) 34 rfl w.heap.size 49 Tryd.underlying34 info32 rfl (by decide) _ ((words bs k).map V32) rfl ((Hown.out.drewN nq).alloc _) _ [V32 y] rfl (from_new (wr.drewN nq) 49 [V32 y]) (oneC32 [y]) HL.out (by simp; omega) ?_; intro v' w1 hown1 hgr _)
        go_roundw
        case rel =>
          refine ⟨k + 1, by omega, by go_num, ?_, ?_⟩
          · rw [HW.out, List.map_append]; exact hown1
          · exact below_app ((below_drewN hbel nq).alloc (by simpa using hsz) _) ((Hown.out.drewN nq).alloc _) hgr (Nat.le_refl _) (by simp; omega)
        case measure => simp [intOf]; omega
    · obtain rfl : k = 64 := by omega
      rw [show ((64 : Nat) : Int) = 64 from rfl]
      go_wp2
      go_ret
      exact ⟨_, rfl, hown, hbel⟩
end Go.Proofs.YtcmledlghipcbaaDoor
