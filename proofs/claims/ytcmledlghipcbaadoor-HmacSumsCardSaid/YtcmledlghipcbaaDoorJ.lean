/-
  THE WALK of the reference's Filled.
-/
import Derived.Test.YtcmledlghipcbaaDoorI
import Derived.Test.YtcmledlghipcbaaDoorQ
namespace Go.Proofs.YtcmledlghipcbaaDoor
open Go.RowKit Sha

/-- The last i of the 8 bytes. -/
def tailB (L : Nat) : Nat → List UInt8
  | 0 => []
  | i + 1 => UInt8.ofNat (L / 256 ^ i) :: tailB L i
theorem tailB_8 (L : Nat) : tailB L 8 = be8 L := by simp [tailB, be8]
theorem tailB_length (L i : Nat) : (tailB L i).length = i := by
  induction i with
  | zero => rfl
  | succ i ih => simp [tailB, ih]

/-- A slice's length. -/
def sliceLen : Value → Nat
  | .slice _ n _ => n
  | _ => 0

set_option maxRecDepth 100000 in
set_option maxHeartbeats 1000000 in
theorem Filled_gen (A : Option Addr) (n cap : Nat) (bs : List UInt8) (hn : bs.length = n) (hl : n ≤ 1000000) (w : World) (hA : From w (.slice A n cap) (bs.map V8)) :
    Calls Tryd.prog 20 #[.slice A n cap] w fun e w' => ∃ v, e = .returned v ∧ Own w' w.heap.size 5 v ((filled bs).map V8) ∧ Below w.heap.size w w' := by
  have HF : Hid (From (w.alloc (.cells #[] 5)) (.slice A n cap) (bs.map V8)) := hA.alloc _
  have HO : Hid (Own (w.alloc (.cells #[] 5)) w.heap.size 5 (.slice (some ⟨w.heap.size, 0, none⟩) 0 0) []) := Own.lit w _ _ [] (Nat.le_refl _) (by decide)
  have Hn := Lib.hid hn
  have H1 := Lib.hid (oneC8 bs)
  have HL : Hid (([] : List Value).length + (bs.map V8).length ≤ 100000000) := by show _ ≤ _; rw [List.length_map, hn]; simp; omega
  have HL2 : Hid ((bs.map V8).length + [V8 128].length ≤ 100000000) := by show _ ≤ _; rw [List.length_map, hn]; simp; omega
  clear hA hn
  go_enter Tryd.func20, Tryd.ntmps20
  go_wp2_with (first
    | (at_builtin; refine wpList_app rfl (.tmp 7) (.tmp 8) 22 rfl w.heap.size 5 Tryd.underlying22 info8 rfl (by decide) _ [] rfl HO.out _ (bs.map V8) rfl HF.out H1.out HL.out (by simp) ?_; intro v1 w1 hown1 hg1 _; have hb1 : Below w.heap.size w w1 := by_to_below' hg1; have hsz1 := hb1.size; rw [List.nil_append] at hown1; have HO1 := Lib.hid hown1; clear hown1 hg1)
    | (at_builtin; refine wpList_app rfl (.tmp 9) (.tmp 10) 22 rfl w.heap.size 5 Tryd.underlying22 info8 rfl (by decide) _ (bs.map V8) rfl (HO1.out.alloc _) _ [V8 128] rfl (from_new w1 5 [V8 128]) (oneC8 [128]) HL2.out (by simp; omega) ?_; intro v2 w2 hown2 hg2 _; have hb2 : Below w.heap.size w w2 := below_app (hb1.alloc hsz1 _) (HO1.out.alloc _) hg2 (Nat.le_refl _) (by simp; omega); clear hg2))
  clear HF HO H1 HL HL2 HO1 hb1 hsz1
  have e0 : bs.map V8 ++ [V8 128] = (bs ++ [128] ++ List.replicate 0 0).map V8 := by simp
  rw [e0] at hown2
  clear e0
  obtain ⟨g2, c2, hv2, _, hg2l, _⟩ := hown2.form (by simp)
  have hlen2 : ((bs ++ [128] ++ List.replicate 0 0).map V8).length = n + 1 := by simp [Hn.out]
  rw [hlen2] at hv2
  subst hv2
  obtain ⟨Z, hZ⟩ : ∃ Z, Z = (119 - n % 64) % 64 := ⟨_, rfl⟩
  have hZ1 : (n + 1 + Z) % 64 = 56 := by omega
  have hZ2 : Z < 64 := by omega
  have HZ := Lib.hid hZ
  have HZ1 := Lib.hid hZ1
  clear hZ hZ1 hlen2
  go_loopw [3] (fun v wr => ∃ j g c : Nat, j ≤ Z ∧ v = .slice (some ⟨g, 0, none⟩) (n + 1 + j) c ∧ g < wr.heap.size ∧ Own wr w.heap.size 5 v ((bs ++ [128] ++ List.replicate j 0).map V8) ∧ Below w.heap.size w wr) (fun v _ => n + 1 + Z - sliceLen v)
  case atStart => exact ⟨0, g2, c2, by omega, rfl, hg2l, hown2, hb2⟩
  case round =>
    obtain ⟨j, g, c, hj, hv, hgl, hown, hbel⟩ := hrel
    have hsz := hbel.size
    by_cases hlt : j < Z
    · have hne : (((n : Int) + 1 + j) % 64 != 56) = true := by have := HZ1.out; rw [bne_iff_ne]; omega
      have HL : Hid (((bs ++ [128] ++ List.replicate j 0).map V8).length + [V8 0].length ≤ 100000000) := by show _ ≤ _; simp [Hn.out]; omega
      have Hown := Lib.hid hown
      have HV := Lib.hid hv
      clear hown
      rw [hv]
      clear hv
      go_wp2_with (at_builtin; refine wpList_app rfl (.tmp 16) (.tmp 17) 22 rfl w.heap.size 5 Tryd.underlying22 info8 rfl (by decide) _ _ rfl ((HV.out ▸ Hown.out).alloc _) _ [V8 0] rfl (from_new wr 5 [V8 0]) (oneC8 [0]) HL.out (by simp; omega) ?_; intro v' w3 hown3 hg3 _)
      have e1 : (bs ++ [128] ++ List.replicate j 0).map V8 ++ [V8 0] = (bs ++ [128] ++ List.replicate (j + 1) 0).map V8 := by
        rw [List.replicate_succ', ← List.append_assoc, List.map_append (l₂ := [(0 : UInt8)])]; rfl
      rw [e1] at hown3
      clear e1
      have hl3 : ((bs ++ [128] ++ List.replicate (j + 1) (0 : UInt8)).map V8).length = n + 1 + (j + 1) := by simp [Hn.out]; omega
      obtain ⟨g3, c3, hv3, _, hg3l, _⟩ := hown3.form (by rw [hl3]; omega)
      rw [hl3] at hv3
      subst hv3
      go_roundw
      case rel => exact ⟨j + 1, g3, c3, by omega, rfl, hg3l, hown3, below_app (hbel.alloc hsz _) ((HV.out ▸ Hown.out).alloc _) hg3 (Nat.le_refl _) (by simp; omega)⟩
      case measure => simp [sliceLen]; omega
    · obtain rfl : j = Z := by omega
      have hne : (((n : Int) + 1 + j) % 64 != 56) = false := by
        have := HZ1.out
        rw [Bool.eq_false_iff, Ne, bne_iff_ne, Decidable.not_not]; omega
      have HX : Hid (bs ++ [128] ++ List.replicate j 0 ++ be8 (8 * n) = filled bs) := by show _ = _; rw [filled, Hn.out, HZ.out]
      generalize hxs : bs ++ [128] ++ List.replicate j 0 = xs at *
      have HXL : Hid (xs.length = n + 1 + j) := by show _ = _; rw [← hxs]; simp [Hn.out]; omega
      rw [hv] at hown ⊢
      have Hown := Lib.hid hown
      clear hown hv hxs HZ HZ1
      obtain ⟨wx, hwx⟩ : ∃ wx : World, wx = wr := ⟨_, rfl⟩
      subst hwx
      go_wp2
      go_loopw [4, 5, 6] (fun y v i wr => ∃ k X : Nat, k ≤ 8 ∧ i = .int .i64 k ∧ y = .int .u64 X ∧ Hid (X = 8 * n / 256 ^ k) ∧ Own wr wx.heap.size 5 v ((tailB (8 * n) k).map V8) ∧ Below wx.heap.size wx wr) (fun _ _ i _ => 8 - (intOf i).toNat)
      case atStart =>
        refine ⟨0, n * 8, by omega, rfl, by go_num, ?_, Own.nil _ _ _, Below.refl _ _⟩
        show _ = _
        rw [Nat.pow_zero, Nat.div_one, Nat.mul_comm]
      case round =>
        obtain ⟨k, X, hk, rfl, rfl, HXk, hown5, hbel5⟩ := hrel
        have hsz5 := hbel5.size
        by_cases hlt8 : k < 8
        · have hXb : X ≤ 8 * n := by rw [HXk.out]; exact Nat.div_le_self _ _
          have HO5 := Lib.hid hown5
          have HT : Hid (tailB (8 * n) (k + 1) = UInt8.ofNat X :: tailB (8 * n) k) := by show _ = _; rw [HXk.out]; rfl
          have HL5 : Hid ([Value.int .u8 ((X : Int) % 256)].length + ((tailB (8 * n) k).map V8).length ≤ 100000000) := by show _ ≤ _; simp [tailB_length]; omega
          clear hown5
          go_wp2_with (at_builtin; refine wpList_app rfl (.tmp 30) (.tmp 31) 22 rfl wx.heap.size 5 Tryd.underlying22 info8 rfl (by decide) _ [.int .u8 ((X : Int) % 256)] rfl (Own.lit wr wx.heap.size 5 [.int .u8 ((X : Int) % 256)] hsz5 (by simp)) _ ((tailB (8 * n) k).map V8) rfl (HO5.out.alloc _).from_ (oneC8 _) HL5.out (by simp; omega) ?_; intro v6 w6 hown6 hg6 _)
          go_roundw
          case rel =>
            rw [byte_eq] at hown6
            refine ⟨k + 1, X / 256, by omega, by go_num, by go_num, ?_, ?_, ?_⟩
            · show _ = _; rw [HXk.out, Nat.div_div_eq_div_mul, Nat.pow_succ]
            · rw [HT.out]; exact hown6
            · exact (hbel5.alloc hsz5 _).grown hg6 (by simp; omega) (fun i hi => by have h : some wr.heap.size = some i := hi; cases h; exact hsz5)
          case measure => simp [intOf]; omega
        · obtain rfl : k = 8 := by omega
          rw [show ((8 : Nat) : Int) = 8 from rfl]
          rw [tailB_8] at hown5
          have HO5 := Lib.hid hown5
          have HOx : Hid (Own wr w.heap.size 5 (.slice (some ⟨g, 0, none⟩) (n + 1 + j) c) (xs.map V8)) := Own.below Hown.out hbel5 (Nat.le_refl _)
          have HLx : Hid ((xs.map V8).length + ((be8 (8 * n)).map V8).length ≤ 100000000) := by show _ ≤ _; rw [List.length_map, List.length_map, HXL.out]; simp [be8]; omega
          have hbx : Below w.heap.size w wr := hbel.trans (hbel5.mono hsz)
          clear hown5 HXk
          go_wp2_with (at_builtin; refine wpList_app rfl (.tmp 35) (.tmp 36) 22 rfl w.heap.size 5 Tryd.underlying22 info8 rfl (by decide) _ (xs.map V8) rfl HOx.out _ ((be8 (8 * n)).map V8) rfl HO5.out.from_ (oneC8 _) HLx.out hbx.size ?_; intro v7 w7 hown7 hg7 _)
          go_ret
          refine ⟨_, rfl, ?_, below_app hbx HOx.out hg7 (Nat.le_refl _) hbx.size⟩
          rw [← HX.out, List.map_append]
          exact hown7
end Go.Proofs.YtcmledlghipcbaaDoor
