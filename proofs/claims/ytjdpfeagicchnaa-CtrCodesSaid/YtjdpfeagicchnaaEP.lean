/-
  THE WALKS of the reference's Swap and Box: the table of the substitution.
-/
import Derived.Test.YtjdpfeagicchnaaEN
namespace Go.Proofs.Ytjdpfeagicchnaa
open Go.RowKit Aes

theorem mstep_lt : ∀ (k n p b : Nat), n < 256 → p < 256 → mstep k n p b < 256
  | 0, n, _, _, hn, _ => hn
  | k + 1, n, p, b, hn, hp => by
    rw [mstep]
    refine mstep_lt k _ _ _ (xor_lt8 hn ?_) (red_lt p hp)
    rcases Nat.mod_two_eq_zero_or_one b with h | h <;> rw [h] <;> omega
theorem mulN_lt (a b : Nat) (ha : a < 256) : mulN a b < 256 := mstep_lt 8 0 a b (by omega) ha
/-- The inverse, sought from the top. -/
def srch (x : Nat) : Nat → Nat
  | 0 => 0
  | k + 1 => bif (mulN x (k + 1)).beq 1 then k + 1 else srch x k
def INV : List Nat := [0, 1, 141, 246, 203, 82, 123, 209, 232, 79, 41, 192, 176, 225, 229, 199, 116, 180, 170, 75, 153, 43, 96, 95, 88, 63, 253, 204, 255, 64, 238, 178, 58, 110, 90, 241, 85, 77, 168, 201, 193, 10, 152, 21, 48, 68, 162, 194, 44, 69, 146, 108, 243, 57, 102, 66, 242, 53, 32, 111, 119, 187, 89, 25, 29, 254, 55, 103, 45, 49, 245, 105, 167, 100, 171, 19, 84, 37, 233, 9, 237, 92, 5, 202, 76, 36, 135, 191, 24, 62, 34, 240, 81, 236, 97, 23, 22, 94, 175, 211, 73, 166, 54, 67, 244, 71, 145, 223, 51, 147, 33, 59, 121, 183, 151, 133, 16, 181, 186, 60, 182, 112, 208, 6, 161, 250, 129, 130, 131, 126, 127, 128, 150, 115, 190, 86, 155, 158, 149, 217, 247, 2, 185, 164, 222, 106, 50, 109, 216, 138, 132, 114, 42, 20, 159, 136, 249, 220, 137, 154, 251, 124, 46, 195, 143, 184, 101, 72, 38, 200, 18, 74, 206, 231, 210, 98, 12, 224, 31, 239, 17, 117, 120, 113, 165, 142, 118, 61, 189, 188, 134, 87, 11, 40, 47, 163, 218, 212, 228, 15, 169, 39, 83, 4, 27, 252, 172, 230, 122, 7, 174, 99, 197, 219, 226, 234, 148, 139, 196, 213, 157, 248, 144, 107, 177, 13, 214, 235, 198, 14, 207, 173, 8, 78, 215, 227, 93, 80, 30, 179, 91, 35, 56, 52, 104, 70, 3, 140, 221, 156, 125, 160, 205, 26, 65, 28]
set_option maxRecDepth 100000 in
theorem srch_all : (List.range 256).map (fun x => srch x 255) = INV := by decide +kernel
/-- The same, as bytes, under a plain name. -/
def srB (x : UInt8) (k : Nat) : UInt8 := UInt8.ofNat (srch x.toNat k)
theorem srB_zero (x : UInt8) : srB x 0 = 0 := rfl
theorem srB_hit (x : UInt8) (k : Nat) (hk : k < 255) (h : (mulB x (UInt8.ofNat (k + 1))).toNat = 1) : srB x (k + 1) = UInt8.ofNat (k + 1) := by
  rw [mulB, toNat_ofNat8 (by omega : k + 1 < 256), toNat_ofNat8 (mulN_lt _ _ (lt8 x))] at h
  rw [srB, srch, h]; rfl
theorem srB_miss (x : UInt8) (k : Nat) (hk : k < 255) (h : (mulB x (UInt8.ofNat (k + 1))).toNat ≠ 1) : srB x (k + 1) = srB x k := by
  rw [mulB, toNat_ofNat8 (by omega : k + 1 < 256), toNat_ofNat8 (mulN_lt _ _ (lt8 x))] at h
  rw [srB, srch, show (mulN x.toNat (k + 1)).beq 1 = false from by
    cases hq : (mulN x.toNat (k + 1)).beq 1 with
    | false => rfl
    | true => exact absurd (Nat.eq_of_beq_eq_true hq) h]
  rfl
set_option maxRecDepth 100000 in
theorem swap_eq (x : UInt8) : srB x 255 ^^^ rotl (srB x 255) 1 ^^^ rotl (srB x 255) 2 ^^^ rotl (srB x 255) 3 ^^^ rotl (srB x 255) 4 ^^^ 99 = sb x := by
  have hi : srB x 255 = UInt8.ofNat (INV.getD x.toNat 0) := by
    have h := congrArg (fun l => l.getD x.toNat 0) srch_all
    have hx := x.toNat_lt
    simp only [List.getD_eq_getElem?_getD, List.getElem?_map, List.getElem?_range hx, Option.map_some, Option.getD_some] at h
    rw [srB, h, List.getD_eq_getElem?_getD]
  rw [hi]
  have := all8 (fun x => UInt8.ofNat (INV.getD x.toNat 0) ^^^ rotl (UInt8.ofNat (INV.getD x.toNat 0)) 1 ^^^ rotl (UInt8.ofNat (INV.getD x.toNat 0)) 2 ^^^ rotl (UInt8.ofNat (INV.getD x.toNat 0)) 3 ^^^ rotl (UInt8.ofNat (INV.getD x.toNat 0)) 4 ^^^ 99 == sb x) (by decide +kernel) x
  simpa using this

theorem Mul_at (x : UInt8) (k : Nat) (hk : k < 255) (i : Int) (hi : i = (k : Int) + 1) (w : World) :
    Calls Try.prog 19 #[.int .u8 x.toNat, .int .u8 i] w fun e w' => e = .returned (.int .u8 (mulB x (UInt8.ofNat (k + 1))).toNat) ∧ w = w' := by
  have := Mul_any x (UInt8.ofNat (k + 1)) w
  rw [toNat_ofNat8 (by omega : k + 1 < 256)] at this
  subst hi
  exact this

set_option maxRecDepth 100000 in
set_option maxHeartbeats 400000 in
theorem Swap_any (x : UInt8) (w : World) :
    Calls Try.prog 18 #[.int .u8 x.toNat] w fun e w' => e = .returned (.int .u8 (sb x).toNat) ∧ w = w' := by
  go_enter Try.func18, Try.ntmps18
  go_wp2
  go_loop [3, 4] (fun b i => ∃ (k : Nat) (y : UInt8), k ≤ 255 ∧ i = .int .i64 ((k : Int) + 1) ∧ b = .int .u8 y.toNat ∧ Hid (y = srB x k)) (fun _ i => 256 - (intOf i).toNat)
  case atStart => exact ⟨0, 0, by omega, rfl, rfl, (srB_zero x).symm⟩
  case round =>
    obtain ⟨k, y, hk, rfl, rfl, Hy⟩ := hrel
    by_cases hlt : k < 255
    · obtain ⟨z, hz⟩ : ∃ z : UInt8, z = mulB x (UInt8.ofNat (k + 1)) := ⟨_, rfl⟩
      have HC : Hid (∀ W, Calls Try.prog 19 #[.int .u8 x.toNat, .int .u8 ((k : Int) + 1)] W fun e w' => e = .returned (.int .u8 z.toNat) ∧ W = w') := fun W => by
        rw [hz]; exact Mul_at x k hlt _ rfl W
      by_cases h1 : z.toNat = 1
      · have HH : Hid (srB x (k + 1) = UInt8.ofNat (k + 1)) := srB_hit x k hlt (by rw [← hz]; exact h1)
        have hB : ((z.toNat : Int) == 1) = true := by simp; omega
        have HN : Hid (((UInt8.ofNat (k + 1)).toNat : Int) = (k : Int) + 1) := by show _ = _; rw [toNat_ofNat8 (by omega)]; omega
        clear hz h1
        go_wp2_with (go_at_call 19; refine (HC.out _).mono ?_; rintro e w' ⟨rfl, rfl⟩)
        go_round
        case rel => exact ⟨k + 1, UInt8.ofNat (k + 1), by omega, by go_num, int8 HN.out.symm, HH.out.symm⟩
        case measure => simp [intOf]; omega
      · have HH : Hid (srB x (k + 1) = srB x k) := srB_miss x k hlt (by rw [← hz]; exact h1)
        have hB : ((z.toNat : Int) == 1) = false := by simp; omega
        clear hz h1
        go_wp2_with (go_at_call 19; refine (HC.out _).mono ?_; rintro e w' ⟨rfl, rfl⟩)
        go_round
        case rel => exact ⟨k + 1, y, by omega, by go_num, rfl, Hy.out.trans HH.out.symm⟩
        case measure => simp [intOf]; omega
    · obtain rfl : k = 255 := by omega
      rw [show ((255 : Nat) : Int) + 1 = 256 from rfl]
      have HE := Lib.hid (swap_eq x)
      rw [← Hy.out] at HE
      clear Hy
      go_wp2_with (go_at_call 27; refine (Left_any _ _ (by omega) (by omega) _).mono ?_; rintro e w' ⟨rfl, rfl⟩)
      go_ret
      refine ⟨ret8 ?_, rfl⟩
      rw [← HE.out, ← xor8, ← xor8, ← xor8, ← xor8, ← xor8]
      rfl

theorem SBL_take (k : Nat) (h : k < 256) : SBL.take (k + 1) = SBL.take k ++ [sb (UInt8.ofNat k)] := by
  rw [List.take_succ_eq_append_getElem (by rw [SBL_length]; exact h)]
  simp [SBL]
theorem Swap_at (k : Nat) (hk : k < 256) (i : Int) (hi : i = (k : Int)) (w : World) :
    Calls Try.prog 18 #[.int .u8 i] w fun e w' => e = .returned (.int .u8 (sb (UInt8.ofNat k)).toNat) ∧ w = w' := by
  have := Swap_any (UInt8.ofNat k) w
  rw [toNat_ofNat8 hk] at this
  subst hi
  exact this

set_option maxRecDepth 100000 in
set_option maxHeartbeats 400000 in
theorem Box_any (w : World) :
    Calls Try.prog 13 #[] w fun e w' => ∃ v, e = .returned v ∧ Hid (Own w' w.heap.size 5 v (SBL.map V8)) ∧ Below w.heap.size w w' := by
  go_enter Try.func13, Try.ntmps13
  go_wp2
  go_loopw [1, 2] (fun o i wr => ∃ k : Nat, k ≤ 256 ∧ i = .int .i64 k ∧ Own wr w.heap.size 5 o ((SBL.take k).map V8) ∧ Below w.heap.size w wr) (fun _ i _ => 256 - (intOf i).toNat)
  case atStart => exact ⟨0, by omega, rfl, Own.nil _ _ _, Below.refl _ _⟩
  case round =>
    obtain ⟨k, hk, rfl, hown, hbel⟩ := hrel
    have hszr := hbel.size
    by_cases hlt : k < 256
    · have HT := Lib.hid (SBL_take k hlt)
      have HL : Hid (((SBL.take k).map V8).length + 1 ≤ 100000000) := by show _ ≤ _; rw [List.length_map, List.length_take]; omega
      have HC := Lib.hid (fun W => Swap_at k hlt (k : Int) rfl W)
      generalize sb (UInt8.ofNat k) = x at *
      have Hown := Lib.hid hown
      clear hown
      go_wp2_with (first
        | (go_at_call 18; refine (HC.out _).mono ?_; rintro e w' ⟨rfl, rfl⟩)
        | (at_builtin; refine wpList_app rfl (.tmp 7) (.tmp 11) 24 rfl w.heap.size 5 Try.underlying24 info8 rfl (by decide) _ ((SBL.take k).map V8) rfl (Hown.out.alloc _) _ [.int .u8 x.toNat] rfl (from_new wr 5 [.int .u8 x.toNat]) (oneC8 [x]) HL.out (by simp; omega) ?_; intro v' w2 hown2 hg2 _))
      go_roundw
      case rel =>
        refine ⟨k + 1, by omega, by go_num, ?_, ?_⟩
        · rw [HT.out, List.map_append]; exact hown2
        · exact below_app (hbel.alloc hszr _) (Hown.out.alloc _) hg2 (Nat.le_refl _) (by simp; omega)
      case measure => simp [intOf]; omega
    · obtain rfl : k = 256 := by omega
      rw [show ((256 : Nat) : Int) = 256 from rfl]
      have hf : SBL.take 256 = SBL := List.take_of_length_le (by rw [SBL_length]; omega)
      rw [hf] at hown
      have Hown := Lib.hid hown
      clear hf hown
      go_wp2
      go_ret
      exact ⟨_, rfl, Hown, hbel⟩
end Go.Proofs.Ytjdpfeagicchnaa
