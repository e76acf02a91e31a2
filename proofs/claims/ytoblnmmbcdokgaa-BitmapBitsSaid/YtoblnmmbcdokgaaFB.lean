/-
  THE WALKS of the reference's Bytes, Count, First, and of the law's own many.
-/
import Derived.Test.YtoblnmmbcdokgaaFBA
namespace Go.Proofs.Ytoblnmmbcdokgaa
open Go.RowKit Bm

theorem atBo {w : World} {b off : Nat} {l : List Bool} (h : Sees w b off (l.map Value.bool)) (i : Nat) (hi : i < l.length) : w.cell? ⟨b, off + i, none⟩ = some (.bool (l.getD i false)) :=
  h.at_ (by rw [List.getElem?_map, List.getElem?_eq_getElem hi]; simp [hi])
/-- The number of the bits of byte a from bit e on. -/
def hbL (l : List Bool) (a e : Nat) : Nat := hb (fun k => l.getD (8 * a + k) false) (8 - e)
theorem hbL_top (l : List Bool) (a : Nat) : hbL l a 8 = 0 := rfl
theorem hbL_step (l : List Bool) (a e : Nat) (h : e < 8) : hbL l a e = 2 * hbL l a (e + 1) + if l.getD (8 * a + e) false then 1 else 0 := by
  unfold hbL
  rw [show 8 - e = (8 - (e + 1)) + 1 by omega, hb, show 7 - (8 - (e + 1)) = e by omega]
theorem hbL_lt (l : List Bool) (a e : Nat) : hbL l a e < 2 ^ (8 - e) := hb_lt _ _

set_option maxRecDepth 100000 in
set_option maxHeartbeats 1000000 in
theorem RBytes_any (m : Nat) (hm : m ≤ 1000) (l : List Bool) (hl : l.length = 8 * m) (v : Value) (w : World) (h : From w v (l.map Value.bool)) :
    Calls Try.prog 13 #[v] w fun e w' => ∃ r, e = .returned r ∧ Hid (Own w' w.heap.size 5 r ((bytesN l m).map V8)) ∧ Below w.heap.size w w' := by
  obtain ⟨A, cap, rfl, hs⟩ := h.parts
  rw [List.length_map, hl] at hs
  rw [List.length_map, hl]
  have HS := Lib.hid hs
  have HL := Lib.hid hl
  clear hs hl h
  go_enter Try.func13, Try.ntmps13
  go_wp2
  go_loopw [3, 4, 5, 6] (fun out i _ _ wr => ∃ a : Nat, a ≤ m ∧ i = .int .i64 ((8 * a : Nat) : Int) ∧ Hid (Own wr w.heap.size 5 out ((bytesN l a).map V8)) ∧ Hid (Below w.heap.size w wr)) (fun _ i _ _ _ => 8 * m - (intOf i).toNat)
  case atStart => exact ⟨0, by omega, rfl, Own.nil _ _ _, Below.refl _ _⟩
  case round =>
    obtain ⟨a, ha, rfl, Hown, Hbel⟩ := hrel
    by_cases hlt : a < m
    · obtain ⟨bb, o, rfl, hb, hsee⟩ := HS.out (by omega)
      have HSee : Hid (Sees wr bb o (l.map Value.bool)) := hsee.below Hbel.out hb
      clear hsee HS
      go_wp2
      go_loop [5, 6] (fun nn kk => ∃ e y : Nat, e ≤ 8 ∧ kk = .int .i64 ((e : Int) - 1) ∧ nn = .int .u8 y ∧ Hid (y = hbL l a e)) (fun _ kk => (intOf kk + 1).toNat)
      case atStart => exact ⟨8, 0, by omega, rfl, rfl, rfl⟩
      case round =>
        obtain ⟨e, y, he, rfl, rfl, Hy⟩ := hrel
        by_cases he0 : 0 < e
        · obtain ⟨d, rfl⟩ : ∃ d, e = d + 1 := ⟨e - 1, by omega⟩
          have hy : y < 128 := by
            have h1 := hbL_lt l a (d + 1)
            have h2 : 2 ^ (8 - (d + 1)) ≤ 2 ^ 7 := Nat.pow_le_pow_right (by omega) (by omega)
            rw [← Hy.out] at h1
            omega
          have hx := atBo HSee.out (8 * a + d) (by rw [HL.out]; omega)
          have HStep := Lib.hid (hbL_step l a d (by omega))
          rw [show ((d + 1 : Nat) : Int) - 1 = d by omega]
          generalize l.getD (8 * a + d) false = x at *
          cases x
          · go_wp2
            go_round
            case rel => exact ⟨d, 2 * y, by omega, by go_num, by rw [show ((2 * y : Nat) : Int) = y * 2 by omega], by show _ = _; rw [HStep.out, ← Hy.out]; rfl⟩
            case measure => simp [intOf] <;> omega
          · go_wp2
            go_round
            case rel => exact ⟨d, 2 * y + 1, by omega, by go_num, by rw [show ((2 * y + 1 : Nat) : Int) = y * 2 + 1 by omega], by show _ = _; rw [HStep.out, ← Hy.out]; rfl⟩
            case measure => simp [intOf] <;> omega
        · obtain rfl : e = 0 := by omega
          have HB : Hid (((y : Int)) = ((byteAt l a).toNat : Int)) := by
            show _ = _
            have h1 := hbL_lt l a 0
            rw [Hy.out]
            show ((hbL l a 0 : Nat) : Int) = ((UInt8.ofNat (hbL l a 0)).toNat : Int)
            rw [toNat_ofNat8 (by simpa using h1)]
          have HLen : Hid (((bytesN l a).map V8).length + 1 ≤ 100000000) := by show _ ≤ _; rw [List.length_map, bytesN_length]; omega
          have HB2 := Lib.hid (Hbel.out.size)
          go_wp2_with (at_builtin; refine wpList_app rfl (.tmp 27) (.tmp 29) 22 rfl w.heap.size 5 Try.underlying22 info8 rfl (by decide) _ ((bytesN l a).map V8) rfl (Hown.out.alloc _) _ [.int .u8 (y : Int)] rfl (from_new wr 5 [.int .u8 (y : Int)]) (by rw [HB.out]; exact oneC8 [byteAt l a]) HLen.out (by have := HB2.out; simp; omega) ?_; intro v' w3 hown3 hg3 _)
          have HO3 : Hid (Own w3 w.heap.size 5 v' ((bytesN l (a + 1)).map V8)) := by
            rw [bytesN_succ, List.map_append]
            rw [HB.out] at hown3
            exact hown3
          have HB3 : Hid (Below w.heap.size w w3) := below_app (Hbel.out.alloc Hbel.out.size _) (Hown.out.alloc _) hg3 (Nat.le_refl _) (by have := HB2.out; simp; omega)
          clear hown3 hg3 Hown Hbel HB HLen HB2
          go_wp2
          go_roundw
          case rel => exact ⟨a + 1, by omega, by go_num, HO3, HB3⟩
          case measure => simp [intOf] <;> omega
    · obtain rfl : a = m := by omega
      go_wp2
      go_ret
      exact ⟨_, rfl, Hown, Hbel.out⟩

theorem inR_split (f t : Int) (i : Nat) : inR f t i = (decide (f ≤ i) && decide ((i : Int) < t)) := rfl

set_option maxRecDepth 100000 in
set_option maxHeartbeats 1000000 in
theorem RBmCount_any (b : List UInt8) (hl : b.length ≤ 1000) (f t : Int) (v : Value) (w : World) (h : From w v ((bitsOf b).map Value.bool)) :
    Calls Try.prog 9 #[v, .int .i64 f, .int .i64 t] w fun e w' => e = .returned (.int .i64 (count b f t)) ∧ Below w.heap.size w w' := by
  obtain ⟨A, cap, rfl, hs⟩ := h.parts
  rw [List.length_map, bits_length] at hs ⊢
  obtain ⟨n, hnl⟩ : ∃ n, n = 8 * b.length := ⟨_, rfl⟩
  have hn : n ≤ 8000 := by omega
  have Hb := Lib.hid (bits_get b)
  have HbL := Lib.hid (bits_length b)
  unfold count
  rw [← hnl] at hs Hb HbL ⊢
  have HS := Lib.hid hs
  clear hs hnl h hl
  generalize bitsOf b = l at *
  obtain ⟨p, hp⟩ : ∃ p, p = setP b f t := ⟨_, rfl⟩
  have HP : Hid (∀ i, p i = (tb b i && inR f t i)) := by rw [hp]; intro i; rfl
  rw [← hp]
  clear hp
  go_enter Try.func9, Try.ntmps9
  go_wp2
  go_loop [7, 8] (fun c i => ∃ k q : Nat, k ≤ n ∧ i = .int .i64 k ∧ c = .int .i64 q ∧ q ≤ k ∧ Hid (q = cnt p k)) (fun _ i => n - (intOf i).toNat)
  case atStart => exact ⟨0, 0, by omega, rfl, rfl, by omega, rfl⟩
  case round =>
    obtain ⟨k, q, hk, rfl, rfl, hq, Hq⟩ := hrel
    by_cases hlt : k < n
    · obtain ⟨bb, o, rfl, hb, hsee⟩ := HS.out (by omega)
      have hx := atBo hsee k (by rw [HbL.out]; exact hlt)
      rw [Hb.out k hlt] at hx
      have HPk := Lib.hid (HP.out k)
      have HC : Hid (cnt p (k + 1) = cnt p k + if p k then 1 else 0) := rfl
      clear hsee HS HP
      generalize tb b k = x at *
      by_cases hp : p k = true
      · have hh := HPk.out
        rw [hp, inR] at hh
        have hh2 := hh.symm
        simp only [Bool.and_eq_true, decide_eq_true_eq] at hh2
        obtain ⟨h1, h2, h3⟩ := hh2
        have HC2 : Hid (cnt p (k + 1) = q + 1) := by show _ = _; rw [HC.out, if_pos hp, Hq.out]
        subst h1
        clear hh HPk HC hp
        go_wp2
        go_round
        case rel => exact ⟨k + 1, q + 1, by omega, by go_num, by go_num, by omega, HC2.out.symm⟩
        case measure => simp [intOf] <;> omega
      · have hh := HPk.out
        rw [Bool.not_eq_true] at hp
        rw [hp, inR] at hh
        have HC2 : Hid (cnt p (k + 1) = q) := by show _ = _; rw [HC.out, if_neg (by rw [hp]; decide), Hq.out]; rfl
        clear HPk HC hp
        by_cases h1 : x = true
        · subst h1
          by_cases h2 : f ≤ (k : Int)
          · have h3 : ¬ (k : Int) < t := by intro h3; simp [h2, h3] at hh
            clear hh
            go_wp2
            go_round
            case rel => exact ⟨k + 1, q, by omega, by go_num, rfl, by omega, HC2.out.symm⟩
            case measure => simp [intOf] <;> omega
          · clear hh
            go_wp2
            go_round
            case rel => exact ⟨k + 1, q, by omega, by go_num, rfl, by omega, HC2.out.symm⟩
            case measure => simp [intOf] <;> omega
        · rw [Bool.not_eq_true] at h1
          subst h1
          clear hh
          go_wp2
          go_round
          case rel => exact ⟨k + 1, q, by omega, by go_num, rfl, by omega, HC2.out.symm⟩
          case measure => simp [intOf] <;> omega
    · obtain rfl : k = n := by omega
      go_wp2
      go_ret
      rw [Hq.out]
      exact ⟨rfl, Below.refl _ _⟩

set_option maxRecDepth 100000 in
set_option maxHeartbeats 1000000 in
theorem RBmFirst_any (b : List UInt8) (hl : b.length ≤ 1000) (f t : Int) (v : Value) (w : World) (h : From w v ((bitsOf b).map Value.bool)) :
    Calls Try.prog 11 #[v, .int .i64 f, .int .i64 t] w fun e w' => e = .returned (.int .i64 (first b f t)) ∧ Below w.heap.size w w' := by
  obtain ⟨A, cap, rfl, hs⟩ := h.parts
  rw [List.length_map, bits_length] at hs ⊢
  obtain ⟨n, hnl⟩ : ∃ n, n = 8 * b.length := ⟨_, rfl⟩
  have hn : n ≤ 8000 := by omega
  have Hb := Lib.hid (bits_get b)
  have HbL := Lib.hid (bits_length b)
  unfold first
  rw [← hnl] at hs Hb HbL ⊢
  have HS := Lib.hid hs
  clear hs hnl h hl
  generalize bitsOf b = l at *
  obtain ⟨p, hp⟩ : ∃ p, p = freeP b f t := ⟨_, rfl⟩
  have HP : Hid (∀ i, p i = (!tb b i && inR f t i)) := by rw [hp]; intro i; rfl
  rw [← hp]
  clear hp
  go_enter Try.func11, Try.ntmps11
  go_wp2
  go_loop [7] (fun i => ∃ k : Nat, k ≤ n ∧ i = .int .i64 k ∧ Hid (∀ j, j < k → p j = false)) (fun i => n - (intOf i).toNat)
  case atStart => exact ⟨0, by omega, rfl, fun j hj => by omega⟩
  case round =>
    obtain ⟨k, hk, rfl, Hq⟩ := hrel
    by_cases hlt : k < n
    · obtain ⟨bb, o, rfl, hb, hsee⟩ := HS.out (by omega)
      have hx := atBo hsee k (by rw [HbL.out]; exact hlt)
      rw [Hb.out k hlt] at hx
      have HPk := Lib.hid (HP.out k)
      clear hsee HS HP
      generalize tb b k = x at *
      by_cases hp : p k = true
      · have hh := HPk.out
        rw [hp, inR] at hh
        have hh2 := hh.symm
        simp only [Bool.and_eq_true, decide_eq_true_eq, Bool.not_eq_true'] at hh2
        obtain ⟨h1, h2, h3⟩ := hh2
        have HF : Hid (fst p n = (k : Int)) := fst_some p k Hq.out hp n hlt
        subst h1
        clear hh HPk hp
        go_wp2
        go_ret
        rw [HF.out]
        exact ⟨rfl, Below.refl _ _⟩
      · have hh := HPk.out
        rw [Bool.not_eq_true] at hp
        rw [hp, inR] at hh
        have Hq2 : Hid (∀ j, j < k + 1 → p j = false) := fun j hj => by
          by_cases e : j = k
          · rw [e]; exact hp
          · exact Hq.out j (by omega)
        clear HPk hp Hq
        by_cases h1 : x = false
        · subst h1
          by_cases h2 : f ≤ (k : Int)
          · have h3 : ¬ (k : Int) < t := by intro h3; simp [h2, h3] at hh
            clear hh
            go_wp2
            go_round
            case rel => exact ⟨k + 1, by omega, by go_num, Hq2⟩
            case measure => simp [intOf] <;> omega
          · clear hh
            go_wp2
            go_round
            case rel => exact ⟨k + 1, by omega, by go_num, Hq2⟩
            case measure => simp [intOf] <;> omega
        · rw [Bool.not_eq_false] at h1
          subst h1
          clear hh
          go_wp2
          go_round
          case rel => exact ⟨k + 1, by omega, by go_num, Hq2⟩
          case measure => simp [intOf] <;> omega
    · obtain rfl : k = n := by omega
      have HF : Hid (fst p k = -1) := fst_none p k Hq.out
      go_wp2
      go_ret
      rw [HF.out]
      exact ⟨rfl, Below.refl _ _⟩

set_option maxRecDepth 100000 in
set_option maxHeartbeats 1000000 in
theorem Bmmany_any (b : List UInt8) (hl : b.length ≤ 1000) (f t : Int) (v : Value) (w : World) (h : Arg w v b) :
    Calls Try.prog 14 #[v, .int .i64 f, .int .i64 t] w fun e w' => e = .returned (.int .i64 (many b f t)) ∧ Below w.heap.size w w' := by
  obtain ⟨A, cap, rfl, hs⟩ := (arg_from h).parts
  rw [List.length_map] at hs ⊢
  clear hs h
  obtain ⟨n, hnl⟩ : ∃ n, n = b.length := ⟨_, rfl⟩
  unfold many
  rw [← hnl] at hl ⊢
  clear hnl
  obtain ⟨p, hp⟩ : ∃ p, p = inR f t := ⟨_, rfl⟩
  have HP : Hid (∀ i, p i = inR f t i) := by rw [hp]; intro i; rfl
  rw [← hp]
  clear hp
  go_enter Try.func14, Try.ntmps14
  go_wp2
  go_loop [7, 8] (fun c i => ∃ k q : Nat, k ≤ 8 * n ∧ i = .int .i64 k ∧ c = .int .i64 q ∧ q ≤ k ∧ Hid (q = cnt p k)) (fun _ i => 8 * n - (intOf i).toNat)
  case atStart => exact ⟨0, 0, by omega, rfl, rfl, by omega, rfl⟩
  case round =>
    obtain ⟨k, q, hk, rfl, rfl, hq, Hq⟩ := hrel
    by_cases hlt : k < 8 * n
    · have HPk := Lib.hid (HP.out k)
      have HC : Hid (cnt p (k + 1) = cnt p k + if p k then 1 else 0) := rfl
      by_cases hp : p k = true
      · have hh := HPk.out
        rw [hp, inR] at hh
        have hh2 := hh.symm
        simp only [Bool.and_eq_true, decide_eq_true_eq] at hh2
        obtain ⟨h2, h3⟩ := hh2
        have HC2 : Hid (cnt p (k + 1) = q + 1) := by show _ = _; rw [HC.out, if_pos hp, Hq.out]
        clear hh HPk HC hp
        go_wp2
        go_round
        case rel => exact ⟨k + 1, q + 1, by omega, by go_num, by go_num, by omega, HC2.out.symm⟩
        case measure => simp [intOf] <;> omega
      · have hh := HPk.out
        rw [Bool.not_eq_true] at hp
        rw [hp, inR] at hh
        have HC2 : Hid (cnt p (k + 1) = q) := by show _ = _; rw [HC.out, if_neg (by rw [hp]; decide), Hq.out]; rfl
        clear HPk HC hp
        by_cases h2 : f ≤ (k : Int)
        · have h3 : ¬ (k : Int) < t := by intro h3; simp [h2, h3] at hh
          clear hh
          go_wp2
          go_round
          case rel => exact ⟨k + 1, q, by omega, by go_num, rfl, by omega, HC2.out.symm⟩
          case measure => simp [intOf] <;> omega
        · clear hh
          go_wp2
          go_round
          case rel => exact ⟨k + 1, q, by omega, by go_num, rfl, by omega, HC2.out.symm⟩
          case measure => simp [intOf] <;> omega
    · obtain rfl : k = 8 * n := by omega
      go_wp2
      go_ret
      rw [Hq.out]
      exact ⟨rfl, Below.refl _ _⟩
end Go.Proofs.Ytoblnmmbcdokgaa
