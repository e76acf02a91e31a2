/-
  THE WALKS of allFit, numberOf (the program's).
-/
import Derived.Test.YtcpdhfgigopfoaaKB
namespace Go.Proofs.Ytcpdhfgigopfoaa
open Go.RowKit Cdc

set_option maxRecDepth 100000 in
set_option maxHeartbeats 400000 in
theorem allFit_any (ws : List Int) (hw : ws.all okw = true) (l : List Nat) (hl : ws.length = l.length) (h64 : ∀ x ∈ l, x < 2 ^ 64) (hn : ws.length ≤ 1000000) (v u : Value) (w : World) (h : From w v (ws.map VI)) (hu : From w u (l.map VU)) :
    Calls Try.prog 22 #[v, u] w fun e w' => e = .returned (.bool (fit ws l)) ∧ Below w.heap.size w w' := by
  obtain ⟨A, cap, rfl, hs⟩ := h.parts
  obtain ⟨C, cap2, rfl, hs2⟩ := hu.parts
  rw [List.length_map] at hs hs2 ⊢
  rw [List.length_map]
  obtain ⟨n, hnl⟩ : ∃ n, n = ws.length := ⟨_, rfl⟩
  rw [← hl] at hs2 ⊢
  rw [← hnl] at hs hs2 hn ⊢
  have HS := Lib.hid hs
  have HS2 := Lib.hid hs2
  have HNl := Lib.hid hnl
  have HL := Lib.hid hl
  have HW := Lib.hid hw
  have H64 := Lib.hid h64
  clear hs hs2 hnl h hu hw h64 hl
  go_enter Try.func22, Try.ntmps22
  go_wp2
  go_loop [9] (fun i => ∃ (k : Nat), k ≤ n ∧ i = .int .i64 k ∧ Hid (fit (ws.take k) (l.take k) = true)) (fun i => n - (intOf i).toNat)
  case atStart => exact ⟨0, by omega, rfl, by show _ = _; simp [fit]⟩
  case round =>
    obtain ⟨k, hk, rfl, Hfit⟩ := hrel
    by_cases hlt : k < n
    · obtain ⟨b, o, rfl, hb, hsee⟩ := HS.out (by omega)
      obtain ⟨b2, o2, rfl, hb2, hsee2⟩ := HS2.out (by omega)
      have hx := atI hsee k (by rw [← HNl.out]; exact hlt)
      have hy := atU hsee2 k (by rw [← HL.out, ← HNl.out]; exact hlt)
      have Htk := Lib.hid (take_snoc ws k (by rw [← HNl.out]; exact hlt) 0)
      have Htl := Lib.hid (take_snoc l k (by rw [← HL.out, ← HNl.out]; exact hlt) 0)
      have hok : okw (ws.getD k 0) = true := by
        refine List.all_eq_true.1 HW.out _ ?_
        rw [List.getD_eq_getElem?_getD, List.getElem?_eq_getElem (by rw [← HNl.out]; exact hlt)]
        exact List.getElem_mem _
      have h64k : l.getD k 0 < 2 ^ 64 := by
        refine H64.out _ ?_
        rw [List.getD_eq_getElem?_getD, List.getElem?_eq_getElem (by rw [← HL.out, ← HNl.out]; exact hlt)]
        exact List.getElem_mem _
      rw [okw_iff] at hok
      clear hsee hsee2 HS HS2
      generalize ws.getD k 0 = x at *
      generalize l.getD k 0 = y at *
      obtain ⟨h1, h8⟩ := hok
      have Hshr := Lib.hid (shr_fit x (by omega) y)
      have Hlen : Hid ((ws.take k).length = (l.take k).length) := by show _ = _; rw [List.length_take, List.length_take, HL.out]
      go_wp2
      · have hh : ((y : Int) / 2 ^ (8 * x).toNat != 0) = true := by assumption
        rw [Hshr.out] at hh
        go_ret
        rw [fit_take (k + 1) HL.out (by rw [Htk.out, Htl.out, fit_app _ _ _ _ Hlen.out]; simpa [fit] using fun _ => by simpa using hh)]
        exact ⟨rfl, Below.refl _ _⟩
      · have hh : ((y : Int) / 2 ^ (8 * x).toNat != 0) = false := by assumption
        rw [Hshr.out] at hh
        go_round
        case rel =>
          refine ⟨k + 1, by omega, by go_num, ?_⟩
          show _ = _
          rw [Htk.out, Htl.out, fit_app _ _ _ _ Hlen.out, Hfit.out]
          simpa [fit] using hh
        case measure => simp [intOf]; omega
    · obtain rfl : k = n := by omega
      go_wp2
      go_ret
      have hf := Hfit.out
      rw [HNl.out, List.take_length, HL.out, List.take_length] at hf
      rw [hf]
      exact ⟨rfl, Below.refl _ _⟩

set_option maxRecDepth 100000 in
set_option maxHeartbeats 400000 in
theorem numOf_any (b : List UInt8) (hb8 : b.length ≤ 8) (v : Value) (w : World) (h : Arg w v b) :
    Calls Try.prog 25 #[v] w fun e w' => e = .returned (.int .u64 ((num 0 b : Nat) : Int)) ∧ Below w.heap.size w w' := by
  obtain ⟨A, cap, rfl, hs⟩ := (arg_from h).parts
  rw [List.length_map] at hs ⊢
  obtain ⟨n, hnl⟩ : ∃ n, n = b.length := ⟨_, rfl⟩
  rw [← hnl] at hs hb8 ⊢
  have HS := Lib.hid hs
  have HNl := Lib.hid hnl
  clear hs hnl h
  go_enter Try.func25, Try.ntmps25
  go_wp2
  go_loop [3, 8] (fun s i => ∃ (k a : Nat), k ≤ n ∧ i = .int .i64 k ∧ s = .int .u64 a ∧ Hid (a = num 0 (b.take k))) (fun _ i => n - (intOf i).toNat)
  case atStart => exact ⟨0, 0, by omega, rfl, rfl, by show _ = _; simp [num]⟩
  case round =>
    obtain ⟨k, a, hk, rfl, rfl, Ha⟩ := hrel
    by_cases hlt : k < n
    · obtain ⟨bb, o, rfl, hb, hsee⟩ := HS.out (by omega)
      have hx := at8 hsee k (by rw [← HNl.out]; exact hlt)
      have Htk := Lib.hid (take_snoc b k (by rw [← HNl.out]; exact hlt) 0)
      have ha : a < 2 ^ 56 := by
        rw [Ha.out]
        have h1 := num_lt (b.take k) 0 1 (by omega)
        have h8 : 256 ^ (b.take k).length ≤ 256 ^ 7 := Nat.pow_le_pow_right (by omega) (by rw [List.length_take]; omega)
        have : (256 : Nat) ^ 7 = 2 ^ 56 := by decide
        omega
      clear hsee HS
      generalize b.getD k 0 = x at *
      have hx8 := lt8 x
      have Hor := Lib.hid (or_byte a x.toNat ha hx8)
      go_wp2
      go_round
      case rel =>
        refine ⟨k + 1, a * 256 + x.toNat, by omega, by go_num, by rw [Hor.out], ?_⟩
        show _ = _
        rw [Htk.out, num_append, Ha.out]
      case measure => simp [intOf]; omega
    · obtain rfl : k = n := by omega
      go_wp2
      go_ret
      rw [HNl.out, List.take_length] at Ha
      rw [Ha.out]
      exact ⟨rfl, Below.refl _ _⟩
end Go.Proofs.Ytcpdhfgigopfoaa
