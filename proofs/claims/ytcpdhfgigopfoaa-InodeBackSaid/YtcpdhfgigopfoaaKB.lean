/-
  THE WALKS of Wide, allFit, numberOf (the program's).
-/
import Derived.Test.YtcpdhfgigopfoaaKA
namespace Go.Proofs.Ytcpdhfgigopfoaa
open Go.RowKit Cdc

set_option maxRecDepth 100000 in
set_option maxHeartbeats 400000 in
theorem KWide_any (ws : List Int) (hn : ws.length ≤ 1000000) (v : Value) (w : World) (h : From w v (ws.map VI)) :
    Calls Try.prog 21 #[v] w fun e w' => e = .returned (.int .i64 (wide ws)) ∧ Below w.heap.size w w' := by
  obtain ⟨A, cap, rfl, hs⟩ := h.parts
  rw [List.length_map] at hs ⊢
  obtain ⟨n, hnl⟩ : ∃ n, n = ws.length := ⟨_, rfl⟩
  rw [← hnl] at hs hn ⊢
  have HS := Lib.hid hs
  have HNl := Lib.hid hnl
  clear hs hnl h
  go_enter Try.func21, Try.ntmps21
  go_wp2
  go_loop [3, 8] (fun s i => ∃ (k a : Nat), k ≤ n ∧ i = .int .i64 k ∧ s = .int .i64 a ∧ a ≤ 8 * k ∧ Hid (a = sumw (ws.take k)) ∧ Hid ((ws.take k).all okw = true)) (fun _ i => n - (intOf i).toNat)
  case atStart => exact ⟨0, 0, by omega, rfl, rfl, by omega, by show _ = _; simp [sumw], by show _ = _; simp⟩
  case round =>
    obtain ⟨k, a, hk, rfl, rfl, ha, Ha, Hall⟩ := hrel
    by_cases hlt : k < n
    · obtain ⟨b, o, rfl, hb, hsee⟩ := HS.out (by omega)
      have hx := atI hsee k (by rw [← HNl.out]; exact hlt)
      have Htk := Lib.hid (take_snoc ws k (by rw [← HNl.out]; exact hlt) 0)
      have Hmem : Hid (ws.getD k 0 ∈ ws) := by
        show _ ∈ _
        rw [List.getD_eq_getElem?_getD, List.getElem?_eq_getElem (by rw [← HNl.out]; exact hlt)]
        exact List.getElem_mem _
      clear hsee HS
      generalize ws.getD k 0 = x at *
      rcases Int.lt_or_le x 1 with h1 | h1
      · go_wp2
        go_ret
        rw [wide_bad (fun hh => by have := okw_iff.1 (List.all_eq_true.1 hh x Hmem.out); omega)]
        exact ⟨rfl, Below.refl _ _⟩
      · rcases Int.lt_or_le 8 x with h8 | h8
        · go_wp2
          go_ret
          rw [wide_bad (fun hh => by have := okw_iff.1 (List.all_eq_true.1 hh x Hmem.out); omega)]
          exact ⟨rfl, Below.refl _ _⟩
        · go_wp2
          go_round
          case rel =>
            refine ⟨k + 1, a + x.toNat, by omega, by go_num, by rw [Int.natCast_add, Int.toNat_of_nonneg (by omega)], by omega, ?_, ?_⟩
            · show _ = _
              rw [Htk.out, sumw_append, Ha.out]; rfl
            · show _ = _
              rw [Htk.out, List.all_append, Hall.out]
              simp [okw, h1, h8]
          case measure => simp [intOf]; omega
    · obtain rfl : k = n := by omega
      go_wp2
      go_ret
      rw [HNl.out, List.take_length] at Ha Hall
      rw [wide_ok Hall.out, Ha.out]
      exact ⟨rfl, Below.refl _ _⟩
end Go.Proofs.Ytcpdhfgigopfoaa
