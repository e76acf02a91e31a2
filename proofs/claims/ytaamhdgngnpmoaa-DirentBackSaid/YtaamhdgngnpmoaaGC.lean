/-
  THE WALK of the reference's Name.
-/
import Derived.Test.YtaamhdgngnpmoaaGB
namespace Go.Proofs.Ytaamhdgngnpmoaa
open Go.RowKit Dir

theorem strB_list (s : List UInt8) : (strB s).toList = s := by rw [ByteArray.toList_eq]; rfl
theorem strB_size' (s : List UInt8) : (strB s).size = s.length := by unfold strB; simp [ByteArray.size]
theorem strB_index (s : List UInt8) (i : Nat) (hi : i < s.length) (w : World) : (Instr.index 9 (.string (strB s)) (.int .i64 (i : Int))).run Try.prog w = .ok (.int .u8 ((s.getD i 0).toNat : Int)) w := by
  rw [run_index_string w 9 (strB s) .i64 i Try.underlying9, dif_pos ⟨by omega, by rw [strB_size']; omega⟩]
  have e : (strB s)[(i : Int).toNat]'(by rw [strB_size']; simpa using hi) = s.getD i 0 := by
    rw [List.getD_eq_getElem?_getD, List.getElem?_eq_getElem hi]
    rfl
  rw [e]

set_option maxRecDepth 100000 in
set_option maxHeartbeats 1000000 in
theorem RDiName_any (s : List UInt8) (hl : s.length ≤ 1000000) (w : World) :
    Calls Try.prog 11 #[.string (strB s)] w fun e w' => e = .returned (.int .i64 (nameE s)) ∧ w' = w := by
  by_cases e0 : s = []
  · subst e0
    rw [show strB [] = ⟨#[]⟩ from rfl, show nameE [] = 1 from by decide]
    go_enter Try.func11, Try.ntmps11
    go_wp2
    go_ret
    exact ⟨rfl, rfl⟩
  by_cases e1 : s = [46]
  · subst e1
    rw [show strB [46] = ⟨#[46]⟩ from rfl, show nameE [46] = 1 from by decide]
    go_enter Try.func11, Try.ntmps11
    go_wp2
    go_ret
    exact ⟨rfl, rfl⟩
  by_cases e2 : s = [46, 46]
  · subst e2
    rw [show strB [46, 46] = ⟨#[46, 46]⟩ from rfl, show nameE [46, 46] = 1 from by decide]
    go_enter Try.func11, Try.ntmps11
    go_wp2
    go_ret
    exact ⟨rfl, rfl⟩
  have HE : Hid (nameE s = if s.any (fun c => c == 0 || c == 47) = true then 1 else if 14 < s.length then 8 else 0) := by
    show _ = _
    unfold nameE
    simp only [e0, e1, e2, false_or]
  obtain ⟨E, hE⟩ : ∃ E, E = nameE s := ⟨_, rfl⟩
  have HEE : Hid (E = if s.any (fun c => c == 0 || c == 47) = true then 1 else if 14 < s.length then 8 else 0) := by show _ = _; rw [hE, HE.out]
  rw [← hE]
  clear HE hE
  have hsz := strB_size' s
  have HAt := Lib.hid (strB_index s)
  have u0 : ¬ (strB s).toList = [] := by rw [strB_list]; exact e0
  have u1 : ¬ (strB s).toList = [46] := by rw [strB_list]; exact e1
  have u2 : ¬ (strB s).toList = [46, 46] := by rw [strB_list]; exact e2
  have t0 : (strB s).toList.isEmpty = false := by simpa using u0
  have t1 : ((strB s).toList == [46]) = false := by simpa using u1
  have t2 : ((strB s).toList == [46, 46]) = false := by simpa using u2
  clear e0 e1 e2
  obtain ⟨n, hn⟩ : ∃ n, n = s.length := ⟨_, rfl⟩
  have HN := Lib.hid hn
  rw [← hn] at hl hsz HEE
  clear hn
  generalize strB s = x at *
  go_enter Try.func11, Try.ntmps11
  go_wp2
  go_loopw [3] (fun i wr => ∃ k : Nat, k ≤ n ∧ i = .int .i64 k ∧ wr = w ∧ Hid ((s.take k).any (fun c => c == 0 || c == 47) = false)) (fun i _ => n - (intOf i).toNat)
  case atStart => exact ⟨0, by omega, rfl, rfl, by show _ = _; simp⟩
  case round =>
    obtain ⟨k, hk, rfl, rfl, HT⟩ := hrel
    by_cases hlt : k < n
    · have hix := fun W => HAt.out k (by rw [← HN.out]; exact hlt) W
      have HT2 : Hid ((s.take (k + 1)).any (fun c => c == 0 || c == 47) = (s.getD k 0 == 0 || s.getD k 0 == 47)) := by
        show _ = _
        rw [List.take_succ_eq_append_getElem (by rw [← HN.out]; exact hlt), List.any_append, HT.out, List.getD_eq_getElem?_getD, List.getElem?_eq_getElem (by rw [← HN.out]; exact hlt)]
        simp
      have HB : Hid (s.any (fun c => c == 0 || c == 47) = false → (s.getD k 0 == 0 || s.getD k 0 == 47) = false) := fun h => by
        rw [← HT2.out, ← Bool.not_eq_true]
        intro h2
        rw [← Bool.not_eq_true] at h
        obtain ⟨c, hc, e⟩ := List.any_eq_true.1 h2
        exact h (List.any_eq_true.2 ⟨c, List.mem_of_mem_take hc, e⟩)
      generalize s.getD k 0 = c at *
      have h8 := lt8 c
      by_cases c0 : c = 0
      · have HY : Hid (s.any (fun c => c == 0 || c == 47) = true) := by
          show _ = _
          rw [← Bool.not_eq_false]; intro h
          have := HB.out h
          rw [c0] at this; cases this
        rw [c0] at hix
        clear HB HT2 HT HAt h8
        go_wp2
        go_ret
        rw [HEE.out, if_pos HY.out]
        exact ⟨rfl, rfl⟩
      · by_cases c1 : c = 47
        · have HY : Hid (s.any (fun c => c == 0 || c == 47) = true) := by
            show _ = _
            rw [← Bool.not_eq_false]; intro h
            have := HB.out h
            rw [c1] at this; cases this
          rw [c1] at hix
          clear HB HT2 HT HAt h8
          go_wp2
          go_ret
          rw [HEE.out, if_pos HY.out]
          exact ⟨rfl, rfl⟩
        · have HT3 : Hid ((s.take (k + 1)).any (fun c => c == 0 || c == 47) = false) := by
            show _ = _
            rw [HT2.out]
            simp [c0, c1]
          have d0 : ¬ c.toNat = 0 := fun e => c0 (UInt8.toNat_inj.1 e)
          have d1 : ¬ c.toNat = 47 := fun e => c1 (UInt8.toNat_inj.1 e)
          have q0 : (((c.toNat : Nat) : Int) == 0) = false := by simpa using d0
          have q1 : (((c.toNat : Nat) : Int) == 47) = false := by
            rw [beq_eq_false_iff_ne]; omega
          clear HB HT2 HT HAt c0 c1
          go_wp2
          go_roundw
          case rel => exact ⟨k + 1, by omega, by go_num, trivial, HT3⟩
          case measure => simp [intOf] <;> omega
    · obtain rfl : k = n := by omega
      have HF : Hid (s.any (fun c => c == 0 || c == 47) = false) := by have := HT.out; rwa [HN.out, List.take_length] at this
      clear HT HAt
      by_cases h14 : 14 < k
      · go_wp2
        go_ret
        rw [HEE.out, HF.out, if_neg Bool.false_ne_true, if_pos h14]
        exact ⟨rfl, rfl⟩
      · go_wp2
        go_ret
        rw [HEE.out, HF.out, if_neg Bool.false_ne_true, if_neg h14]
        exact ⟨rfl, rfl⟩
end Go.Proofs.Ytaamhdgngnpmoaa
