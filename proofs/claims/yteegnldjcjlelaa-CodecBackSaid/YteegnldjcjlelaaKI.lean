/-
  THE WALK of the reference's Get.
-/
import Derived.Test.YteegnldjcjlelaaKH
namespace Go.Proofs.Yteegnldjcjlelaa
open Go.RowKit Cdc

theorem oneU (l : List Nat) : ∀ y ∈ l.map VU, y.oneCell' = true := fun y hy => by obtain ⟨x, _, rfl⟩ := List.mem_map.1 hy; rfl
theorem num_take (b : List UInt8) (a j : Nat) (h : a + j < b.length) : num 0 ((b.drop a).take (j + 1)) = num 0 ((b.drop a).take j) * 256 + (b.getD (a + j) 0).toNat := by
  have hl : j < (b.drop a).length := by rw [List.length_drop]; omega
  rw [take_snoc _ j hl 0, num_append]
  congr 2
  rw [List.getD_eq_getElem?_getD, List.getElem?_drop, List.getD_eq_getElem?_getD]
theorem num_take_lt (b : List UInt8) (a j : Nat) (h : j ≤ 7) : num 0 ((b.drop a).take j) < 2 ^ 56 := by
  have h1 := num_lt ((b.drop a).take j) 0 1 (by omega)
  have h8 : 256 ^ ((b.drop a).take j).length ≤ 256 ^ 7 := Nat.pow_le_pow_right (by omega) (by rw [List.length_take]; omega)
  have : (256 : Nat) ^ 7 = 2 ^ 56 := by decide
  omega

set_option maxRecDepth 100000 in
set_option maxHeartbeats 400000 in
theorem RKGet_any (ws : List Int) (hn : ws.length ≤ 1000000) (b : List UInt8) (v u : Value) (w : World) (h : From w v (ws.map VI)) (hu : Arg w u b) :
    Calls Try.prog 9 #[v, u] w fun e w' => ∃ r, e = .returned (.tuple #[r, .bool (okG ws b)]) ∧ Hid (From w' r ((getL ws b).map VU)) ∧ Below w.heap.size w w' := by
  have HF := Lib.hid h
  have HU := Lib.hid hu
  obtain ⟨A, cap, rfl, hs⟩ := h.parts
  obtain ⟨C, cap2, rfl⟩ := hu.form
  rw [List.length_map] at hs HF ⊢
  obtain ⟨n, hnl⟩ : ∃ n, n = ws.length := ⟨_, rfl⟩
  obtain ⟨m, hml⟩ : ∃ m, m = b.length := ⟨_, rfl⟩
  rw [← hnl] at hs hn HF ⊢
  rw [← hml] at HU ⊢
  have HS := Lib.hid hs
  have HNl := Lib.hid hnl
  have HMl := Lib.hid hml
  obtain ⟨ok, hokd⟩ : ∃ ok, ok = okG ws b := ⟨_, rfl⟩
  have HOD := Lib.hid hokd
  rw [← hokd]
  clear hs h hu hnl hml hokd
  go_enter Try.func9, Try.ntmps9
  go_wp2_with fail
  refine (RKWide_any ws (by rw [← HNl.out]; exact hn) _ w HF.out).mono ?_
  rintro e w1 ⟨rfl, hb1⟩
  by_cases hok : okG ws b = true
  · have Hw : Hid (wide ws = (m : Int)) := by show _ = _; rw [okG_wide.1 hok, HMl.out]
    have HA1 : Hid ((ws.all okw = true) ∧ b.length = sumw ws) := okG_iff.1 hok
    have HOK := Lib.hid hok
    have hm8 : m ≤ 8000000 := by
      rw [HMl.out, HA1.out.2]
      have := sumw_le ws HA1.out.1
      have := HNl.out
      omega
    have hle := hb1.size
    have HB1 := Lib.hid hb1
    rw [Hw.out]
    clear hb1 hok
    go_wp2
    go_loopw [6, 7, 8] (fun out a i wr => ∃ (k : Nat), k ≤ n ∧ i = .int .i64 k ∧ a = .int .i64 ((sumw (ws.take k) : Nat) : Int) ∧ Hid (Own wr w1.heap.size 38 out ((nums (ws.take k) b).map VU)) ∧ Hid (Below w1.heap.size w1 wr)) (fun _ _ i _ => n - (intOf i).toNat)
    case atStart => exact ⟨0, by omega, rfl, rfl, Own.nil _ _ _, Below.refl _ _⟩
    case round =>
      obtain ⟨k, hk, rfl, rfl, HO, HB⟩ := hrel
      by_cases hlt : k < n
      · obtain ⟨bb, o, rfl, hbb, hsee⟩ := HS.out (by omega)
        have hbb1 : bb < w1.heap.size := by omega
        have hx := atI ((hsee.below HB1.out hbb).below HB.out hbb1) k (by rw [← HNl.out]; exact hlt)
        have Htk := Lib.hid (take_snoc ws k (by rw [← HNl.out]; exact hlt) 0)
        have hok : okw (ws.getD k 0) = true := by
          refine List.all_eq_true.1 HA1.out.1 _ ?_
          rw [List.getD_eq_getElem?_getD, List.getElem?_eq_getElem (by rw [← HNl.out]; exact hlt)]
          exact List.getElem_mem _
        have hsum : sumw (ws.take k) + (ws.getD k 0).toNat ≤ m := by
          have h1 := congrArg sumw Htk.out
          rw [sumw_append] at h1
          have h2 := sumw_append (ws.take (k + 1)) (ws.drop (k + 1))
          rw [List.take_append_drop, ← HA1.out.2] at h2
          simp only [sumw] at h1
          rw [HMl.out]
          omega
        rw [okw_iff] at hok
        clear hsee
        have Hnum := Lib.hid (nums_append (ws.take k) b (ws.getD k 0))
        have Hs1 : Hid (sumw (ws.take (k + 1)) = sumw (ws.take k) + (ws.getD k 0).toNat) := by
          show _ = _
          rw [Htk.out, sumw_append]; rfl
        generalize ws.getD k 0 = x at *
        generalize sumw (ws.take k) = a at *
        obtain ⟨h1, h8⟩ := hok
        obtain ⟨j, rfl⟩ : ∃ j : Nat, x = (j : Int) := ⟨x.toNat, by omega⟩
        obtain ⟨q, oc, rfl, hq, hqs⟩ : ∃ q oc, C = some ⟨q, oc, none⟩ ∧ q < w.heap.size ∧ Sees w q oc (b.map V8) := by
          rcases HU.out with ⟨A', e, _⟩ | ⟨bb, o, c, e, hbb, hc, hs⟩
          · injection e with _ e2 _; omega
          · injection e with e1 e2 e3; exact ⟨bb, o, e1, hbb, hs⟩
        have HQ : Hid (Sees wr q oc (b.map V8)) := (hqs.below HB1.out hq).below HB.out (by omega)
        clear hqs
        go_wp2
        go_loop [7, 9, 10] (fun a' z i => ∃ (p N : Nat), p ≤ j ∧ i = .int .i64 p ∧ a' = .int .i64 ((a + p : Nat) : Int) ∧ z = .int .u64 (N : Int) ∧ Hid (N = num 0 ((b.drop a).take p))) (fun _ _ i => j - (intOf i).toNat)
        case atStart => exact ⟨0, 0, by omega, rfl, rfl, rfl, by show _ = _; simp [num]⟩
        case round =>
          obtain ⟨p, N, hp, rfl, rfl, rfl, HN⟩ := hrel
          by_cases hpj : p < j
          · have hy := at8 HQ.out (a + p) (by rw [← HMl.out]; omega)
            have Hst := Lib.hid (num_take b a p (by rw [← HMl.out]; omega))
            have hN56 : N < 2 ^ 56 := by rw [HN.out]; exact num_take_lt b a p (by omega)
            generalize b.getD (a + p) 0 = y at *
            have hy8 := lt8 y
            go_wp2
            go_round
            case rel =>
              refine ⟨p + 1, N * 256 + y.toNat, by omega, by go_num, by go_num, by go_num, ?_⟩
              show _ = _
              rw [Hst.out, HN.out]
            case measure => simp [intOf]; omega
          · obtain rfl : p = j := by omega
            have HL : Hid (((nums (ws.take k) b).map VU).length + 1 ≤ 100000000) := by show _ ≤ _; rw [List.length_map, nums_length, List.length_take]; omega
            have hszr := HB.out.size
            go_wp2_with (at_builtin; refine wpList_app rfl (.tmp 40) (.tmp 42) 23 rfl w1.heap.size 38 Try.underlying23 infoU rfl (by decide) _ ((nums (ws.take k) b).map VU) rfl (HO.out.alloc _) _ [.int .u64 (N : Int)] rfl (from_new wr 38 [.int .u64 (N : Int)]) (oneU [N]) HL.out (by simp; omega) ?_; intro v' w3 hown3 hg3 _)
            have HB3 : Hid (Below w1.heap.size w1 w3) := below_app (HB.out.alloc hszr _) (HO.out.alloc _) hg3 (Nat.le_refl _) (by simp; omega)
            have HO3 : Hid (Own w3 w1.heap.size 38 v' ((nums (ws.take (k + 1)) b).map VU)) := by
              show Own _ _ _ _ _
              rw [Htk.out, Hnum.out, List.map_append]
              have : [Value.int .u64 (N : Int)] = [num 0 ((b.drop a).take (p : Int).toNat)].map VU := by
                rw [show (p : Int).toNat = p from by omega, ← HN.out]; rfl
              rw [← this]
              exact hown3
            clear hown3 hg3
            go_roundw
            case rel => exact ⟨k + 1, by omega, by go_num, by rw [Hs1.out]; go_num, HO3, HB3⟩
            case measure => simp [intOf]; omega
      · obtain rfl : k = n := by omega
        have Hall : Hid (nums (ws.take k) b = nums ws b) := by show _ = _; rw [List.take_of_length_le (by rw [← HNl.out]; omega)]
        rw [Hall.out] at HO
        go_wp2
        go_ret2
        rw [HOD.out, HOK.out, getL, if_pos HOK.out]
        exact ⟨_, rfl, HO.out.from_, HB1.out.trans (HB.out.mono hle)⟩
  · have hne : ¬ wide ws = (m : Int) := fun e => hok (okG_wide.2 (by rw [e, HMl.out]))
    generalize wide ws = z at *
    have HOK := Lib.hid hok
    clear hok HMl HNl HS HU HF
    go_wp2
    go_ret2
    rw [HOD.out]
    have hok := HOK.out
    rw [Bool.not_eq_true] at hok
    rw [getL, hok]
    exact ⟨_, rfl, .inl ⟨none, rfl, rfl⟩, hb1⟩
end Go.Proofs.Yteegnldjcjlelaa
