/-
  THE WALKS of the reference cache's Ints, Has.
-/
import Derived.Test.YthcphabfeapjbaaPF
import Derived.StillTailTactics
namespace Go.Proofs.Ythcphabfeapjbaa
open Go.RowKit Ca

def VC (x : Int) : Value := .int .i64 x
theorem From.partsC {w : World} {v : Value} {ys : List Value} (h : From w v ys) : ∃ A cap, v = .slice A ys.length cap ∧ (0 < ys.length → ∃ b o, A = some ⟨b, o, none⟩ ∧ b < w.heap.size ∧ Sees w b o ys) := by
  rcases h with ⟨A, e, rfl⟩ | ⟨b, o, c, e, hl, hs⟩
  · exact ⟨A, 0, e, fun h => by simp at h⟩
  · exact ⟨_, c, e, fun _ => ⟨b, o, rfl, hl, hs⟩⟩
theorem atC {w : World} {b off : Nat} {ws : List Int} (h : Sees w b off (ws.map VC)) (i : Nat) (hi : i < ws.length) : w.cell? ⟨b, off + i, none⟩ = some (.int .i64 (ws.getD i 0)) :=
  h.at_ (by rw [List.getElem?_map, List.getElem?_eq_getElem hi]; simp [VC, hi])
theorem take_snocC {α : Type} (l : List α) (i : Nat) (hi : i < l.length) (d : α) : l.take (i + 1) = l.take i ++ [l.getD i d] := by
  rw [List.take_succ_eq_append_getElem hi, List.getD_eq_getElem?_getD, List.getElem?_eq_getElem hi]; rfl

set_option maxRecDepth 100000 in
set_option maxHeartbeats 400000 in
theorem RCInts_any (a b : List Int) (hn : a.length ≤ 1000000) (hn2 : b.length ≤ 1000000) (v u : Value) (w : World) (h : From w v (a.map VC)) (hu : From w u (b.map VC)) :
    Calls Try.prog 18 #[v, u] w fun e w' => e = .returned (.bool (decide (a = b))) ∧ Below w.heap.size w w' := by
  obtain ⟨A, cap, rfl, hs⟩ := h.partsC
  obtain ⟨C, cap2, rfl, hs2⟩ := hu.partsC
  rw [List.length_map] at hs hs2
  rw [List.length_map, List.length_map]
  obtain ⟨n, hnl⟩ : ∃ n, n = a.length := ⟨_, rfl⟩
  obtain ⟨q, hql⟩ : ∃ q, q = b.length := ⟨_, rfl⟩
  rw [← hnl] at hs hn ⊢
  rw [← hql] at hs2 hn2 ⊢
  have HS := Lib.hid hs
  have HS2 := Lib.hid hs2
  have HNl := Lib.hid hnl
  have HQl := Lib.hid hql
  clear hs hs2 h hu hnl hql
  obtain ⟨r, hr⟩ : ∃ r, r = decide (a = b) := ⟨_, rfl⟩
  have HR := Lib.hid hr
  rw [← hr]
  clear hr
  go_enter Try.func18, Try.ntmps18
  by_cases hnq : n = q
  · subst hnq
    go_wp2
    go_loopw [5] (fun i wr => ∃ (k : Nat), k ≤ n ∧ i = .int .i64 k ∧ Hid (a.take k = b.take k) ∧ Below w.heap.size w wr) (fun i _ => n - (intOf i).toNat)
    case atStart => exact ⟨0, by omega, rfl, rfl, Below.refl _ _⟩
    case round =>
      obtain ⟨k, hk, rfl, Htk, hbel⟩ := hrel
      by_cases hlt : k < n
      · obtain ⟨bb, o, rfl, hb, hsee⟩ := HS.out (by omega)
        obtain ⟨b2, o2, rfl, hb2, hsee2⟩ := HS2.out (by omega)
        have hx := atC (hsee.below hbel hb) k (by rw [← HNl.out]; exact hlt)
        have hy := atC (hsee2.below hbel hb2) k (by rw [← HQl.out]; exact hlt)
        have Hta := Lib.hid (take_snocC a k (by rw [← HNl.out]; exact hlt) 0)
        have Htb := Lib.hid (take_snocC b k (by rw [← HQl.out]; exact hlt) 0)
        clear hsee hsee2 HS HS2
        generalize a.getD k 0 = x at *
        generalize b.getD k 0 = y at *
        by_cases hxy : x = y
        · subst hxy
          go_wp2
          go_quiet (fail)
          go_wp2
          go_roundw
          case rel => exact ⟨k + 1, by omega, by go_num, by show _ = _; rw [Hta.out, Htb.out, Htk.out], below_drewN hbel _⟩
          case measure => simp [intOf]; omega
        · go_wp2
          go_quiet (fail)
          go_wp2
          go_ret
          have hne : a ≠ b := fun e => by
            have h1 := Hta.out
            rw [e, Htb.out] at h1
            have h2 := congrArg List.getLast? h1
            simp at h2
            exact hxy h2.symm
          rw [HR.out, decide_eq_false hne]
          exact ⟨rfl, below_drewN hbel _⟩
      · obtain rfl : k = n := by omega
        have heq : a = b := by
          have := Htk.out
          rwa [List.take_of_length_le (by rw [← HNl.out]; omega), List.take_of_length_le (by rw [← HQl.out]; omega)] at this
        have HEq := Lib.hid heq
        clear heq
        go_wp2
        go_ret
        rw [HR.out, decide_eq_true HEq.out]
        exact ⟨rfl, hbel⟩
  · go_wp2
    go_ret
    have hne : a ≠ b := fun e => hnq (by rw [HNl.out, HQl.out, e])
    rw [HR.out, decide_eq_false hne]
    exact ⟨rfl, Below.refl _ _⟩

theorem ins_split (x : Int) : ∀ (l : List Int) (j : Nat), j ≤ l.length → (∀ t, t < j → l.getD t 0 < x) → (j = l.length ∨ ¬ l.getD j 0 < x) → ins x l = l.take j ++ x :: l.drop j
  | [], j, hj, _, _ => by
    have : j = 0 := by simpa using hj
    subst this; rfl
  | y :: r, 0, _, _, h => by
    rcases h with h | h
    · cases h
    · rw [ins, if_neg (show ¬ y < x from h)]; rfl
  | y :: r, j + 1, hj, h1, h2 => by
    rw [ins, if_pos (show y < x from h1 0 (by omega)), ins_split x r j (by simpa using hj) (fun t ht => h1 (t + 1) (by omega)) (by
      rcases h2 with h2 | h2
      · exact .inl (by simpa using h2)
      · exact .inr h2)]
    rfl
theorem hasL_take (L : List Ent) (k : Nat) (hk : k < L.length) : hasL (L.take (k + 1)) = if (L.getD k Ent.free).block < 0 then hasL (L.take k) else ins (L.getD k Ent.free).block (hasL (L.take k)) := by
  unfold hasL
  rw [take_snocC L k hk Ent.free, List.foldl_append]
  rfl
theorem ins_length (x : Int) : ∀ l, (ins x l).length = l.length + 1
  | [] => rfl
  | y :: r => by
    rw [ins]
    split
    · rw [List.length_cons, ins_length x r, List.length_cons]
    · rfl
theorem oneC (l : List Int) : ∀ y ∈ l.map VC, y.oneCell' = true := fun y hy => by obtain ⟨x, _, rfl⟩ := List.mem_map.1 hy; rfl
theorem infoInt10 : (Try.prog.info? 3).map (fun i => (i.zero, i.size, i.bytes)) = some (some (.int .i64 0), 1, 8) := by kernel_rfl

set_option maxRecDepth 100000 in
set_option maxHeartbeats 1000000 in
theorem RCHas_any {w : World} {G : Nat → Prop} {M sh room q : Nat} {s : St} (h : RefK w G M sh room q s) :
    Calls Try.prog 20 #[.pointer (some ⟨M, 0, none⟩)] w fun e w' => ∃ v, e = .returned v ∧ Hid (Own w' w.heap.size 3 v ((hasL s.L).map VC)) ∧ Below w.heap.size w w' := by
  obtain ⟨a, b, ca, cb, hR⟩ := h
  have HR := Lib.hid hR
  have c2 := hR.c2
  have hbd : sh * room ≤ 64 * 64 := Nat.mul_le_mul hR.sh1.2 hR.rm1.2
  obtain ⟨n, hn⟩ : ∃ n, n = sh * room := ⟨_, rfl⟩
  have HN := Lib.hid hn
  have HLn : Hid (s.L.length = n) := by show _ = _; rw [hR.len, hn]
  rw [← hn] at c2 hbd
  have HC2 := Lib.hid c2
  have Hal : Hid (a < w.heap.size) := hR.lt _ hR.ga
  have HMl : Hid (M < w.heap.size) := hR.lt _ hR.gM
  clear hR hn c2
  go_enter Try.func20, Try.ntmps20
  go_wp2
  go_loopw [3, 4, 5, 6] (fun v kk _ _ wr => ∃ (k : Nat) (l : List Int), k ≤ n ∧ kk = .int .i64 (k : Int) ∧ Hid (hasL (s.L.take k) = l) ∧ l.length ≤ k ∧ Hid (Own wr w.heap.size 3 v (l.map VC)) ∧ Hid (l = [] → v = .slice none 0 0) ∧ Hid (Below w.heap.size w wr)) (fun _ kk _ _ _ => n - (intOf kk).toNat)
  case atStart => exact ⟨0, [], by omega, rfl, rfl, Nat.le_refl _, Own.nil _ _ _, fun _ => rfl, Below.refl _ _⟩
  case round =>
    obtain ⟨k, l, hk, rfl, HK, hlk, HO, HZ, HB⟩ := hrel
    rename World => w2
    have c2 : w2.cell? ⟨M, 2, none⟩ = _ := (World.cell?_of_block (w := w) (HB.out.block M HMl.out)).trans HC2.out
    by_cases hlt : k < n
    · have c0 := HR.out.ent (k := k) (by rw [← HN.out]; exact hlt) 0 (.int .i64 (s.L.getD k Ent.free).block) rfl
      rw [Nat.add_zero] at c0
      have c4 : w2.cell? ⟨a, k * 4, none⟩ = _ := (World.cell?_of_block (w := w) (HB.out.block a Hal.out)).trans c0
      have Hst := Lib.hid (hasL_take s.L k (by rw [HLn.out]; exact hlt))
      obtain ⟨bk, hbk⟩ : ∃ x, x = (s.L.getD k Ent.free).block := ⟨_, rfl⟩
      rw [← hbk] at c4 Hst
      rw [HK.out] at Hst
      clear hbk c0
      by_cases he : bk < 0
      · have HF : Hid (hasL (s.L.take (k + 1)) = l) := by show _ = _; rw [Hst.out, if_pos he]
        go_wp2
        go_round
        case rel => exact ⟨k + 1, l, by omega, by go_num, HF, by omega, HO, HZ, HB⟩
        case measure => rw [iO10, show intOf (.int .i64 (k : Int)) = (k : Int) from rfl]; omega
      · have HF : Hid (hasL (s.L.take (k + 1)) = ins bk l) := by show _ = _; rw [Hst.out, if_neg he]
        have HC4 := Lib.hid c4
        have HC2r := Lib.hid c2
        have Halr : Hid (a < w2.heap.size) := Nat.lt_of_lt_of_le Hal.out HB.out.size
        have HMlr : Hid (M < w2.heap.size) := Nat.lt_of_lt_of_le HMl.out HB.out.size
        by_cases hl0 : l = []
        · subst hl0
          have hv := HZ.out rfl
          subst hv
          clear HZ HO hlk
          go_wp2
          go_loopw [5] (fun jj wr => jj = .int .i64 0 ∧ Hid (Below w2.heap.size w2 wr)) (fun _ _ => 0)
          case atStart => exact ⟨rfl, Below.refl _ _⟩
          case round =>
            obtain ⟨rfl, HBj⟩ := hrel
            clear c2 c4
            have c2 : wr.cell? ⟨M, 2, none⟩ = _ := (World.cell?_of_block (w := w2) (HBj.out.block M HMlr.out)).trans HC2r.out
            have c4 : wr.cell? ⟨a, k * 4, none⟩ = _ := (World.cell?_of_block (w := w2) (HBj.out.block a Halr.out)).trans HC4.out
            go_wp2
            go_quiet (fail)
            go_wp2_with (first | (at_builtin; refine wpList_app rfl (.tmp 46) (.tmp 49) 43 rfl w2.heap.size 3 Try.underlying43 infoInt10 rfl (by decide) _ [] rfl (Own.lit _ _ _ [] HBj.out.size (by simp)) _ [] rfl (.inl ⟨_, rfl, rfl⟩) (by simp) (by simp) (Nat.le_trans HBj.out.size (by simp)) ?_; intro v1 w3 hO1 hg1 _; have hb3 : Below w2.heap.size w2 w3 := below_app ((below_drewN HBj.out _).alloc HBj.out.size _) (Own.lit _ _ _ [] HBj.out.size (by simp)) hg1 (Nat.le_refl _) (Nat.le_trans HBj.out.size (by simp)); have c2a : w3.cell? ⟨M, 2, none⟩ = _ := (World.cell?_of_block (w := w2) (hb3.block M HMlr.out)).trans HC2r.out; have c4a : w3.cell? ⟨a, k * 4, none⟩ = _ := (World.cell?_of_block (w := w2) (hb3.block a Halr.out)).trans HC4.out; have HO1 := Lib.hid hO1; have HB3 := Lib.hid hb3; clear hO1 hg1 hb3) | (at_builtin; refine wpList_app rfl (.tmp 51) (.tmp 60) 43 rfl w2.heap.size 3 Try.underlying43 infoInt10 rfl (by decide) _ ([] ++ []) rfl (HO1.out.alloc _) _ ([bk].map VC) rfl (from_new _ 3 ([bk].map VC)) (oneC _) (by simp) (Nat.le_trans HB3.out.size (by simp)) ?_; intro v2 w4 hO2 hg2 _; have hb4 : Below w2.heap.size w2 w4 := below_app (HB3.out.alloc HB3.out.size _) (HO1.out.alloc _) hg2 (Nat.le_refl _) (Nat.le_trans HB3.out.size (by simp)); have HO2 := Lib.hid hO2; have HB4 := Lib.hid hb4; clear hO2 hg2 hb4) | (at_builtin; refine wpList_app rfl (.tmp 62) (.tmp 65) 43 rfl w2.heap.size 3 Try.underlying43 infoInt10 rfl (by decide) _ (([] ++ []) ++ [bk].map VC) rfl HO2.out _ [] rfl (.inl ⟨_, rfl, rfl⟩) (by simp) (by simp) HB4.out.size ?_; intro v3 w5 hO3 hg3 _; have HB5 := Lib.hid (below_app HB4.out HO2.out hg3 (Nat.le_refl _) HB4.out.size); have HO3 := Lib.hid hO3; clear hO3 hg3))
            refine ⟨⟨k + 1, ins bk [], by omega, by go_num, HF, by rw [ins_length]; simp, ?_, fun e => absurd (congrArg List.length e) (by rw [ins_length]; simp), HB.out.trans (HB5.out.mono HB.out.size)⟩, by rw [show intOf (.int .i64 ((k : Int) + 1)) = (k : Int) + 1 from rfl, show intOf (.int .i64 (k : Int)) = (k : Int) from rfl]; omega⟩
            exact HO3.out.base HB.out.size
        · obtain ⟨g, cap, hv, hgl, hgs, hcap, hsee⟩ := HO.out.form_cap (by rw [List.length_map]; exact List.length_pos_iff.2 hl0)
          obtain ⟨m, hm⟩ : ∃ m, m = l.length := ⟨_, rfl⟩
          rw [List.length_map, ← hm] at hv hcap
          have HM := Lib.hid hm
          have Hsee := Lib.hid hsee
          have Hgs := Lib.hid hgs
          rw [← hm] at hlk
          subst hv
          have HFall : Hid (∀ j, j ≤ m → ∀ X, Below w2.heap.size w2 X → From X (.slice (some ⟨g, 0, none⟩) j cap) ((l.take j).map VC)) := fun j hj X hX => by
            refine .inr ⟨g, 0, cap, ?_, Nat.lt_of_lt_of_le hgs hX.size, ?_⟩
            · rw [List.length_map, List.length_take, ← hm, Nat.min_eq_left hj]
            · rw [List.map_take]
              exact fun t u ht => (hsee.below hX hgs) t u (by
                rw [List.getElem?_take] at ht
                split at ht
                · exact ht
                · cases ht)
          have HFdrop : Hid (∀ j, j ≤ m → ∀ X, Below w2.heap.size w2 X → From X (.slice (some ⟨g, j, none⟩) (m - j) (cap - j)) ((l.drop j).map VC)) := fun j hj X hX => by
            refine .inr ⟨g, j, cap - j, ?_, Nat.lt_of_lt_of_le hgs hX.size, ?_⟩
            · rw [List.length_map, List.length_drop, ← hm]
            · rw [List.map_drop]
              intro t u ht
              rw [List.getElem?_drop] at ht
              have := (hsee.below hX hgs) (j + t) u ht
              rwa [Nat.zero_add] at this
          clear hm hsee hgs hgl hl0 HZ
          go_wp2
          go_loopw [5] (fun jj wr => ∃ j : Nat, j ≤ m ∧ jj = .int .i64 (j : Int) ∧ Hid (∀ t, t < j → l.getD t 0 < bk) ∧ Hid (Below w2.heap.size w2 wr)) (fun jj _ => m - (intOf jj).toNat)
          case atStart => exact ⟨0, by omega, rfl, fun t ht => absurd ht (Nat.not_lt_zero _), Below.refl _ _⟩
          case round =>
            obtain ⟨j, hj, rfl, HL, HBj⟩ := hrel
            clear c2 c4
            have c2 : wr.cell? ⟨M, 2, none⟩ = _ := (World.cell?_of_block (w := w2) (HBj.out.block M HMlr.out)).trans HC2r.out
            have c4 : wr.cell? ⟨a, k * 4, none⟩ = _ := (World.cell?_of_block (w := w2) (HBj.out.block a Halr.out)).trans HC4.out
            by_cases hj2 : j < m
            · have hx := atC (Hsee.out.below HBj.out Hgs.out) j (by rw [← HM.out]; exact hj2)
              rw [Nat.zero_add] at hx
              obtain ⟨y, hy⟩ : ∃ y, y = l.getD j 0 := ⟨_, rfl⟩
              have HY := Lib.hid hy
              rw [← hy] at hx
              clear hy
              by_cases hyb : y < bk
              · go_wp2
                go_quiet (fail)
                go_wp2
                go_roundw
                case rel => exact ⟨j + 1, by omega, by go_num, fun t ht => by
                  by_cases e : t = j
                  · rw [e, ← HY.out]; exact hyb
                  · exact HL.out t (by omega), below_drewN HBj.out _⟩
                case measure => rw [iO10, show intOf (.int .i64 (j : Int)) = (j : Int) from rfl]; omega
              · have HFa : Hid (∀ X, Below w2.heap.size w2 X → From X (.slice (some ⟨g, 0, none⟩) j cap) ((l.take j).map VC)) := HFall.out j hj
                have HFb : Hid (∀ X, Below w2.heap.size w2 X → From X (.slice (some ⟨g, j, none⟩) (m - j) (cap - j)) ((l.drop j).map VC)) := HFdrop.out j hj
                go_wp2
                go_quiet (fail)
                go_wp2_with (first | (at_builtin; refine wpList_app rfl (.tmp 46) (.tmp 49) 43 rfl w2.heap.size 3 Try.underlying43 infoInt10 rfl (by decide) _ [] rfl (Own.lit _ _ _ [] HBj.out.size (by simp)) _ ((l.take j).map VC) rfl (HFa.out _ ((below_drewN HBj.out _).alloc HBj.out.size _)) (oneC _) (by rw [List.length_map, List.length_take]; simp; omega) (Nat.le_trans HBj.out.size (by simp)) ?_; intro v1 w3 hO1 hg1 _; have hb3 : Below w2.heap.size w2 w3 := below_app ((below_drewN HBj.out _).alloc HBj.out.size _) (Own.lit _ _ _ [] HBj.out.size (by simp)) hg1 (Nat.le_refl _) (Nat.le_trans HBj.out.size (by simp)); have c2a : w3.cell? ⟨M, 2, none⟩ = _ := (World.cell?_of_block (w := w2) (hb3.block M HMlr.out)).trans HC2r.out; have c4a : w3.cell? ⟨a, k * 4, none⟩ = _ := (World.cell?_of_block (w := w2) (hb3.block a Halr.out)).trans HC4.out; have HO1 := Lib.hid hO1; have HB3 := Lib.hid hb3; clear hO1 hg1 hb3) | (at_builtin; refine wpList_app rfl (.tmp 51) (.tmp 60) 43 rfl w2.heap.size 3 Try.underlying43 infoInt10 rfl (by decide) _ ([] ++ (l.take j).map VC) rfl (HO1.out.alloc _) _ ([bk].map VC) rfl (from_new _ 3 ([bk].map VC)) (oneC _) (by simp; omega) (Nat.le_trans HB3.out.size (by simp)) ?_; intro v2 w4 hO2 hg2 _; have hb4 : Below w2.heap.size w2 w4 := below_app (HB3.out.alloc HB3.out.size _) (HO1.out.alloc _) hg2 (Nat.le_refl _) (Nat.le_trans HB3.out.size (by simp)); have HO2 := Lib.hid hO2; have HB4 := Lib.hid hb4; clear hO2 hg2 hb4) | (at_builtin; refine wpList_app rfl (.tmp 62) (.tmp 65) 43 rfl w2.heap.size 3 Try.underlying43 infoInt10 rfl (by decide) _ (([] ++ (l.take j).map VC) ++ [bk].map VC) rfl HO2.out _ ((l.drop j).map VC) rfl (HFb.out _ HB4.out) (oneC _) (by have := HM.out; simp; omega) HB4.out.size ?_; intro v3 w5 hO3 hg3 _; have HB5 := Lib.hid (below_app HB4.out HO2.out hg3 (Nat.le_refl _) HB4.out.size); have HO3 := Lib.hid hO3; clear hO3 hg3))
                refine ⟨⟨k + 1, ins bk l, by omega, by go_num, HF, by rw [ins_length]; have := HM.out; omega, ?_, fun e => absurd (congrArg List.length e) (by rw [ins_length]; simp), HB.out.trans (HB5.out.mono HB.out.size)⟩, by rw [show intOf (.int .i64 ((k : Int) + 1)) = (k : Int) + 1 from rfl, show intOf (.int .i64 (k : Int)) = (k : Int) from rfl]; omega⟩
                show Own _ _ _ _ _
                rw [ins_split bk l j (by rw [← HM.out]; omega) HL.out (.inr (by rw [← HY.out]; omega)), List.map_append, List.map_cons]
                have := HO3.out.base HB.out.size
                rw [List.nil_append, List.append_assoc] at this
                exact this
            · obtain rfl : j = m := by omega
              have HFa : Hid (∀ X, Below w2.heap.size w2 X → From X (.slice (some ⟨g, 0, none⟩) j cap) ((l.take j).map VC)) := HFall.out j hj
              have HFb : Hid (∀ X, Below w2.heap.size w2 X → From X (.slice (some ⟨g, j, none⟩) (j - j) (cap - j)) ((l.drop j).map VC)) := HFdrop.out j hj
              rw [Nat.sub_self] at HFb
              have HFz : Hid (∀ X, Below w2.heap.size w2 X → From X (.slice (if cap = j then some ⟨g, 0, none⟩ else some ⟨g, j, none⟩) 0 (cap - j)) ((l.drop j).map VC)) := fun X hX => by
                split
                · rename_i e
                  rw [e, Nat.sub_self, List.drop_of_length_le (by rw [← HM.out]; omega)]
                  exact .inl ⟨_, rfl, rfl⟩
                · exact HFb.out X hX
              go_wp2
              go_quiet (fail)
              go_wp2_with (first | (at_builtin; refine wpList_app rfl (.tmp 46) (.tmp 49) 43 rfl w2.heap.size 3 Try.underlying43 infoInt10 rfl (by decide) _ [] rfl (Own.lit _ _ _ [] HBj.out.size (by simp)) _ ((l.take j).map VC) rfl (HFa.out _ ((below_drewN HBj.out _).alloc HBj.out.size _)) (oneC _) (by rw [List.length_map, List.length_take]; simp; omega) (Nat.le_trans HBj.out.size (by simp)) ?_; intro v1 w3 hO1 hg1 _; have hb3 : Below w2.heap.size w2 w3 := below_app ((below_drewN HBj.out _).alloc HBj.out.size _) (Own.lit _ _ _ [] HBj.out.size (by simp)) hg1 (Nat.le_refl _) (Nat.le_trans HBj.out.size (by simp)); have c2a : w3.cell? ⟨M, 2, none⟩ = _ := (World.cell?_of_block (w := w2) (hb3.block M HMlr.out)).trans HC2r.out; have c4a : w3.cell? ⟨a, k * 4, none⟩ = _ := (World.cell?_of_block (w := w2) (hb3.block a Halr.out)).trans HC4.out; have HO1 := Lib.hid hO1; have HB3 := Lib.hid hb3; clear hO1 hg1 hb3) | (at_builtin; refine wpList_app rfl (.tmp 51) (.tmp 60) 43 rfl w2.heap.size 3 Try.underlying43 infoInt10 rfl (by decide) _ ([] ++ (l.take j).map VC) rfl (HO1.out.alloc _) _ ([bk].map VC) rfl (from_new _ 3 ([bk].map VC)) (oneC _) (by simp; omega) (Nat.le_trans HB3.out.size (by simp)) ?_; intro v2 w4 hO2 hg2 _; have hb4 : Below w2.heap.size w2 w4 := below_app (HB3.out.alloc HB3.out.size _) (HO1.out.alloc _) hg2 (Nat.le_refl _) (Nat.le_trans HB3.out.size (by simp)); have HO2 := Lib.hid hO2; have HB4 := Lib.hid hb4; clear hO2 hg2 hb4) | (at_builtin; refine wpList_app rfl (.tmp 62) (.tmp 65) 43 rfl w2.heap.size 3 Try.underlying43 infoInt10 rfl (by decide) _ (([] ++ (l.take j).map VC) ++ [bk].map VC) rfl HO2.out _ ((l.drop j).map VC) rfl (HFz.out _ HB4.out) (oneC _) (by have := HM.out; simp; omega) HB4.out.size ?_; intro v3 w5 hO3 hg3 _; have HB5 := Lib.hid (below_app HB4.out HO2.out hg3 (Nat.le_refl _) HB4.out.size); have HO3 := Lib.hid hO3; clear hO3 hg3))
              all_goals
                refine ⟨⟨k + 1, ins bk l, by omega, by go_num, HF, by rw [ins_length]; have := HM.out; omega, ?_, fun e => absurd (congrArg List.length e) (by rw [ins_length]; simp), HB.out.trans (HB5.out.mono HB.out.size)⟩, by rw [show intOf (.int .i64 ((k : Int) + 1)) = (k : Int) + 1 from rfl, show intOf (.int .i64 (k : Int)) = (k : Int) from rfl]; omega⟩
                show Own _ _ _ _ _
                rw [ins_split bk l j (by rw [← HM.out]; omega) HL.out (.inl HM.out), List.map_append, List.map_cons]
                have := HO3.out.base HB.out.size
                rw [List.nil_append, List.append_assoc] at this
                exact this
    · obtain rfl : k = n := by omega
      go_wp2
      go_ret
      refine ⟨_, rfl, ?_, HB.out⟩
      show Own _ _ _ _ _
      rw [← HK.out, List.take_of_length_le (by rw [HLn.out]; omega)] at HO
      exact HO.out
end Go.Proofs.Ythcphabfeapjbaa
