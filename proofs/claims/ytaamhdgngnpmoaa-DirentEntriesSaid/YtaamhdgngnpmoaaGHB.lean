/-
  THE WALK of the reference's Names.
-/
import Derived.Test.YtaamhdgngnpmoaaGH
namespace Go.Proofs.Ytaamhdgngnpmoaa
open Go.RowKit Dir

set_option maxRecDepth 100000 in
set_option maxHeartbeats 4000000 in
theorem RDiNames_any (l : List En) (hn : l.length ≤ 1000) (v : Value) (w : World) (h : EntsAt w v l) :
    Calls Try.prog 20 #[v] w fun e w' => ∃ r, e = .returned r ∧ Hid (Own w' w.heap.size 9 r ((namesL l).map SB)) ∧ Below w.heap.size w w' := by
  obtain ⟨A, cap0, rfl, hs⟩ := h
  obtain ⟨n, hnl⟩ : ∃ n, n = l.length := ⟨_, rfl⟩
  rw [← hnl] at hs hn ⊢
  have HS := Lib.hid hs
  have HNl := Lib.hid hnl
  clear hs hnl
  go_enter Try.func20, Try.ntmps20
  go_wp2
  go_loopw [3, 4] (fun out i wr => ∃ (k : Nat), k ≤ n ∧ i = .int .i64 k ∧ (k = 0 → out = .slice none 0 0) ∧ Hid (Own wr w.heap.size 9 out ((namesL (l.take k)).map SB)) ∧ Hid (Below w.heap.size w wr)) (fun _ i _ => n - (intOf i).toNat)
  case atStart => exact ⟨0, by omega, rfl, fun _ => rfl, Own.nil _ _ _, Below.refl _ _⟩
  case round =>
    rename World => wx
    obtain ⟨k, hk, rfl, hnil, Hown, Hbel⟩ := hrel
    by_cases hlt : k < n
    · obtain ⟨bb, o, rfl, hbl, hsee⟩ := HS.out (by omega)
      have hkl : k < l.length := by rw [← HNl.out]; exact hlt
      obtain ⟨hx0, -⟩ := atE (hsee.below Hbel.out hbl) k hkl
      have HSee : Hid (∀ W : World, Below w.heap.size w W → W.cell? ⟨bb, o + k * 2, none⟩ = some (SB (l.getD k ⟨[], 0⟩).n)) := fun W hW => (atE (hsee.below hW hbl) k hkl).1
      have Ht := Lib.hid (take_snoc l k hkl ⟨[], 0⟩)
      have hlen : (namesL (l.take k)).length = k := by rw [namesL_length, List.length_take]; omega
      obtain ⟨P, hP⟩ : ∃ P, P = namesL (l.take k) := ⟨_, rfl⟩
      have HNx : Hid (namesL (l.take (k + 1)) = insN P (l.getD k ⟨[], 0⟩).n) := by show _ = _; rw [Ht.out, namesL_snoc, hP]
      rw [← hP] at Hown hlen
      clear hsee hkl Ht hP
      generalize (l.getD k ⟨[], 0⟩).n = s at *
      unfold SB at hx0
      have HPl := Lib.hid hlen
      go_wp2
      go_loopw [5] (fun i wr => ∃ q : Nat, q ≤ k ∧ i = .int .i64 q ∧ Hid (∀ i, i < q → leB (P.getD i []) s = true) ∧ Hid (Own wr w.heap.size 9 u3 (P.map SB)) ∧ Hid (Below w.heap.size w wr)) (fun i _ => k - (intOf i).toNat)
      case atStart => exact ⟨0, by omega, rfl, fun i hi => by omega, Hown, Hbel⟩
      case round =>
        rename World => wq
        clear Hown Hbel hx0
        obtain ⟨q, hq, rfl, HL, Hown, Hbel⟩ := hrel
        have hx0 := HSee.out wq Hbel.out
        unfold SB at hx0
        have hml : (P.map SB).length = k := by rw [List.length_map]; exact HPl.out
        rcases Nat.eq_zero_or_pos k with h0 | h0
        · obtain rfl := hnil h0
          subst h0
          obtain rfl : q = 0 := by omega
          have HTk : Hid (P.takeWhile (fun x => leB x s) = P.take 0 ∧ P.dropWhile (fun x => leB x s) = P.drop 0) := take_while_at 0 (by omega) (fun i hi => by omega) (fun h => by have := HPl.out; omega)
          go_wp2
          go_quiet (fail)
          have Hbel2 : Hid (Below w.heap.size w (wq.drewN nq)) := below_drewN Hbel.out nq
          have Hown2 : Hid (Own (wq.drewN nq) w.heap.size 9 (.slice none 0 0) (P.map SB)) := Hown.out.drewN nq
          clear Hbel Hown hx0
          generalize wq.drewN nq = wd at *
          have HFr := Lib.hid Hown2.out.from_
          have HXs : Hid (∀ W : World, Below wd.heap.size wd W → W.cell? ⟨bb, o, none⟩ = some (.string (strB s))) := fun W hW => HSee.out W (Hbel2.out.trans (hW.mono Hbel2.out.size))
          have hx0 := HXs.out wd (Below.refl _ _)
          have HF1 : Hid (From (wd.alloc (.cells #[] 9)) (.slice none 0 0) ((P.take 0).map SB)) := by
            have := (HFr.out.alloc (.cells #[] 9)).head (t := 0) (by omega)
            rw [← List.map_take] at this
            exact this
          have HO : Hid (Own (wd.alloc (.cells #[] 9)) wd.heap.size 9 (.slice (some ⟨wd.heap.size, 0, none⟩) 0 0) []) := Own.lit wd wd.heap.size 9 [] (Nat.le_refl _) (by simp)
          have HLn : Hid (∀ i, ((P.take i).map SB).length ≤ 1000 ∧ ((P.drop i).map SB).length ≤ 1000) := fun i => by simp only [List.length_map, List.length_take, List.length_drop, HPl.out]; omega
          have HR2 : Hid (∀ W : World, Below wd.heap.size wd W → From W (.slice none 0 0) ((P.drop 0).map SB)) := fun W _ => .inl ⟨none, rfl, by rw [List.drop_zero]; exact List.eq_nil_of_length_eq_zero hml⟩
          clear HSee
          go_wp2_with (first
            | (at_builtin; refine wpList_appS rfl (.tmp 31) (.tmp 34) rfl wd.heap.size _ [] rfl HO.out _ ((P.take 0).map SB) rfl HF1.out (oneCS _) (by have := (HLn.out 0).1; simp only [List.length_nil]; omega) (by simp) ?_; intro v8 w8 hown8 hg8; rw [List.nil_append] at hown8; have HO8 := Lib.hid hown8; have HB8 : Hid (Below wd.heap.size wd w8) := below_app ((Below.refl _ _).alloc (Nat.le_refl _) _) HO.out hg8 (Nat.le_refl _) (by simp); have HS8 := Lib.hid HB8.out.size; clear hx0; have hx0 := HXs.out w8 HB8.out; clear hown8 hg8)
            | (at_builtin; refine wpList_appS rfl (.tmp 36) (.tmp 42) rfl wd.heap.size _ ((P.take 0).map SB) rfl (HO8.out.alloc _) _ [SB s] rfl (from_new w8 9 [SB s]) (fun y hy => by rw [List.mem_singleton.1 hy]; rfl) (by have := (HLn.out 0).1; simp only [List.length_singleton]; omega) (by have := HS8.out; simp; omega) ?_; intro v9 w9 hown9 hg9; have HO9 := Lib.hid hown9; have HB9 : Hid (Below wd.heap.size wd w9) := below_app (HB8.out.alloc HB8.out.size _) (HO8.out.alloc _) hg9 (Nat.le_refl _) (by have := HS8.out; simp; omega); have HS9 := Lib.hid HB9.out.size; have HF2 := Lib.hid (HR2.out w9 HB9.out); clear hown9 hg9)
            | (at_builtin; refine wpList_appS rfl (.tmp 44) (.tmp 47) rfl wd.heap.size _ ((P.take 0).map SB ++ [SB s]) rfl HO9.out _ ((P.drop 0).map SB) rfl HF2.out (oneCS _) (by have := HLn.out 0; simp only [List.length_append, List.length_singleton]; omega) HS9.out ?_; intro v10 w10 hown10 hg10; have HO10 := Lib.hid hown10; have HB10 : Hid (Below wd.heap.size wd w10) := below_app HB9.out HO9.out hg10 (Nat.le_refl _) HS9.out; clear hown10 hg10))
          have HEnd : Hid (Own w10 w.heap.size 9 v10 ((namesL (l.take (0 + 1))).map SB)) := by
            show Own _ _ _ _ _
            rw [HNx.out, insN, HTk.out.1, HTk.out.2, List.map_append, List.map_cons]
            have := Own.base HO10.out Hbel2.out.size
            rwa [List.append_assoc, List.singleton_append] at this
          have HBe := Lib.hid (Hbel2.out.trans (HB10.out.mono Hbel2.out.size))
          clear HO10 HO9 HO8 HB8 HB9 HB10 HS8 HS9 HF1 HF2 HR2 HXs HO HFr Hown2 Hbel2 hx0 HLn HTk HNx
          go_wp2
          go_roundw
          case rel => exact ⟨0 + 1, by omega, by go_num, fun h => by omega, HEnd, HBe⟩
          case measure => simp [intOf]; omega
        · obtain ⟨g, cap, rfl, hBg, hgl, hcap, hsS⟩ := Hown.out.form_cap (by rw [hml]; exact h0)
          rw [hml] at hcap Hown ⊢
          have hcp : 0 < cap := by omega
          by_cases hqk : q < k
          · have hc0 : wq.cell? ⟨g, q, none⟩ = some (.string (strB (P.getD q []))) := by
              have := atS hsS q (by rw [HPl.out]; exact hqk)
              rwa [Nat.zero_add] at this
            by_cases hle : leB (P.getD q []) s = true
            · have HL2 : Hid (∀ i, i < q + 1 → leB (P.getD i []) s = true) := fun i hi => by
                by_cases e : i = q
                · subst e; exact hle
                · exact HL.out i (by omega)
              have hq1 : (Op.bytesLess (strB (P.getD q [])).toList (strB s).toList || (strB (P.getD q [])).toList == (strB s).toList) = true := by rw [strB_list, strB_list]; exact hle
              have hOd : Hid (∀ j, Own (wq.drewN j) w.heap.size 9 (.slice (some ⟨g, 0, none⟩) k cap) (P.map SB)) := fun j => Hown.out.drewN j
              have hBd : Hid (∀ j, Below w.heap.size w (wq.drewN j)) := fun j => below_drewN Hbel.out j
              clear hle HL Hown Hbel hsS HNx HSee HS hml
              generalize strB (P.getD q []) = sx at *
              generalize strB s = sy at *
              go_wp2
              go_quiet (fail)
              go_wp2
              go_roundw
              case rel => exact ⟨q + 1, by omega, by go_num, HL2, hOd.out _, hBd.out _⟩
              case measure => simp [intOf]; omega
            · have hlf : leB (P.getD q []) s = false := by simpa using hle
              have HTk : Hid (P.takeWhile (fun x => leB x s) = P.take q ∧ P.dropWhile (fun x => leB x s) = P.drop q) := take_while_at q (by rw [HPl.out]; omega) HL.out (fun _ => hlf)
              have hq1 : (Op.bytesLess (strB (P.getD q [])).toList (strB s).toList || (strB (P.getD q [])).toList == (strB s).toList) = false := by rw [strB_list, strB_list]; exact hlf
              have hcq : ¬ cap = q := by omega
              clear hle hlf HL hsS HS hml
              generalize strB (P.getD q []) = sx at *
              go_wp2
              go_quiet (fail)
              have Hbel2 : Hid (Below w.heap.size w (wq.drewN nq)) := below_drewN Hbel.out nq
              have Hown2 : Hid (Own (wq.drewN nq) w.heap.size 9 (.slice (some ⟨g, 0, none⟩) k cap) (P.map SB)) := Hown.out.drewN nq
              clear Hbel Hown hx0 hc0 hq1
              generalize wq.drewN nq = wd at *
              have HFr := Lib.hid Hown2.out.from_
              have HXs : Hid (∀ W : World, Below wd.heap.size wd W → W.cell? ⟨bb, o + k * 2, none⟩ = some (.string (strB s))) := fun W hW => HSee.out W (Hbel2.out.trans (hW.mono Hbel2.out.size))
              have hx0 := HXs.out wd (Below.refl _ _)
              have HF1 : Hid (From (wd.alloc (.cells #[] 9)) (.slice (some ⟨g, 0, none⟩) q cap) ((P.take q).map SB)) := by
                have := (HFr.out.alloc (.cells #[] 9)).head (t := q) (by omega)
                rw [← List.map_take] at this
                exact this
              have HO : Hid (Own (wd.alloc (.cells #[] 9)) wd.heap.size 9 (.slice (some ⟨wd.heap.size, 0, none⟩) 0 0) []) := Own.lit wd wd.heap.size 9 [] (Nat.le_refl _) (by simp)
              have HLn : Hid (∀ i, ((P.take i).map SB).length ≤ 1000 ∧ ((P.drop i).map SB).length ≤ 1000) := fun i => by simp only [List.length_map, List.length_take, List.length_drop, HPl.out]; omega
              have HR2 : Hid (∀ W : World, Below wd.heap.size wd W → From W (.slice (some ⟨g, q, none⟩) (k - q) (cap - q)) ((P.drop q).map SB)) := fun W hW => by rw [List.map_drop]; exact From.rest (HFr.out.below hW) (by rw [List.length_map]; exact HPl.out.symm) (by have := (Hown2.out.lt (k := g) rfl).2; exact Nat.lt_of_lt_of_le this hW.size) (by omega) _ (.inl rfl)
              clear HSee
              go_wp2_with (first
                | (at_builtin; refine wpList_appS rfl (.tmp 31) (.tmp 34) rfl wd.heap.size _ [] rfl HO.out _ ((P.take q).map SB) rfl HF1.out (oneCS _) (by have := (HLn.out q).1; simp only [List.length_nil]; omega) (by simp) ?_; intro v8 w8 hown8 hg8; rw [List.nil_append] at hown8; have HO8 := Lib.hid hown8; have HB8 : Hid (Below wd.heap.size wd w8) := below_app ((Below.refl _ _).alloc (Nat.le_refl _) _) HO.out hg8 (Nat.le_refl _) (by simp); have HS8 := Lib.hid HB8.out.size; clear hx0; have hx0 := HXs.out w8 HB8.out; clear hown8 hg8)
                | (at_builtin; refine wpList_appS rfl (.tmp 36) (.tmp 42) rfl wd.heap.size _ ((P.take q).map SB) rfl (HO8.out.alloc _) _ [SB s] rfl (from_new w8 9 [SB s]) (fun y hy => by rw [List.mem_singleton.1 hy]; rfl) (by have := (HLn.out q).1; simp only [List.length_singleton]; omega) (by have := HS8.out; simp; omega) ?_; intro v9 w9 hown9 hg9; have HO9 := Lib.hid hown9; have HB9 : Hid (Below wd.heap.size wd w9) := below_app (HB8.out.alloc HB8.out.size _) (HO8.out.alloc _) hg9 (Nat.le_refl _) (by have := HS8.out; simp; omega); have HS9 := Lib.hid HB9.out.size; have HF2 := Lib.hid (HR2.out w9 HB9.out); clear hown9 hg9)
                | (at_builtin; refine wpList_appS rfl (.tmp 44) (.tmp 47) rfl wd.heap.size _ ((P.take q).map SB ++ [SB s]) rfl HO9.out _ ((P.drop q).map SB) rfl HF2.out (oneCS _) (by have := HLn.out q; simp only [List.length_append, List.length_singleton]; omega) HS9.out ?_; intro v10 w10 hown10 hg10; have HO10 := Lib.hid hown10; have HB10 : Hid (Below wd.heap.size wd w10) := below_app HB9.out HO9.out hg10 (Nat.le_refl _) HS9.out; clear hown10 hg10))
              have HEnd : Hid (Own w10 w.heap.size 9 v10 ((namesL (l.take (k + 1))).map SB)) := by
                show Own _ _ _ _ _
                rw [HNx.out, insN, HTk.out.1, HTk.out.2, List.map_append, List.map_cons]
                have := Own.base HO10.out Hbel2.out.size
                rwa [List.append_assoc, List.singleton_append] at this
              have HBe := Lib.hid (Hbel2.out.trans (HB10.out.mono Hbel2.out.size))
              clear HO10 HO9 HO8 HB8 HB9 HB10 HS8 HS9 HF1 HF2 HR2 HXs HO HFr Hown2 Hbel2 hx0 HLn HTk HNx
              go_wp2
              go_roundw
              case rel => exact ⟨k + 1, by omega, by go_num, fun h => by omega, HEnd, HBe⟩
              case measure => simp [intOf]; omega
          · obtain rfl : q = k := by omega
            have HTk : Hid (P.takeWhile (fun x => leB x s) = P.take q ∧ P.dropWhile (fun x => leB x s) = P.drop q) := take_while_at q (by rw [HPl.out]; omega) HL.out (fun h => by rw [HPl.out] at h; omega)
            have hdr : (P.drop q).map SB = [] := by rw [List.drop_eq_nil_of_le (by rw [HPl.out]; omega)]; rfl
            have HDr := Lib.hid hdr
            clear HL hsS HS hml hdr
            by_cases hcq : cap = q
            · subst hcq
              go_wp2
              go_quiet (fail)
              have Hbel2 : Hid (Below w.heap.size w (wq.drewN nq)) := below_drewN Hbel.out nq
              have Hown2 : Hid (Own (wq.drewN nq) w.heap.size 9 (.slice (some ⟨g, 0, none⟩) cap cap) (P.map SB)) := Hown.out.drewN nq
              clear Hbel Hown hx0
              generalize wq.drewN nq = wd at *
              have HFr := Lib.hid Hown2.out.from_
              have HXs : Hid (∀ W : World, Below wd.heap.size wd W → W.cell? ⟨bb, o + cap * 2, none⟩ = some (.string (strB s))) := fun W hW => HSee.out W (Hbel2.out.trans (hW.mono Hbel2.out.size))
              have hx0 := HXs.out wd (Below.refl _ _)
              have HF1 : Hid (From (wd.alloc (.cells #[] 9)) (.slice (some ⟨g, 0, none⟩) cap cap) ((P.take cap).map SB)) := by
                have := (HFr.out.alloc (.cells #[] 9)).head (t := cap) (by omega)
                rw [← List.map_take] at this
                exact this
              have HO : Hid (Own (wd.alloc (.cells #[] 9)) wd.heap.size 9 (.slice (some ⟨wd.heap.size, 0, none⟩) 0 0) []) := Own.lit wd wd.heap.size 9 [] (Nat.le_refl _) (by simp)
              have HLn : Hid (∀ i, ((P.take i).map SB).length ≤ 1000 ∧ ((P.drop i).map SB).length ≤ 1000) := fun i => by simp only [List.length_map, List.length_take, List.length_drop, HPl.out]; omega
              have HR2 : Hid (∀ W : World, Below wd.heap.size wd W → From W (.slice (some ⟨g, 0, none⟩) 0 0) ((P.drop cap).map SB)) := fun W hW => .inl ⟨_, rfl, HDr.out⟩
              clear HSee
              go_wp2_with (first
                | (at_builtin; refine wpList_appS rfl (.tmp 31) (.tmp 34) rfl wd.heap.size _ [] rfl HO.out _ ((P.take cap).map SB) rfl HF1.out (oneCS _) (by have := (HLn.out cap).1; simp only [List.length_nil]; omega) (by simp) ?_; intro v8 w8 hown8 hg8; rw [List.nil_append] at hown8; have HO8 := Lib.hid hown8; have HB8 : Hid (Below wd.heap.size wd w8) := below_app ((Below.refl _ _).alloc (Nat.le_refl _) _) HO.out hg8 (Nat.le_refl _) (by simp); have HS8 := Lib.hid HB8.out.size; clear hx0; have hx0 := HXs.out w8 HB8.out; clear hown8 hg8)
                | (at_builtin; refine wpList_appS rfl (.tmp 36) (.tmp 42) rfl wd.heap.size _ ((P.take cap).map SB) rfl (HO8.out.alloc _) _ [SB s] rfl (from_new w8 9 [SB s]) (fun y hy => by rw [List.mem_singleton.1 hy]; rfl) (by have := (HLn.out cap).1; simp only [List.length_singleton]; omega) (by have := HS8.out; simp; omega) ?_; intro v9 w9 hown9 hg9; have HO9 := Lib.hid hown9; have HB9 : Hid (Below wd.heap.size wd w9) := below_app (HB8.out.alloc HB8.out.size _) (HO8.out.alloc _) hg9 (Nat.le_refl _) (by have := HS8.out; simp; omega); have HS9 := Lib.hid HB9.out.size; have HF2 := Lib.hid (HR2.out w9 HB9.out); clear hown9 hg9)
                | (at_builtin; refine wpList_appS rfl (.tmp 44) (.tmp 47) rfl wd.heap.size _ ((P.take cap).map SB ++ [SB s]) rfl HO9.out _ ((P.drop cap).map SB) rfl HF2.out (oneCS _) (by have := HLn.out cap; simp only [List.length_append, List.length_singleton]; omega) HS9.out ?_; intro v10 w10 hown10 hg10; have HO10 := Lib.hid hown10; have HB10 : Hid (Below wd.heap.size wd w10) := below_app HB9.out HO9.out hg10 (Nat.le_refl _) HS9.out; clear hown10 hg10))
              have HEnd : Hid (Own w10 w.heap.size 9 v10 ((namesL (l.take (cap + 1))).map SB)) := by
                show Own _ _ _ _ _
                rw [HNx.out, insN, HTk.out.1, HTk.out.2, List.map_append, List.map_cons]
                have := Own.base HO10.out Hbel2.out.size
                rwa [List.append_assoc, List.singleton_append] at this
              have HBe := Lib.hid (Hbel2.out.trans (HB10.out.mono Hbel2.out.size))
              clear HO10 HO9 HO8 HB8 HB9 HB10 HS8 HS9 HF1 HF2 HR2 HXs HO HFr Hown2 Hbel2 hx0 HLn HTk HNx
              go_wp2
              go_roundw
              case rel => exact ⟨cap + 1, by omega, by go_num, fun h => by omega, HEnd, HBe⟩
              case measure => simp [intOf]; omega
            · go_wp2
              go_quiet (fail)
              have Hbel2 : Hid (Below w.heap.size w (wq.drewN nq)) := below_drewN Hbel.out nq
              have Hown2 : Hid (Own (wq.drewN nq) w.heap.size 9 (.slice (some ⟨g, 0, none⟩) q cap) (P.map SB)) := Hown.out.drewN nq
              clear Hbel Hown hx0
              generalize wq.drewN nq = wd at *
              have HFr := Lib.hid Hown2.out.from_
              have HXs : Hid (∀ W : World, Below wd.heap.size wd W → W.cell? ⟨bb, o + q * 2, none⟩ = some (.string (strB s))) := fun W hW => HSee.out W (Hbel2.out.trans (hW.mono Hbel2.out.size))
              have hx0 := HXs.out wd (Below.refl _ _)
              have HF1 : Hid (From (wd.alloc (.cells #[] 9)) (.slice (some ⟨g, 0, none⟩) q cap) ((P.take q).map SB)) := by
                have := (HFr.out.alloc (.cells #[] 9)).head (t := q) (by omega)
                rw [← List.map_take] at this
                exact this
              have HO : Hid (Own (wd.alloc (.cells #[] 9)) wd.heap.size 9 (.slice (some ⟨wd.heap.size, 0, none⟩) 0 0) []) := Own.lit wd wd.heap.size 9 [] (Nat.le_refl _) (by simp)
              have HLn : Hid (∀ i, ((P.take i).map SB).length ≤ 1000 ∧ ((P.drop i).map SB).length ≤ 1000) := fun i => by simp only [List.length_map, List.length_take, List.length_drop, HPl.out]; omega
              have HR2 : Hid (∀ W : World, Below wd.heap.size wd W → From W (.slice (some ⟨g, q, none⟩) 0 (cap - q)) ((P.drop q).map SB)) := fun W hW => .inr ⟨g, q, cap - q, by rw [HDr.out]; rfl, by have := (Hown2.out.lt (k := g) rfl).2; exact Nat.lt_of_lt_of_le this hW.size, by rw [HDr.out]; exact Sees.nil⟩
              clear HSee
              go_wp2_with (first
                | (at_builtin; refine wpList_appS rfl (.tmp 31) (.tmp 34) rfl wd.heap.size _ [] rfl HO.out _ ((P.take q).map SB) rfl HF1.out (oneCS _) (by have := (HLn.out q).1; simp only [List.length_nil]; omega) (by simp) ?_; intro v8 w8 hown8 hg8; rw [List.nil_append] at hown8; have HO8 := Lib.hid hown8; have HB8 : Hid (Below wd.heap.size wd w8) := below_app ((Below.refl _ _).alloc (Nat.le_refl _) _) HO.out hg8 (Nat.le_refl _) (by simp); have HS8 := Lib.hid HB8.out.size; clear hx0; have hx0 := HXs.out w8 HB8.out; clear hown8 hg8)
                | (at_builtin; refine wpList_appS rfl (.tmp 36) (.tmp 42) rfl wd.heap.size _ ((P.take q).map SB) rfl (HO8.out.alloc _) _ [SB s] rfl (from_new w8 9 [SB s]) (fun y hy => by rw [List.mem_singleton.1 hy]; rfl) (by have := (HLn.out q).1; simp only [List.length_singleton]; omega) (by have := HS8.out; simp; omega) ?_; intro v9 w9 hown9 hg9; have HO9 := Lib.hid hown9; have HB9 : Hid (Below wd.heap.size wd w9) := below_app (HB8.out.alloc HB8.out.size _) (HO8.out.alloc _) hg9 (Nat.le_refl _) (by have := HS8.out; simp; omega); have HS9 := Lib.hid HB9.out.size; have HF2 := Lib.hid (HR2.out w9 HB9.out); clear hown9 hg9)
                | (at_builtin; refine wpList_appS rfl (.tmp 44) (.tmp 47) rfl wd.heap.size _ ((P.take q).map SB ++ [SB s]) rfl HO9.out _ ((P.drop q).map SB) rfl HF2.out (oneCS _) (by have := HLn.out q; simp only [List.length_append, List.length_singleton]; omega) HS9.out ?_; intro v10 w10 hown10 hg10; have HO10 := Lib.hid hown10; have HB10 : Hid (Below wd.heap.size wd w10) := below_app HB9.out HO9.out hg10 (Nat.le_refl _) HS9.out; clear hown10 hg10))
              have HEnd : Hid (Own w10 w.heap.size 9 v10 ((namesL (l.take (q + 1))).map SB)) := by
                show Own _ _ _ _ _
                rw [HNx.out, insN, HTk.out.1, HTk.out.2, List.map_append, List.map_cons]
                have := Own.base HO10.out Hbel2.out.size
                rwa [List.append_assoc, List.singleton_append] at this
              have HBe := Lib.hid (Hbel2.out.trans (HB10.out.mono Hbel2.out.size))
              clear HO10 HO9 HO8 HB8 HB9 HB10 HS8 HS9 HF1 HF2 HR2 HXs HO HFr Hown2 Hbel2 hx0 HLn HTk HNx
              go_wp2
              go_roundw
              case rel => exact ⟨q + 1, by omega, by go_num, fun h => by omega, HEnd, HBe⟩
              case measure => simp [intOf]; omega
    · obtain rfl : k = n := by omega
      have HE : Hid (namesL (l.take k) = namesL l) := by show _ = _; rw [HNl.out, List.take_length]
      rw [HE.out] at Hown
      go_wp2
      go_ret
      exact ⟨_, rfl, Hown, Hbel.out⟩
end Go.Proofs.Ytaamhdgngnpmoaa
