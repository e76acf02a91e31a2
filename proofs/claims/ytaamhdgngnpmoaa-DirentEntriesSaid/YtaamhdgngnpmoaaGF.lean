/-
  THE WALK of the reference's Put.
-/
import Derived.Test.YtaamhdgngnpmoaaGE
import Derived.Test.YtaamhdgngnpmoaaGDB
import Derived.Lib.AppendStr
import Derived.Deep.RegionHeld3
import Derived.Laws.OwnMore
import Derived.Lib.SmallJoins
namespace Go.Proofs.Ytaamhdgngnpmoaa
open Go.RowKit Dir

theorem V8_wrap (n : Nat) : V8 (UInt8.ofNat n) = .int .u8 (IntKind.u8.wrap (n : Int)) := by
  unfold V8
  rw [UInt8.toNat_ofNat']
  congr 1
/-- The length that a slice has. -/
def lenV : Value → Nat
  | .slice _ n _ => n
  | _ => 0
theorem strCells_V8 (bs : List UInt8) : Lib.strCells (strB bs) = bs.map V8 := by
  unfold Lib.strCells strB V8
  simp
/-- append of a string's bytes, a step of a region that draws its order. -/
theorem step_appStr {ops : Array Oper} {o : Oper} {a : Act} {w : World} {K : Act → World → Prop} {Q : Exit → Act → World → Prop} {E : Prop} (hgd : o.guard = none) (s x : Operand)
    (ho : o.op = .call { callee := .builtin .append, args := #[s, x], argTypes := #[23, 9] }) (B : Nat)
    (v : Value) (ys bs : List UInt8) (hs : a.eval s = v) (hown : Own w B 5 v (ys.map V8)) (hx : a.eval x = .string (strB bs)) (hl : ys.length + bs.length ≤ 1000000) (hB : B ≤ w.heap.size)
    (h : ∀ v' w', Own w' B 5 v' ((ys ++ bs).map V8) → w.grownBy w' v.ownBlock → K (a.put o.dst v') w') :
    if Region.wanted o (yielded ops a.tmps) = true then Oper.wp Try.prog o a w K Q else E := by
  rw [if_pos (by simp [Region.wanted, hgd])]
  obtain ⟨i, hi, hz0, hz1, hz2⟩ := info_parts info8
  obtain ⟨v', w', hr, h2, h3, _⟩ := Lib.run_append_own_string (P := Try.prog) w B 23 9 o.type 5 i Try.underlying23 Try.underlying9 hi hz0 hz1 hz2 v _ _ hown (strB bs) (by rw [strB_size', List.length_map]; simp only [maxLen]; omega) (by rw [strB_size', List.length_map]; omega) hB
  unfold Oper.wp execOp
  simp only [ho, resolve, invoke, builtin, Sem.run_bind, Sem.run_pure, Result.andThen_ok, List.map_toArray, List.map_cons, List.map_nil, hs, hx, hr]
  refine h v' w' ?_ h3
  rw [strCells_V8, ← List.map_append, strB_size', List.length_map, ← List.length_append] at h2
  show w'.ownsRow B 5 1 v' _ _
  rw [List.length_map]
  exact h2

set_option maxRecDepth 100000 in
set_option maxHeartbeats 2000000 in
theorem RDiPut_any (l : List En) (hn : l.length ≤ 1000) (hf : ∀ e ∈ l, e.n.length ≤ 14 ∧ 0 ≤ e.k ∧ e.k ≤ 255) (v : Value) (w : World) (h : EntsAt w v l) :
    Calls Try.prog 12 #[v] w fun e w' => ∃ r, e = .returned r ∧ Hid (Own w' w.heap.size 5 r ((encL l).map V8)) ∧ Below w.heap.size w w' := by
  obtain ⟨A, cap, rfl, hs⟩ := h
  obtain ⟨n, hnl⟩ : ∃ n, n = l.length := ⟨_, rfl⟩
  rw [← hnl] at hs hn ⊢
  have HS := Lib.hid hs
  have HNl := Lib.hid hnl
  have HFi := Lib.hid hf
  clear hs hnl hf
  go_enter Try.func12, Try.ntmps12
  go_wp2
  go_loopw [3, 4] (fun out i wr => ∃ (k : Nat), k ≤ n ∧ i = .int .i64 k ∧ Hid (Own wr w.heap.size 5 out ((encL (l.take k)).map V8)) ∧ Hid (Below w.heap.size w wr)) (fun _ i _ => n - (intOf i).toNat)
  case atStart => exact ⟨0, by omega, rfl, Own.nil _ _ _, Below.refl _ _⟩
  case round =>
    obtain ⟨k, hk, rfl, Hown, Hbel⟩ := hrel
    rename World => wx
    by_cases hlt : k < n
    · obtain ⟨bb, o, rfl, hb, hsee⟩ := HS.out (by omega)
      have hkl : k < l.length := by rw [← HNl.out]; exact hlt
      obtain ⟨hx, hx1⟩ := atE (hsee.below Hbel.out hb) k hkl
      have hbl := Nat.lt_of_lt_of_le hb Hbel.out.size
      have Ht := Lib.hid (take_snoc l k hkl ⟨[], 0⟩)
      have hxm : l.getD k ⟨[], 0⟩ ∈ l := by rw [List.getD_eq_getElem?_getD, List.getElem?_eq_getElem hkl]; exact List.getElem_mem _
      have hxf := HFi.out _ hxm
      have HLk : Hid ((l.take k).length = k) := by show _ = _; rw [List.length_take]; omega
      clear hsee hxm hkl
      generalize l.getD k ⟨[], 0⟩ = x at *
      obtain ⟨xn, xk⟩ := x
      unfold SB at hx
      simp only at hx hx1 hxf
      obtain ⟨f1, f2, f3⟩ := hxf
      obtain ⟨kk, rfl⟩ : ∃ kk : Nat, xk = kk := ⟨xk.toNat, by omega⟩
      have hsz := strB_size' xn
      have HB2 := Lib.hid Hbel.out.size
      have HLit : Hid (∀ W : World, wx.heap.size ≤ W.heap.size → Own (W.alloc (.cells #[.int .u8 (IntKind.u8.wrap kk), .int .u8 (IntKind.u8.wrap xn.length)] 5)) wx.heap.size 5 (.slice (some ⟨W.heap.size, 0, none⟩) 2 2) (([UInt8.ofNat kk, UInt8.ofNat xn.length] : List UInt8).map V8)) := fun W hW => by
        have e : ([UInt8.ofNat kk, UInt8.ofNat xn.length] : List UInt8).map V8 = [.int .u8 (IntKind.u8.wrap kk), .int .u8 (IntKind.u8.wrap xn.length)] := by
          simp only [List.map_cons, List.map_nil, V8_wrap]
        rw [e]
        exact Own.lit W wx.heap.size 5 [.int .u8 (IntKind.u8.wrap kk), .int .u8 (IntKind.u8.wrap xn.length)] hW (by simp)
      obtain ⟨xl, hxl⟩ : ∃ xl, xl = xn.length := ⟨_, rfl⟩
      have HXl := Lib.hid hxl
      rw [← hxl] at f1 hsz HLit
      clear hxl
      have HKeep : Hid (∀ W : World, Below wx.heap.size wx W → W.cell? ⟨bb, o + k * 2, none⟩ = some (.string (strB xn)) ∧ W.cell? ⟨bb, o + k * 2 + 1, none⟩ = some (.int .i64 (kk : Int))) := fun W hW => ⟨(World.cell?_of_block (hW.block bb hbl)).trans hx, (World.cell?_of_block (hW.block bb hbl)).trans hx1⟩
      clear hx hx1
      have HW1 : Hid (IntKind.u8.wrap (kk : Int) = kk) := by show (kk : Int) % (2 ^ 8 : Int) = kk; omega
      have HW2 : Hid (IntKind.u8.wrap (xl : Int) = xl) := by show (xl : Int) % (2 ^ 8 : Int) = xl; omega
      go_wp2_with fail
      have hC : Below wx.heap.size wx wx.drew := below_drewN (Below.refl _ _) 1
      refine wp_region_held_drew (S := (fun W => W.cell? ⟨bb, o + k * 2, none⟩ = some (.string (strB xn)) ∧ W.cell? ⟨bb, o + k * 2 + 1, none⟩ = some (.int .i64 (kk : Int)))) (by kernel_rfl) (HKeep.out _ hC) (fun hHeld => ?_)
      generalize wx.drew = wxd at *
      refine wpAnyH_take (i := 0) (oi := ⟨some 12, _, _, _, _, _⟩) (v := ?_) rfl (by kernel_rfl) (by kernel_rfl) (by kernel_rfl) (fun _ _ _ h => h) (Or.inl ⟨by rfl, ?_⟩) hHeld ?_
      rotate_left
      · intro w hSw
        go_simp
        with_reducible rfl
      try go_frame
      refine wpAnyH_take (i := 1) (oi := ⟨some 13, _, _, _, _, _⟩) (v := ?_) rfl (by kernel_rfl) (by kernel_rfl) (by kernel_rfl) (fun _ _ _ h => h) (Or.inl ⟨by rfl, ?_⟩) hHeld ?_
      rotate_left
      · intro w hSw
        go_simp
        with_reducible rfl
      try go_frame
      refine wpAnyH_take (i := 2) (oi := ⟨some 14, _, _, _, _, _⟩) (v := ?_) rfl (by kernel_rfl) (by kernel_rfl) (by kernel_rfl) (fun _ _ _ h => h) (Or.inl ⟨by rfl, ?_⟩) hHeld ?_
      rotate_left
      · intro w hSw
        go_simp
        with_reducible rfl
      try go_frame
      refine wpAnyH_take (i := 3) (oi := ⟨some 15, _, _, _, _, _⟩) (v := ?_) rfl (by kernel_rfl) (by kernel_rfl) (by kernel_rfl) (fun _ _ _ h => h) (Or.inl ⟨by rfl, ?_⟩) hHeld ?_
      rotate_left
      · intro w hSw
        go_simp
        with_reducible rfl
      try go_frame
      refine wpAnyH_take (i := 4) (oi := ⟨some 16, _, _, _, _, _⟩) (v := ?_) rfl (by kernel_rfl) (by kernel_rfl) (by kernel_rfl) (fun _ _ _ h => h) (Or.inl ⟨by rfl, ?_⟩) hHeld ?_
      rotate_left
      · intro w hSw
        obtain ⟨hc0, hc1⟩ := hSw
        go_simp
        with_reducible rfl
      try go_frame
      refine wpAnyH_take (i := 5) (oi := ⟨some 17, _, _, _, _, _⟩) (v := ?_) rfl (by kernel_rfl) (by kernel_rfl) (by kernel_rfl) (fun _ _ _ h => h) (Or.inl ⟨by rfl, ?_⟩) hHeld ?_
      rotate_left
      · intro w hSw
        go_simp
        with_reducible rfl
      try go_frame
      refine wpAnyH_take (i := 6) (oi := ⟨some 18, _, _, _, _, _⟩) (v := ?_) rfl (by kernel_rfl) (by kernel_rfl) (by kernel_rfl) (fun _ _ _ h => h) (Or.inl ⟨by rfl, ?_⟩) hHeld ?_
      rotate_left
      · intro w hSw
        go_simp
        with_reducible rfl
      try go_frame
      refine wpAnyH_take (i := 7) (oi := ⟨some 19, _, _, _, _, _⟩) (v := ?_) rfl (by kernel_rfl) (by kernel_rfl) (by kernel_rfl) (fun _ _ _ h => h) (Or.inl ⟨by rfl, ?_⟩) hHeld ?_
      rotate_left
      · intro w hSw
        go_simp
        with_reducible rfl
      try go_frame
      refine wpAnyH_take (i := 8) (oi := ⟨some 20, _, _, _, _, _⟩) (v := ?_) rfl (by kernel_rfl) (by kernel_rfl) (by kernel_rfl) (fun _ _ _ h => h) (Or.inl ⟨by rfl, ?_⟩) hHeld ?_
      rotate_left
      · intro w hSw
        go_simp
        with_reducible rfl
      try go_frame
      refine wpAnyH_take (i := 9) (oi := ⟨some 21, _, _, _, _, _⟩) (v := ?_) rfl (by kernel_rfl) (by kernel_rfl) (by kernel_rfl) (fun _ _ _ h => h) (Or.inl ⟨by rfl, ?_⟩) hHeld ?_
      rotate_left
      · intro w hSw
        go_simp
        with_reducible rfl
      try go_frame
      refine wpAnyH_take (i := 10) (oi := ⟨some 22, _, _, _, _, _⟩) (v := ?_) rfl (by kernel_rfl) (by kernel_rfl) (by kernel_rfl) (fun _ _ _ h => h) (Or.inl ⟨by rfl, ?_⟩) hHeld ?_
      rotate_left
      · intro w hSw
        obtain ⟨hc0, hc1⟩ := hSw
        go_simp
        with_reducible rfl
      try go_frame
      refine wpAnyH_take (i := 11) (oi := ⟨some 23, _, _, _, _, _⟩) (v := ?_) rfl (by kernel_rfl) (by kernel_rfl) (by kernel_rfl) (fun _ _ _ h => h) (Or.inl ⟨by rfl, ?_⟩) hHeld ?_
      rotate_left
      · intro w hSw
        go_simp
        with_reducible rfl
      try go_frame
      refine wpAnyH_take (i := 12) (oi := ⟨some 24, _, _, _, _, _⟩) (v := ?_) rfl (by kernel_rfl) (by kernel_rfl) (by kernel_rfl) (fun _ _ _ h => h) (Or.inl ⟨by rfl, ?_⟩) hHeld ?_
      rotate_left
      · intro w hSw
        go_simp
        with_reducible rfl
      try go_frame
      refine wpAnyH_take (i := 14) (oi := ⟨some 26, _, _, _, _, _⟩) (v := ?_) rfl (by kernel_rfl) (by kernel_rfl) (by kernel_rfl) (fun _ _ _ h => h) (Or.inl ⟨by rfl, ?_⟩) hHeld ?_
      rotate_left
      · intro w hSw
        go_simp
        with_reducible rfl
      try go_frame
      refine wpAnyH_take (i := 15) (oi := ⟨some 27, _, _, _, _, _⟩) (v := ?_) rfl (by kernel_rfl) (by kernel_rfl) (by kernel_rfl) (fun _ _ _ h => h) (Or.inl ⟨by rfl, ?_⟩) hHeld ?_
      rotate_left
      · intro w hSw
        go_simp
        with_reducible rfl
      try go_frame
      refine wpAnyH_take (i := 16) (oi := ⟨some 28, _, _, _, _, _⟩) (v := ?_) rfl (by kernel_rfl) (by kernel_rfl) (by kernel_rfl) (fun _ _ _ h => h) (Or.inl ⟨by rfl, ?_⟩) hHeld ?_
      rotate_left
      · intro w hSw
        go_simp
        with_reducible rfl
      try go_frame
      refine wpAnyH_take (i := 17) (oi := ⟨some 29, _, _, _, _, _⟩) (v := ?_) rfl (by kernel_rfl) (by kernel_rfl) (by kernel_rfl) (fun _ _ _ h => h) (Or.inl ⟨by rfl, ?_⟩) hHeld ?_
      rotate_left
      · intro w hSw
        go_simp
        with_reducible rfl
      try go_frame
      refine wpAnyH_take (i := 18) (oi := ⟨some 30, _, _, _, _, _⟩) (v := ?_) rfl (by kernel_rfl) (by kernel_rfl) (by kernel_rfl) (fun _ _ _ h => h) (Or.inl ⟨by rfl, ?_⟩) hHeld ?_
      rotate_left
      · intro w hSw
        obtain ⟨hc0, hc1⟩ := hSw
        go_simp
        with_reducible rfl
      try go_frame
      refine wpAnyH_ready (rs := [13]) (by kernel_rfl) (by simp) ?_
      refine AllReadyH.cons (o := ⟨some 25, _, _, _, _, _⟩) rfl (fun K hK => ?_) AllReadyH.nil
      go_simp
      have hb : Below wxd.heap.size wxd (wxd.alloc (.cells #[.int .u8 (IntKind.u8.wrap kk), .int .u8 (IntKind.u8.wrap xl)] 5)) := Joins.below_alloc1 _ _
      have hg_ls := hC.size
      obtain ⟨g_ls, Hg_ls⟩ : ∃ g, Hid (g = wxd.heap.size) := ⟨_, rfl⟩
      have O_ls : Hid (Own (wxd.alloc (.cells #[.int .u8 (IntKind.u8.wrap kk), .int .u8 (IntKind.u8.wrap xl)] 5)) wx.heap.size 5 (.slice (some ⟨wxd.heap.size, 0, none⟩) 2 2) (([UInt8.ofNat kk, UInt8.ofNat xl] : List UInt8).map V8)) := HLit.out wxd hC.size
      replace hC := hC.trans (hb.mono hC.size)
      refine hK.out _ _ (HKeep.out _ hC) (fun hHeld => ?_)
      clear hK K hb
      generalize (wxd.alloc (.cells #[.int .u8 (IntKind.u8.wrap kk), .int .u8 (IntKind.u8.wrap xl)] 5)) = wxd_ls at *
      rw [← Hg_ls.out] at hg_ls ⊢
      rw [← Hg_ls.out] at O_ls
      clear Hg_ls
      try go_frame
      refine wpAnyH_ready (rs := [19]) (by kernel_rfl) (by simp) ?_
      refine AllReadyH.cons (o := ⟨some 31, _, _, _, _, _⟩) rfl (fun K hK => ?_) AllReadyH.nil
      have hs0 := hC.size
      refine step_appStr rfl (.tmp 25) (.tmp 30) rfl wx.heap.size _ [UInt8.ofNat kk, UInt8.ofNat xl] xn rfl O_ls.out rfl (by rw [← HXl.out]; simp; omega) hs0 ?_
      intro v3 w3 hown hg
      have hg4 : World.grownBy _ w3 (some g_ls) := hg
      have hC4 := hC
      replace hC := below_app hC O_ls.out hg (Nat.le_refl _) hs0
      have HV3 := Lib.hid hown
      have HO3 : Hid (Own w3 w.heap.size 5 u3 ((encL (l.take k)).map V8)) := (Hown.out.below hC4 (Nat.le_refl _)).kept hg4 (by
        cases hq : u3.ownBlock with
        | none => exact .inl rfl
        | some q => exact .inr (fun e => by have := (Hown.out.lt hq).2; injection e with e; omega))
      clear hown hg hg4 hC4 O_ls
      refine hK.out _ _ (HKeep.out _ hC) (fun hHeld => ?_)
      clear hK K
      try go_frame
      refine wpAnyH_take (i := 20) (oi := ⟨some 5, _, _, _, _, _⟩) (v := ?_) rfl (by kernel_rfl) (by kernel_rfl) (by kernel_rfl) (fun _ _ _ h => h) (Or.inl ⟨by rfl, ?_⟩) hHeld ?_
      rotate_left
      · intro w hSw
        go_simp
        with_reducible rfl
      try go_frame
      refine wpAnyH_done (by kernel_rfl) ?_ _
      clear hHeld HKeep
      have HB3 := Lib.hid hC
      clear hC
      clear HLit
      go_wp2
      rw [HW1.out, HW2.out]
      clear HW1 HW2
      go_loopw [5] (fun b wr => ∃ (m : Nat), m + xl ≤ 14 ∧ Hid (Own wr wx.heap.size 5 b (([UInt8.ofNat kk, UInt8.ofNat xl] ++ xn ++ List.replicate m 0).map V8)) ∧ Hid (Own wr w.heap.size 5 u3 ((encL (l.take k)).map V8)) ∧ Hid (Below wx.heap.size wx wr)) (fun b _ => 16 - lenV b)
      case atStart => exact ⟨0, by omega, by show Own _ _ _ _ _; rw [List.replicate_zero, List.append_nil]; exact HV3.out, HO3, HB3⟩
      case round =>
        rename World => wq
        clear HV3 HO3 HB3
        obtain ⟨m, hm, HV3, HO3, HB3⟩ := hrel
        obtain ⟨gq, capq, rfl, hBq, hlq, -, -⟩ := HV3.out.form_cap (by simp)
        have hlen : (([UInt8.ofNat kk, UInt8.ofNat xl] ++ xn ++ List.replicate m 0).map V8).length = m + xl + 2 := by rw [HXl.out]; simp; omega
        rw [hlen] at HV3 ⊢
        clear hlen
        have HLm : Hid (((([UInt8.ofNat kk, UInt8.ofNat xl] ++ xn ++ List.replicate m 0).map V8).length) ≤ 16) := by show _ ≤ _; rw [List.length_map]; have := HXl.out; simp; omega
        have HE : Hid ((([UInt8.ofNat kk, UInt8.ofNat xl] ++ xn ++ List.replicate (m + 1) 0).map V8) = ([UInt8.ofNat kk, UInt8.ofNat xl] ++ xn ++ List.replicate m 0).map V8 ++ [V8 0]) := by
          show _ = _
          rw [List.replicate_succ', ← List.append_assoc, List.map_append]; rfl
        have HE2 : Hid (m + xl = 14 → encE ⟨xn, (kk : Int)⟩ = [UInt8.ofNat kk, UInt8.ofNat xl] ++ xn ++ List.replicate m 0) := fun e => by
          unfold encE
          simp only [← HXl.out, Int.toNat_natCast]
          rw [show 14 - xl = m by omega]
          simp
        have HLn : Hid ((([UInt8.ofNat kk, UInt8.ofNat xl] ++ xn ++ List.replicate (m + 1) 0).map V8).length = m + 1 + xl + 2) := by show _ = _; rw [List.length_map, HXl.out]; simp; omega
        obtain ⟨Y, hY⟩ : ∃ Y, Y = ([UInt8.ofNat kk, UInt8.ofNat xl] ++ xn ++ List.replicate m 0) := ⟨_, rfl⟩
        rw [← hY] at HV3 HLm HE HE2
        have HYE := Lib.hid hY
        clear hY
        have HBb : Hid (wx.heap.size ≤ gq) := hBq
        have HSz := Lib.hid HB3.out.size
        by_cases h16 : m + xl < 14
        · clear HE2 HS Ht HLk HFi HNl
          go_wp2_with (at_builtin; refine wpList_app rfl (.tmp 35) (.tmp 36) 23 rfl wx.heap.size 5 Try.underlying23 info8 rfl (by decide) _ (Y.map V8) rfl (HV3.out.alloc _) _ [V8 0] rfl (from_new wq 5 [V8 0]) (fun y hy => by rw [List.mem_singleton.1 hy]; rfl) (by have := HLm.out; simp at this ⊢; omega) (by have := HSz.out; simp; omega) ?_; intro v4 w4 hown4 hg4 _)
          have hg5 : (wq.alloc (.cells #[.int .u8 0] 5)).grownBy w4 (some gq) := hg4
          have HV4 : Hid (Own w4 wx.heap.size 5 v4 (([UInt8.ofNat kk, UInt8.ofNat xl] ++ xn ++ List.replicate (m + 1) 0).map V8)) := by show Own _ _ _ _ _; rw [HE.out]; exact hown4
          have HO4 : Hid (Own w4 w.heap.size 5 u3 ((encL (l.take k)).map V8)) := (HO3.out.alloc _).kept hg5 (by
            cases hq : u3.ownBlock with
            | none => exact .inl rfl
            | some q => exact .inr (fun e => by have := (Hown.out.lt hq).2; have := HBb.out; injection e with e; omega))
          have HB4 : Hid (Below wx.heap.size wx w4) := below_app (HB3.out.alloc HB3.out.size _) (HV3.out.alloc _) hg4 (Nat.le_refl _) (by have := HSz.out; simp; omega)
          obtain ⟨g4, cap4, rfl, -, -, -, -⟩ := HV4.out.form_cap (by rw [HLn.out]; omega)
          have hm4 : lenV (.slice (some ⟨g4, 0, none⟩) (([UInt8.ofNat kk, UInt8.ofNat xl] ++ xn ++ List.replicate (m + 1) 0).map V8).length cap4) = m + 1 + xl + 2 := HLn.out
          clear hown4 hg4 hg5 HV3 HO3 HB3 HE HLm HSz HBb HLn
          generalize Value.slice (some ⟨g4, 0, none⟩) (([UInt8.ofNat kk, UInt8.ofNat xl] ++ xn ++ List.replicate (m + 1) 0).map V8).length cap4 = v4 at *
          go_wp2
          go_roundw
          case rel => exact ⟨m + 1, by omega, HV4, HO4, HB4⟩
          case measure => show 16 - lenV v4 < 16 - (m + xl + 2); rw [hm4]; omega
        · have e14 : m + xl = 14 := by omega
          have HEn := Lib.hid (HE2.out e14)
          clear HE2 HE HLn e14
          go_wp2_with (at_builtin; refine wpList_app rfl (.tmp 38) (.tmp 39) 23 rfl w.heap.size 5 Try.underlying23 info8 rfl (by decide) _ ((encL (l.take k)).map V8) rfl HO3.out _ (Y.map V8) rfl HV3.out.from_ (oneC8 _) (by have h1 := HLm.out; have h2 := encL_length (l := l.take k) (fun e he => (HFi.out e (List.mem_of_mem_take he)).1); have h3 := HLk.out; rw [List.length_map, h2]; omega) (by have := HSz.out; have := HB2.out; omega) ?_; intro v5 w5 hown5 hg5 _)
          have HO5 : Hid (Own w5 w.heap.size 5 v5 ((encL (l.take (k + 1))).map V8)) := by
            show Own _ _ _ _ _
            rw [Ht.out, encL_snoc, List.map_append, HEn.out]
            exact hown5
          have HB5 : Hid (Below w.heap.size w w5) := below_app (Hbel.out.trans (HB3.out.mono HB2.out)) HO3.out hg5 (Nat.le_refl _) (by have := HSz.out; have := HB2.out; omega)
          clear hown5 hg5 HV3 HO3 HB3 HLm HSz HBb HEn Hown Hbel
          go_wp2
          go_roundw
          case rel => exact ⟨k + 1, by omega, by go_num, HO5, HB5⟩
          case measure => simp [intOf]; omega
    · obtain rfl : k = n := by omega
      go_wp2
      go_ret
      refine ⟨_, rfl, ?_, Hbel.out⟩
      have := Hown.out
      rw [HNl.out, List.take_length] at this
      exact this
end Go.Proofs.Ytaamhdgngnpmoaa
