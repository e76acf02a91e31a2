/-
  THE WALK of exchange.
-/
import Derived.Test.YtkghppobefllkaaDB
import Derived.Deep.RegionLaw
import Derived.Deep.RegionHeld3
namespace Go.Proofs.Ytkghppobefllkaa
open Go.RowKit Dsk

theorem step_load_mid {P : Program} {ops : Array Oper} {op : Oper} {a : Act} {w : World} {K : Act → World → Prop} {Q : Exit → Act → World → Prop} {E : Prop} (hgd : op.guard = none) (ty : TypeId) (x : Operand) (ho : op.op = .load ty x)
    (b o : Nat) (hx : a.eval x = .pointer (some ⟨b, o, none⟩)) (cs : List Value) (d : TypeDesc) (hc : w.rangeAt b o cs)
    (hu : P.underlying ty = some d) (hd : d.isRow = true) (hi : (P.info? ty).map (·.size) = some cs.length)
    (h : K (a.put op.dst (.agg cs.toArray)) w) : if Region.wanted op (yielded ops a.tmps) = true then Oper.wp P op a w K Q else E := by
  rw [if_pos (by simp [Region.wanted, hgd])]
  exact wp_load_mid ty x ho b o hx cs d hc hu hd hi h
theorem step_store_mid {P : Program} {ops : Array Oper} {op : Oper} {a : Act} {w : World} {K : Act → World → Prop} {Q : Exit → Act → World → Prop} {E : Prop} (hgd : op.guard = none) (ty : TypeId) (x y : Operand) (ho : op.op = .store ty x y)
    (b o : Nat) (cells : Array Value) (hx : a.eval x = .pointer (some ⟨b, o, none⟩)) (hy : a.eval y = .agg cells)
    (ht : w.there b o cells.size) (hi : (P.info? ty).map (·.size) = some cells.size) (h1 : cells.all (·.oneCell') = true)
    (h : K (a.put op.dst undef) (w.setCells b o cells.toList)) : if Region.wanted op (yielded ops a.tmps) = true then Oper.wp P op a w K Q else E := by
  rw [if_pos (by simp [Region.wanted, hgd])]
  exact wp_store_mid ty x y ho b o cells hx hy ht hi h1 h

set_option maxRecDepth 100000 in
set_option maxHeartbeats 1000000 in
theorem Dexch_any (b1 o1 b2 o2 : Nat) (es cs : List Value) (w : World) (h1 : Here w b1 o1 es) (h2 : Here w b2 o2 cs) (l1 : es.length = 72) (l2 : cs.length = 72) (c1 : es.toArray.all (·.oneCell') = true) (c2 : cs.toArray.all (·.oneCell') = true)
    (hap : b1 ≠ b2 ∨ o1 + 72 ≤ o2 ∨ o2 + 72 ≤ o1) :
    Calls Try.prog 36 #[.pointer (some ⟨b1, o1, none⟩), .pointer (some ⟨b2, o2, none⟩)] w fun e w' => e = .returned (.tuple #[]) ∧
      Here w' b1 o1 cs ∧ Here w' b2 o2 es ∧ Chg (fun b o => (b = b1 ∧ o1 ≤ o ∧ o < o1 + 72) ∨ (b = b2 ∧ o2 ≤ o ∧ o < o2 + 72)) w w' := by
  have H1 := Lib.hid h1
  have H2 := Lib.hid h2
  have i1 : Hid ((Try.prog.info? 59).map (·.size) = some es.length) := by show _ = _; rw [l1]; kernel_rfl
  have i2 : Hid ((Try.prog.info? 59).map (·.size) = some cs.length) := by show _ = _; rw [l2]; kernel_rfl
  have j1 : Hid ((Try.prog.info? 59).map (·.size) = some es.toArray.size) := by show _ = _; rw [List.size_toArray]; exact i1.out
  have j2 : Hid ((Try.prog.info? 59).map (·.size) = some cs.toArray.size) := by show _ = _; rw [List.size_toArray]; exact i2.out
  have T1 : Hid (w.drew.there b1 o1 cs.toArray.size) := by show World.there _ _ _ _; rw [List.size_toArray, l2, ← l1]; exact h1.2
  have T2 : Hid ((w.drew.setCells b1 o1 cs).there b2 o2 es.toArray.size) := by show World.there _ _ _ _; rw [List.size_toArray, l1, ← l2]; exact World.there_setCells (w := w.drew) h2.2 _ _ _
  have R1 : Hid (w.drew.rangeAt b1 o1 es) := h1.1
  have R2 : Hid (w.drew.rangeAt b2 o2 cs) := h2.1
  have C1 := Lib.hid c1
  have C2 := Lib.hid c2
  have hF : Hid (Here ((w.drew.setCells b1 o1 cs).setCells b2 o2 es) b1 o1 cs ∧ Here ((w.drew.setCells b1 o1 cs).setCells b2 o2 es) b2 o2 es ∧ Chg (fun b o => (b = b1 ∧ o1 ≤ o ∧ o < o1 + 72) ∨ (b = b2 ∧ o2 ≤ o ∧ o < o2 + 72)) w ((w.drew.setCells b1 o1 cs).setCells b2 o2 es)) := by
    have h1' : Here w.drew b1 o1 es := h1
    have h2' : Here w.drew b2 o2 cs := h2
    have g1 := h1'.set cs (by omega)
    have g2 := h2'.setOff (b' := b1) (o' := o1) cs (by rcases hap with h | h | h; exact .inl (fun e => h e.symm); exact .inr (.inr (by omega)); exact .inr (.inl (by omega)))
    refine ⟨g1.setOff es (by rcases hap with h | h | h; exact .inl h; exact .inr (.inl (by omega)); exact .inr (.inr (by omega))), g2.set es (by omega), ?_⟩
    exact ((Chg.refl _ w).drew.setCells (fun j hj _ => .inl ⟨rfl, by omega, by omega⟩) (by rw [l2, ← l1]; exact h1.2)).setCells (fun j hj _ => .inr ⟨rfl, by omega, by omega⟩) (by rw [l1, ← l2]; exact g2.2)
  have HF := hF
  clear h1 h2 l1 l2 c1 c2 hF
  go_enter Try.func36, Try.ntmps36
  go_wp2
  refine wp_region_held_drew (S := fun _ => True) (by kernel_rfl) trivial (fun hHeld => ?_)
  refine wpAnyH_take (i := 0) (oi := ⟨some 4, _, _, _, _, _⟩) (v := ?_) rfl (by kernel_rfl) (by kernel_rfl) (by kernel_rfl) (fun _ _ _ h => h) (Or.inl ⟨by rfl, ?_⟩) hHeld ?_
  rotate_left
  · intro w hSw
    go_simp
    with_reducible rfl
  try go_frame
  refine wpAnyH_take (i := 1) (oi := ⟨some 5, _, _, _, _, _⟩) (v := ?_) rfl (by kernel_rfl) (by kernel_rfl) (by kernel_rfl) (fun _ _ _ h => h) (Or.inl ⟨by rfl, ?_⟩) hHeld ?_
  rotate_left
  · intro w hSw
    go_simp
    with_reducible rfl
  try go_frame
  refine wpAnyH_take (i := 2) (oi := ⟨some 6, _, _, _, _, _⟩) (v := ?_) rfl (by kernel_rfl) (by kernel_rfl) (by kernel_rfl) (fun _ _ _ h => h) (Or.inl ⟨by rfl, ?_⟩) hHeld ?_
  rotate_left
  · intro w hSw
    go_simp
    with_reducible rfl
  try go_frame
  refine wpAnyH_take (i := 3) (oi := ⟨some 7, _, _, _, _, _⟩) (v := ?_) rfl (by kernel_rfl) (by kernel_rfl) (by kernel_rfl) (fun _ _ _ h => h) (Or.inl ⟨by rfl, ?_⟩) hHeld ?_
  rotate_left
  · intro w hSw
    go_simp
    with_reducible rfl
  try go_frame
  refine wpAnyH_take (i := 5) (oi := ⟨some 9, _, _, _, _, _⟩) (v := ?_) rfl (by kernel_rfl) (by kernel_rfl) (by kernel_rfl) (fun _ _ _ h => h) (Or.inl ⟨by rfl, ?_⟩) hHeld ?_
  rotate_left
  · intro w hSw
    go_simp
    with_reducible rfl
  try go_frame
  refine wpAnyH_take (i := 6) (oi := ⟨some 10, _, _, _, _, _⟩) (v := ?_) rfl (by kernel_rfl) (by kernel_rfl) (by kernel_rfl) (fun _ _ _ h => h) (Or.inl ⟨by rfl, ?_⟩) hHeld ?_
  rotate_left
  · intro w hSw
    go_simp
    with_reducible rfl
  try go_frame
  refine wpAnyH_ready (rs := [4, 7]) (by kernel_rfl) (by simp) ?_
  refine AllReadyH.cons (o := ⟨some 8, _, _, _, _, _⟩) rfl (fun K hK => ?_) ?_
  · skip
    rw [if_pos (by rfl)]
    refine wp_load_mid 59 (.tmp 7) rfl b2 o2 rfl cs _ R2.out Try.underlying59 rfl i2.out ?_
    refine hK.out _ _ trivial (fun hHeld => ?_)
    clear hK K
    try go_frame
    refine wpAnyH_ready (rs := [7]) (by kernel_rfl) (by simp) ?_
    refine AllReadyH.cons (o := ⟨some 11, _, _, _, _, _⟩) rfl (fun K hK => ?_) AllReadyH.nil
    rw [if_pos (by rfl)]
    refine wp_load_mid 59 (.tmp 10) rfl b1 o1 rfl es _ R1.out Try.underlying59 rfl i1.out ?_
    refine hK.out _ _ trivial (fun hHeld => ?_)
    clear hK K
    try go_frame
    refine wpAnyH_take (i := 8) (oi := ⟨some 12, _, _, _, _, _⟩) (v := ?_) rfl (by kernel_rfl) (by kernel_rfl) (by kernel_rfl) (fun _ _ _ h => h) (Or.inl ⟨by rfl, ?_⟩) hHeld ?_
    rotate_left
    · intro w hSw
      go_simp
      with_reducible rfl
    try go_frame
    refine wpAnyH_ready (rs := [9]) (by kernel_rfl) (by simp) ?_
    refine AllReadyH.cons (o := ⟨none, _, _, _, _, _⟩) rfl (fun K hK => ?_) AllReadyH.nil
    rw [if_pos (by rfl)]
    refine wp_store_mid 59 (.tmp 12) (.tmp 8) rfl b1 o1 cs.toArray rfl rfl T1.out j2.out C2.out ?_
    refine hK.out _ _ trivial (fun hHeld => ?_)
    clear hK K
    try go_frame
    refine wpAnyH_take (i := 10) (oi := ⟨some 13, _, _, _, _, _⟩) (v := ?_) rfl (by kernel_rfl) (by kernel_rfl) (by kernel_rfl) (fun _ _ _ h => h) (Or.inl ⟨by rfl, ?_⟩) hHeld ?_
    rotate_left
    · intro w hSw
      go_simp
      with_reducible rfl
    try go_frame
    refine wpAnyH_ready (rs := [11]) (by kernel_rfl) (by simp) ?_
    refine AllReadyH.cons (o := ⟨none, _, _, _, _, _⟩) rfl (fun K hK => ?_) AllReadyH.nil
    rw [if_pos (by rfl)]
    refine wp_store_mid 59 (.tmp 13) (.tmp 11) rfl b2 o2 es.toArray rfl rfl T2.out j1.out C1.out ?_
    refine hK.out _ _ trivial (fun hHeld => ?_)
    clear hK K
    try go_frame
    refine wpAnyH_done (by kernel_rfl) ?_ _
    (go_wp2; go_end0; exact ⟨rfl, HF.out⟩)
  refine AllReadyH.cons (o := ⟨some 11, _, _, _, _, _⟩) rfl (fun K hK => ?_) ?_
  · skip
    rw [if_pos (by rfl)]
    refine wp_load_mid 59 (.tmp 10) rfl b1 o1 rfl es _ R1.out Try.underlying59 rfl i1.out ?_
    refine hK.out _ _ trivial (fun hHeld => ?_)
    clear hK K
    try go_frame
    refine wpAnyH_ready (rs := [4]) (by kernel_rfl) (by simp) ?_
    refine AllReadyH.cons (o := ⟨some 8, _, _, _, _, _⟩) rfl (fun K hK => ?_) AllReadyH.nil
    rw [if_pos (by rfl)]
    refine wp_load_mid 59 (.tmp 7) rfl b2 o2 rfl cs _ R2.out Try.underlying59 rfl i2.out ?_
    refine hK.out _ _ trivial (fun hHeld => ?_)
    clear hK K
    try go_frame
    refine wpAnyH_take (i := 8) (oi := ⟨some 12, _, _, _, _, _⟩) (v := ?_) rfl (by kernel_rfl) (by kernel_rfl) (by kernel_rfl) (fun _ _ _ h => h) (Or.inl ⟨by rfl, ?_⟩) hHeld ?_
    rotate_left
    · intro w hSw
      go_simp
      with_reducible rfl
    try go_frame
    refine wpAnyH_ready (rs := [9]) (by kernel_rfl) (by simp) ?_
    refine AllReadyH.cons (o := ⟨none, _, _, _, _, _⟩) rfl (fun K hK => ?_) AllReadyH.nil
    rw [if_pos (by rfl)]
    refine wp_store_mid 59 (.tmp 12) (.tmp 8) rfl b1 o1 cs.toArray rfl rfl T1.out j2.out C2.out ?_
    refine hK.out _ _ trivial (fun hHeld => ?_)
    clear hK K
    try go_frame
    refine wpAnyH_take (i := 10) (oi := ⟨some 13, _, _, _, _, _⟩) (v := ?_) rfl (by kernel_rfl) (by kernel_rfl) (by kernel_rfl) (fun _ _ _ h => h) (Or.inl ⟨by rfl, ?_⟩) hHeld ?_
    rotate_left
    · intro w hSw
      go_simp
      with_reducible rfl
    try go_frame
    refine wpAnyH_ready (rs := [11]) (by kernel_rfl) (by simp) ?_
    refine AllReadyH.cons (o := ⟨none, _, _, _, _, _⟩) rfl (fun K hK => ?_) AllReadyH.nil
    rw [if_pos (by rfl)]
    refine wp_store_mid 59 (.tmp 13) (.tmp 11) rfl b2 o2 es.toArray rfl rfl T2.out j1.out C1.out ?_
    refine hK.out _ _ trivial (fun hHeld => ?_)
    clear hK K
    try go_frame
    refine wpAnyH_done (by kernel_rfl) ?_ _
    (go_wp2; go_end0; exact ⟨rfl, HF.out⟩)
  exact AllReadyH.nil
end Go.Proofs.Ytkghppobefllkaa
