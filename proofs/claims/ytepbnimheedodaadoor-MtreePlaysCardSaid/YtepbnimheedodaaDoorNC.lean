/-
  THE WALKS of the reference's Ask and New (written by wip/mkqnew.py).
-/
import Derived.Test.YtepbnimheedodaaDoorNB
namespace Go.Proofs.YtepbnimheedodaaDoor
open Go.RowKit Mk Mt

section
variable {w w' : World} {G : Nat → Prop} {M a b ca cb : Nat} {L : List Tg} {S : List Bool} {W : Nat}
theorem RefT.c0 (h : RefT w G M a b ca cb L S W) : w.cell? ⟨M, 0, none⟩ = some (.slice (some ⟨a, 0, none⟩) L.length ca) := h.head.head (j := 0) rfl
theorem RefT.c1 (h : RefT w G M a b ca cb L S W) : w.cell? ⟨M, 1, none⟩ = some (.slice (some ⟨b, 0, none⟩) L.length cb) := h.head.head (j := 1) rfl
theorem RefT.c2 (h : RefT w G M a b ca cb L S W) : w.cell? ⟨M, 2, none⟩ = some (.int .i64 (W : Int)) := h.head.head (j := 2) rfl
theorem RefT.fr (h : RefT w G M a b ca cb L S W) (j : Nat) (hj : j < 3) : w.frozen? ⟨M, j, none⟩ = false := h.head.headFree hj
theorem RefAt.cell2 (h : RefAt w G M L S W) : w.cell? ⟨M, 2, none⟩ = some (.int .i64 (W : Int)) := by obtain ⟨a, b, ca, cb, h⟩ := h; exact h.c2
theorem RefAt.free2 (h : RefAt w G M L S W) : w.frozen? ⟨M, 2, none⟩ = false := by obtain ⟨a, b, ca, cb, h⟩ := h; exact h.fr 2 (by omega)
theorem RefT.put2 (h : RefT w G M a b ca cb L S W) (v : Value) : Here (w.setCell ⟨M, 2, none⟩ v) M 0 [.slice (some ⟨a, 0, none⟩) L.length ca, .slice (some ⟨b, 0, none⟩) L.length cb, v] := by
  have := h.head.put 2 (by simp) v
  rwa [Nat.zero_add] at this
/-- Behind Ask's two stores. -/
theorem RefT.asked (h : RefT w G M a b ca cb L S W) (V : Nat) (w2 : World) (hw : w2 = ((w.setCell ⟨M, 2, none⟩ (.int .i64 (V : Int))).alloc (.cells ((List.replicate L.length false).map VB).toArray 4)).setCell ⟨M, 1, none⟩ (.slice (some ⟨w.heap.size, 0, none⟩) L.length L.length)) :
    RefT w2 (fun k => G k ∨ k = w.heap.size) M a w.heap.size ca L.length L (List.replicate L.length false) V ∧ Chg (fun k _ => G k) w w2 := by
  have hsz : (w.setCell ⟨M, 2, none⟩ (.int .i64 (V : Int))).heap.size = w.heap.size := by simp
  have hM := h.lt _ h.gM
  have ha := h.lt _ h.ga
  have h1 : Here (w.setCell ⟨M, 2, none⟩ (.int .i64 (V : Int))) M 0 [.slice (some ⟨a, 0, none⟩) L.length ca, .slice (some ⟨b, 0, none⟩) L.length cb, .int .i64 (V : Int)] := by
    have := h.head.put 2 (by simp) (.int .i64 (V : Int))
    rwa [Nat.zero_add] at this
  have h2 := (h1.alloc (.cells ((List.replicate L.length false).map VB).toArray 4)).put 1 (by simp) (.slice (some ⟨w.heap.size, 0, none⟩) L.length L.length)
  rw [Nat.zero_add] at h2
  have hr : Here ((w.setCell ⟨M, 2, none⟩ (.int .i64 (V : Int))).alloc (.cells ((List.replicate L.length false).map VB).toArray 4)) w.heap.size 0 ((List.replicate L.length false).map VB) := (Row.newAt 4 _ hsz).here
  subst hw
  refine ⟨⟨h2, ?_, hr.putOff (by show w.heap.size ≠ M; omega) _, by rw [List.length_replicate], h.t32, h.Ma, by omega, by omega, .inl h.gM, .inl h.ga, .inr rfl, fun k hk => ?_, h.few, h.pos⟩, ?_⟩
  · exact (((h.tags.putOff (p := ⟨M, 2, none⟩) (fun e => h.Ma e.symm) _).alloc _).putOff (p := ⟨M, 1, none⟩) (fun e => h.Ma e.symm) _)
  · have : (((w.setCell ⟨M, 2, none⟩ (.int .i64 (V : Int))).alloc (.cells ((List.replicate L.length false).map VB).toArray 4)).setCell ⟨M, 1, none⟩ (.slice (some ⟨w.heap.size, 0, none⟩) L.length L.length)).heap.size = w.heap.size + 1 := by simp
    rw [this]
    rcases hk with hk | hk
    · have := h.lt k hk; omega
    · omega
  · refine (((Chg.refl _ w).setCell (p := ⟨M, 2, none⟩) rfl (fun _ => h.gM) (by rw [h.c2]; rfl) _).alloc _).setCell (p := ⟨M, 1, none⟩) rfl (fun _ => h.gM) ?_ _
    have h3 := (h1.alloc (.cells ((List.replicate L.length false).map VB).toArray 4)).head (j := 1) rfl
    rw [h3]; rfl
end

set_option maxRecDepth 100000 in
set_option maxHeartbeats 1000000 in
theorem RQAsk_any {w0 : World} {G : Nat → Prop} {M : Nat} {L : List Tg} {S : List Bool} {W : Nat} (hR : RefAt w0 G M L S W) (h : Nat) (hh : IsH L.length h) (hW : W ≤ 1000000) (hst : st h S ≤ 1000000) :
    Calls Tryd.prog 11 #[.pointer (some ⟨M, 0, none⟩)] w0 fun e w' => e = .returned (.tuple #[]) ∧ ∃ G', RefAt w' G' M L (List.replicate L.length false) (W + st h S) ∧ (∀ k, G' k → G k ∨ w0.heap.size ≤ k) ∧ Chg (fun k _ => G k) w0 w' := by
  have HR := Lib.hid hR
  have Hh := Lib.hid hh
  obtain ⟨E, hE⟩ : ∃ E, E = st h S := ⟨_, rfl⟩
  have He := Lib.hid hE
  rw [← hE] at hst ⊢
  have Hc2 := Lib.hid hR.cell2
  have Hml : Hid (M < w0.heap.size) := by obtain ⟨a, b, ca, cb, hR⟩ := hR; exact hR.lt _ hR.gM
  have HKeep : Hid (∀ X, Below w0.heap.size w0 X → True) := fun _ _ => trivial
  have hmk := madeB
  have HMK := Lib.hid hmk
  clear hR hh hE hmk
  go_enter Tryd.func11, Tryd.ntmps11
  go_wp2_with fail
  have hC : Below w0.heap.size w0 w0.drew := below_drewN (Below.refl _ _) 1
  refine wp_region_held_drew (S := (fun _ => True)) (by kernel_rfl) (HKeep.out _ hC) (fun hHeld => ?_)
  generalize w0.drew = w0d at *
  refine wpAnyH_take (i := 0) (oi := ⟨some 2, _, _, _, _, _⟩) (v := ?_) rfl (by kernel_rfl) (by kernel_rfl) (by kernel_rfl) (fun _ _ _ h => h) (Or.inl ⟨by rfl, ?_⟩) hHeld ?_
  rotate_left
  · intro w hSw
    go_simp
    with_reducible rfl
  try go_frame
  refine wpAnyH_take (i := 1) (oi := ⟨some 3, _, _, _, _, _⟩) (v := ?_) rfl (by kernel_rfl) (by kernel_rfl) (by kernel_rfl) (fun _ _ _ h => h) (Or.inl ⟨by rfl, ?_⟩) hHeld ?_
  rotate_left
  · intro w hSw
    go_simp
    with_reducible rfl
  try go_frame
  refine wpAnyH_take (i := 2) (oi := ⟨some 4, _, _, _, _, _⟩) (v := ?_) rfl (by kernel_rfl) (by kernel_rfl) (by kernel_rfl) (fun _ _ _ h => h) (Or.inl ⟨by rfl, ?_⟩) hHeld ?_
  rotate_left
  · intro w hSw
    go_simp
    with_reducible rfl
  try go_frame
  refine wpAnyH_take (i := 3) (oi := ⟨some 5, _, _, _, _, _⟩) (v := ?_) rfl (by kernel_rfl) (by kernel_rfl) (by kernel_rfl) (fun _ _ _ h => h) (Or.inl ⟨by rfl, ?_⟩) hHeld ?_
  rotate_left
  · intro w hSw
    go_simp
    with_reducible rfl
  try go_frame
  refine wpAnyH_take (i := 5) (oi := ⟨some 7, _, _, _, _, _⟩) (v := ?_) rfl (by kernel_rfl) (by kernel_rfl) (by kernel_rfl) (fun _ _ _ h => h) (Or.inl ⟨by rfl, ?_⟩) hHeld ?_
  rotate_left
  · intro w hSw
    go_simp
    with_reducible rfl
  try go_frame
  refine wpAnyH_ready (rs := [4, 6]) (by kernel_rfl) (by simp) ?_
  refine AllReadyH.cons (o := ⟨some 6, _, _, _, _, _⟩) rfl (fun K hK => ?_) ?_
  · skip
    have cL : w0d.cell? ⟨M, 2, none⟩ = some (.int .i64 (W : Int)) := (World.cell?_of_block (w := w0) (hC.block M Hml.out)).trans Hc2.out
    go_simp
    refine hK.out _ _ trivial (fun hHeld => ?_)
    clear hK K
    try go_frame
    clear cL
    refine wpAnyH_ready (rs := [6]) (by kernel_rfl) (by simp) ?_
    refine AllReadyH.cons (o := ⟨some 8, _, _, _, _, _⟩) rfl (fun K hK => ?_) AllReadyH.nil
    go_simp
    refine (RQStale_any (HR.out.below hC) h Hh.out).mono ?_
    rintro e w0d_c ⟨rfl, hb⟩
    rw [← He.out]
    replace hC := hC.trans (hb.mono hC.size)
    clear hb
    refine hK.out _ _ trivial (fun hHeld => ?_)
    clear hK K
    try go_frame
    refine wpAnyH_take (i := 7) (oi := ⟨some 9, _, _, _, _, _⟩) (v := ?_) rfl (by kernel_rfl) (by kernel_rfl) (by kernel_rfl) (fun _ _ _ h => h) (Or.inl ⟨by rfl, ?_⟩) hHeld ?_
    rotate_left
    · intro w hSw
      go_simp
      with_reducible rfl
    try go_frame
    refine wpAnyH_take (i := 8) (oi := ⟨some 10, _, _, _, _, _⟩) (v := ?_) rfl (by kernel_rfl) (by kernel_rfl) (by kernel_rfl) (fun _ _ _ h => h) (Or.inl ⟨by rfl, ?_⟩) hHeld ?_
    rotate_left
    · intro w hSw
      go_simp
      with_reducible rfl
    try go_frame
    refine wpAnyH_take (i := 9) (oi := ⟨some 11, _, _, _, _, _⟩) (v := ?_) rfl (by kernel_rfl) (by kernel_rfl) (by kernel_rfl) (fun _ _ _ h => h) (Or.inl ⟨by rfl, ?_⟩) hHeld ?_
    rotate_left
    · intro w hSw
      go_simp
      with_reducible rfl
    try go_frame
    refine wpAnyH_ready (rs := [10]) (by kernel_rfl) (by simp) ?_
    refine AllReadyH.cons (o := ⟨none, _, _, _, _, _⟩) rfl (fun K hK => ?_) AllReadyH.nil
    have hRc := (HR.out.below hC)
    have cs := hRc.cell2
    have fs := hRc.free2
    go_simp
    refine hK.out _ _ trivial (fun hHeld => ?_)
    clear hK K
    try go_frame
    refine wpAnyH_done (by kernel_rfl) ?_ _
    obtain ⟨a, b, ca, cb, hRn⟩ := HR.out.below hC
    obtain ⟨V, hV⟩ : ∃ V, V = W + E := ⟨_, rfl⟩
    have HV := Lib.hid hV
    have hVi : IntKind.i64.wrap ((W : Int) + (E : Int)) = (V : Int) := by rw [IntKind.wrap_i64]; omega
    rw [hVi]
    obtain ⟨hA1, hA2⟩ := hRn.asked V _ rfl
    clear hV hVi
    have hp := hRn.put2 (.int .i64 (V : Int))
    have c0 := hp.head (j := 0) rfl
    have c1 := hp.head (j := 1) rfl
    have f1 := hp.headFree (j := 1) (by simp)
    have hfew := hRn.few
    have hmk := HMK.out L.length (by omega) (w0d_c.setCell ⟨M, 2, none⟩ (.int .i64 (V : Int)))
    have hsz : (w0d_c.setCell ⟨M, 2, none⟩ (.int .i64 (V : Int))).heap.size = w0d_c.heap.size := by simp
    rw [hsz] at hmk
    have c1a := (hp.alloc (.cells ((List.replicate L.length false).map VB).toArray 4)).head (j := 1) rfl
    have f1a := (hp.alloc (.cells ((List.replicate L.length false).map VB).toArray 4)).headFree (j := 1) (by simp)
    obtain ⟨rb, hrb⟩ : ∃ rb, rb = ((List.replicate L.length false).map VB).toArray := ⟨_, rfl⟩
    rw [← hrb] at hA1 hA2 hmk c1a f1a
    clear hrb
    have HA1 := Lib.hid hA1
    have HA2 := Lib.hid hA2
    have hsC := hC.size
    clear hA1 hA2 hp hRn cs fs hRc
    go_wp2
    go_end0
    rw [← HV.out]
    exact ⟨rfl, _, ⟨a, _, ca, _, HA1.out⟩, fun k hk => hk.imp id (fun e => by omega), (Chg.below hC _).then HA2.out⟩
  refine AllReadyH.cons (o := ⟨some 8, _, _, _, _, _⟩) rfl (fun K hK => ?_) ?_
  · skip
    go_simp
    refine (RQStale_any (HR.out.below hC) h Hh.out).mono ?_
    rintro e w0d_c ⟨rfl, hb⟩
    rw [← He.out]
    replace hC := hC.trans (hb.mono hC.size)
    clear hb
    refine hK.out _ _ trivial (fun hHeld => ?_)
    clear hK K
    try go_frame
    refine wpAnyH_ready (rs := [4]) (by kernel_rfl) (by simp) ?_
    refine AllReadyH.cons (o := ⟨some 6, _, _, _, _, _⟩) rfl (fun K hK => ?_) AllReadyH.nil
    have cL : w0d_c.cell? ⟨M, 2, none⟩ = some (.int .i64 (W : Int)) := (World.cell?_of_block (w := w0) (hC.block M Hml.out)).trans Hc2.out
    go_simp
    refine hK.out _ _ trivial (fun hHeld => ?_)
    clear hK K
    try go_frame
    clear cL
    refine wpAnyH_take (i := 7) (oi := ⟨some 9, _, _, _, _, _⟩) (v := ?_) rfl (by kernel_rfl) (by kernel_rfl) (by kernel_rfl) (fun _ _ _ h => h) (Or.inl ⟨by rfl, ?_⟩) hHeld ?_
    rotate_left
    · intro w hSw
      go_simp
      with_reducible rfl
    try go_frame
    refine wpAnyH_take (i := 8) (oi := ⟨some 10, _, _, _, _, _⟩) (v := ?_) rfl (by kernel_rfl) (by kernel_rfl) (by kernel_rfl) (fun _ _ _ h => h) (Or.inl ⟨by rfl, ?_⟩) hHeld ?_
    rotate_left
    · intro w hSw
      go_simp
      with_reducible rfl
    try go_frame
    refine wpAnyH_take (i := 9) (oi := ⟨some 11, _, _, _, _, _⟩) (v := ?_) rfl (by kernel_rfl) (by kernel_rfl) (by kernel_rfl) (fun _ _ _ h => h) (Or.inl ⟨by rfl, ?_⟩) hHeld ?_
    rotate_left
    · intro w hSw
      go_simp
      with_reducible rfl
    try go_frame
    refine wpAnyH_ready (rs := [10]) (by kernel_rfl) (by simp) ?_
    refine AllReadyH.cons (o := ⟨none, _, _, _, _, _⟩) rfl (fun K hK => ?_) AllReadyH.nil
    have hRc := (HR.out.below hC)
    have cs := hRc.cell2
    have fs := hRc.free2
    go_simp
    refine hK.out _ _ trivial (fun hHeld => ?_)
    clear hK K
    try go_frame
    refine wpAnyH_done (by kernel_rfl) ?_ _
    obtain ⟨a, b, ca, cb, hRn⟩ := HR.out.below hC
    obtain ⟨V, hV⟩ : ∃ V, V = W + E := ⟨_, rfl⟩
    have HV := Lib.hid hV
    have hVi : IntKind.i64.wrap ((W : Int) + (E : Int)) = (V : Int) := by rw [IntKind.wrap_i64]; omega
    rw [hVi]
    obtain ⟨hA1, hA2⟩ := hRn.asked V _ rfl
    clear hV hVi
    have hp := hRn.put2 (.int .i64 (V : Int))
    have c0 := hp.head (j := 0) rfl
    have c1 := hp.head (j := 1) rfl
    have f1 := hp.headFree (j := 1) (by simp)
    have hfew := hRn.few
    have hmk := HMK.out L.length (by omega) (w0d_c.setCell ⟨M, 2, none⟩ (.int .i64 (V : Int)))
    have hsz : (w0d_c.setCell ⟨M, 2, none⟩ (.int .i64 (V : Int))).heap.size = w0d_c.heap.size := by simp
    rw [hsz] at hmk
    have c1a := (hp.alloc (.cells ((List.replicate L.length false).map VB).toArray 4)).head (j := 1) rfl
    have f1a := (hp.alloc (.cells ((List.replicate L.length false).map VB).toArray 4)).headFree (j := 1) (by simp)
    obtain ⟨rb, hrb⟩ : ∃ rb, rb = ((List.replicate L.length false).map VB).toArray := ⟨_, rfl⟩
    rw [← hrb] at hA1 hA2 hmk c1a f1a
    clear hrb
    have HA1 := Lib.hid hA1
    have HA2 := Lib.hid hA2
    have hsC := hC.size
    clear hA1 hA2 hp hRn cs fs hRc
    go_wp2
    go_end0
    rw [← HV.out]
    exact ⟨rfl, _, ⟨a, _, ca, _, HA1.out⟩, fun k hk => hk.imp id (fun e => by omega), (Chg.below hC _).then HA2.out⟩
  exact AllReadyH.nil

def rp (m : Nat) (v : Value) : List Value := List.replicate m v
theorem rep_snoc (m : Nat) (v : Value) : rp m v ++ [v] = rp (m + 1) v := by rw [rp, rp, List.replicate_succ']
theorem rp_length (m : Nat) (v : Value) : (rp m v).length = m := by simp [rp]
theorem oneB : ∀ y ∈ [VB false], y.oneCell' = true := by simp [Value.oneCell']
theorem own_form3 {W : World} {B : Nat} {e : TypeId} {v : Value} {l : List Value} (h : Own W B e v l) : ∃ A n c, v = .slice A n c := by
  rcases h.2 with ⟨rfl, _⟩ | ⟨g, cap, cur, rfl, _⟩ <;> exact ⟨_, _, _, rfl⟩
theorem step_appT {P : Program} {w : World} {ops : Array Oper} {o : Oper} {a : Act} {K : Act → World → Prop} {Q : Exit → Act → World → Prop} {E : Prop} (hgd : o.guard = none) (s x : Operand) (t : TypeId)
    (ho : o.op = .call { callee := .builtin .append, args := #[s, x], argTypes := #[t, t] })
    (B : Nat) (e : TypeId) {z : Value} {bytes : Nat} (ht : P.underlying t = some (.slice e)) (hi : (P.info? e).map (fun i => (i.zero, i.size, i.bytes)) = some (some z, 1, bytes)) (hz : z.cells.size = 1) (hby : bytes ≤ 100)
    (v : Value) (ys : List Value) (hs : a.eval s = v) (hown : Own w B e v ys) (u : Value) (zs : List Value) (hx : a.eval x = u) (hu : From w u zs) (h1 : ∀ y ∈ zs, y.oneCell' = true)
    (hl : ys.length + zs.length ≤ 1000000) (hB : B ≤ w.heap.size)
    (h : ∀ v' w', Own w' B e v' (ys ++ zs) → w.grownBy w' v.ownBlock → (v'.ownBlock = v.ownBlock ∨ v'.ownBlock = some w.heap.size) → K (a.put o.dst v') w') :
    if Region.wanted o (yielded ops a.tmps) = true then Oper.wp P o a w K Q else E := by
  rw [if_pos (by simp [Region.wanted, hgd])]
  obtain ⟨v', w', hr, h2, h3, h4⟩ := run_appT (P := P) t o.type B e ht hi hz hby v ys hown u zs hu h1 hl hB
  unfold Oper.wp execOp
  simp only [ho, resolve, invoke, builtin, Sem.run_bind, Sem.run_pure, Result.andThen_ok, List.map_toArray, List.map_cons, List.map_nil, hs, hx, hr]
  exact h v' w' h2 h3 h4
def Unlike (u v : Value) : Prop := ∀ k, u.ownBlock = some k → v.ownBlock ≠ some k
theorem Unlike.symm {u v : Value} (h : Unlike u v) : Unlike v u := fun k h1 h2 => h k h2 h1
/-- Two rows of the call's own (from B on), their slices in the block M. -/
structure Duo (W : World) (M B : Nat) (va vb : Value) (ys us : List Value) : Prop where
  row : Row W M 41 [va, vb, .int .i64 0]
  oa : Own W B 9 va ys
  ob : Own W B 4 vb us
  ab : Unlike va vb
  MB : M < B
  hB : B ≤ W.heap.size
section
variable {W W' : World} {M B : Nat} {va vb : Value} {ys us : List Value}
theorem Duo.below (h : Duo W M B va vb ys us) (k : Below W.heap.size W W') : Duo W' M B va vb ys us :=
  ⟨h.row.below k h.row.lt, h.oa.below k (Nat.le_refl _), h.ob.below k (Nat.le_refl _), h.ab, h.MB, Nat.le_trans h.hB k.size⟩
theorem Duo.alloc (h : Duo W M B va vb ys us) (o : Obj) : Duo (W.alloc o) M B va vb ys us := h.below ((Below.refl _ _).alloc (Nat.le_refl _) _)
theorem Duo.drew (h : Duo W M B va vb ys us) : Duo W.drew M B va vb ys us := ⟨h.row, h.oa, h.ob, h.ab, h.MB, h.hB⟩
theorem own_put {e : TypeId} {v : Value} {l : List Value} (h : Own W B e v l) (hM : M < B) (j : Nat) (u : Value) : Own (W.setCell ⟨M, j, none⟩ u) B e v l :=
  h.kept (row := some M) (by_setCell (World.grownBy.refl W _) (.inl rfl) _) (.inr fun e' => by have := (h.lt e').1; omega)
theorem own_grown {e : TypeId} {v u : Value} {l : List Value} (h : Own W B e v l) (hg : W.grownBy W' u.ownBlock) (hu : Unlike u v) : Own W' B e v l :=
  h.kept hg (by
    cases hv : v.ownBlock with
    | none => exact .inl rfl
    | some k => exact .inr fun e' => hu k e'.symm hv)
theorem unlike_new {u u' v : Value} {e : TypeId} {l : List Value} (h : Unlike u v) (hv : Own W B e v l) (hu : u'.ownBlock = u.ownBlock ∨ u'.ownBlock = some W.heap.size) : Unlike u' v := fun k hk hk' => by
  rcases hu with hu | hu
  · exact h k (by rw [← hu]; exact hk) hk'
  · rw [hu] at hk
    injection hk with hk
    have := (hv.lt hk').2
    omega
theorem Duo.rowGrown {v : Value} {e : TypeId} {l : List Value} (h : Duo W M B va vb ys us) (ho : Own W B e v l) (hg : W.grownBy W' v.ownBlock) : Row W' M 41 [va, vb, .int .i64 0] :=
  h.row.grown hg fun e' => by have := (ho.lt e'.symm).1; have := h.MB; omega
theorem Duo.appa (h : Duo W M B va vb ys us) {v' : Value} {l : List Value} (ho : Own W' B 9 v' l) (hg : W.grownBy W' va.ownBlock) (hv : v'.ownBlock = va.ownBlock ∨ v'.ownBlock = some W.heap.size) :
    Duo (W'.setCell ⟨M, 0, none⟩ v') M B v' vb l us :=
  ⟨(h.rowGrown h.oa hg).set 0 v', own_put ho h.MB _ _, own_put (own_grown h.ob hg h.ab) h.MB _ _, unlike_new h.ab h.ob hv, h.MB, by simpa [World.setCell] using Nat.le_trans h.hB hg.size⟩
theorem Duo.appb (h : Duo W M B va vb ys us) {v' : Value} {l : List Value} (ho : Own W' B 4 v' l) (hg : W.grownBy W' vb.ownBlock) (hv : v'.ownBlock = vb.ownBlock ∨ v'.ownBlock = some W.heap.size) :
    Duo (W'.setCell ⟨M, 1, none⟩ v') M B va v' ys l :=
  ⟨(h.rowGrown h.ob hg).set 1 v', own_put (own_grown h.oa hg h.ab.symm) h.MB _ _, own_put ho h.MB _ _, (unlike_new h.ab.symm h.oa hv).symm, h.MB, by simpa [World.setCell] using Nat.le_trans h.hB hg.size⟩
theorem Duo.cell (h : Duo W M B va vb ys us) {v : Value} {e : TypeId} {l : List Value} (ho : Own W B e v l) (hg : W.grownBy W' v.ownBlock) (i : Nat) (hi : i < 3) : (W'.cell? ⟨M, i, none⟩).isSome = true ∧ W'.frozen? ⟨M, i, none⟩ = false := by
  have hr := h.rowGrown ho hg
  refine ⟨?_, hr.free i⟩
  rw [hr.cell]
  match i, hi with
  | 0, _ => rfl
  | 1, _ => rfl
  | 2, _ => rfl
theorem Duo.belowStore {w0 : World} {v u : Value} {e : TypeId} {l : List Value} {W2 : World} {o : Obj} (h : Duo W M B va vb ys us) (hb : Below w0.heap.size w0 W) (ho : Own W B e v l) (hg : (W.alloc o).grownBy W2 v.ownBlock) (hM : w0.heap.size ≤ M) (i : Nat) : Below w0.heap.size w0 (W2.setCell ⟨M, i, none⟩ u) := by
  have h1 : Below w0.heap.size w0 W2 := below_app (hb.alloc hb.size _) (ho.alloc _) hg (by have := h.MB; omega) (by have := hb.size; simp; omega)
  exact h1.setCell hM _
theorem own_here {e : TypeId} {v : Value} {l : List Value} (h : Own W B e v l) (hp : 0 < l.length) : ∃ g cap, v = .slice (some ⟨g, 0, none⟩) l.length cap ∧ B ≤ g ∧ g < W.heap.size ∧ v.ownBlock = some g ∧ Here W g 0 l := by
  rcases h.2 with ⟨_, h0⟩ | ⟨g, cap, cur, rfl, hb, hg, _, _, _, ht⟩
  · omega
  · refine ⟨g, cap, rfl, hb, (Array.getElem?_eq_some_iff.1 hg).1, rfl, ?_⟩
    have hr : Row W g e cur.toList := by rw [Row, Array.toArray_toList]; exact hg
    have := hr.here.part 0 l.length
    rw [Nat.zero_add, List.drop_zero, ← Nat.mul_one l.length, ht] at this
    exact this
end
theorem Duo.ref {W : World} {M B n : Nat} {va vb : Value} (h : Duo W M B va vb (rp n (VS zero)) (rp n (VB false))) (h1 : 1 ≤ n) (h2 : n ≤ 512) (hMB : B = M + 1) :
    RefAt W (fun k => M ≤ k ∧ k < W.heap.size) M (List.replicate n zero) (List.replicate n false) 0 := by
  obtain ⟨a, ca, rfl, ha, hal, hoa, hHa⟩ := own_here h.oa (by rw [rp_length]; omega)
  obtain ⟨b, cb, rfl, hb, hbl, hob, hHb⟩ := own_here h.ob (by rw [rp_length]; omega)
  have hr := h.row.here
  rw [rp_length] at hr
  rw [rp_length] at hr
  refine ⟨a, b, ca, cb, by rw [List.length_replicate]; exact hr, by rw [List.map_replicate]; exact hHa, by rw [List.map_replicate]; exact hHb, by rw [List.length_replicate, List.length_replicate], fun t ht => by rw [List.eq_of_mem_replicate ht]; rfl, by omega, by omega, ?_, ⟨by omega, h.row.lt⟩, ⟨by omega, hal⟩, ⟨by omega, hbl⟩, fun k hk => hk.2, by rw [List.length_replicate]; exact h2, by rw [List.length_replicate]; exact h1⟩
  intro e
  exact h.ab a hoa (by rw [hob, e])

set_option maxRecDepth 100000 in
set_option maxHeartbeats 4000000 in
theorem RQNew_any (n : Nat) (h1 : 1 ≤ n) (h2 : n ≤ 512) (w0 : World) :
    Calls Tryd.prog 8 #[.int .i64 n] w0 fun e w' => ∃ M G, e = .returned (.pointer (some ⟨M, 0, none⟩)) ∧ RefAt w' G M (List.replicate n zero) (List.replicate n false) 0 ∧ (∀ k, G k → w0.heap.size ≤ k) ∧ Below w0.heap.size w0 w' := by
  obtain ⟨M, hM⟩ : ∃ M, M = w0.heap.size := ⟨_, rfl⟩
  obtain ⟨B, hB⟩ : ∃ B, B = w0.heap.size + 1 := ⟨_, rfl⟩
  have HT0 : Hid (Duo (w0.alloc (.cells #[.slice none 0 0, .slice none 0 0, .int .i64 0] 41)) M B (.slice none 0 0) (.slice none 0 0) (rp 0 (VS zero)) (rp 0 (VB false))) := by
    refine ⟨?_, Own.nil _ _ _, Own.nil _ _ _, fun k hk => (by cases hk), by omega, by simp; omega⟩
    rw [hM]
    exact Row.new w0 41 [.slice none 0 0, .slice none 0 0, .int .i64 0]
  have HB0 : Hid (Below w0.heap.size w0 (w0.alloc (.cells #[.slice none 0 0, .slice none 0 0, .int .i64 0] 41))) := (Below.refl _ _).alloc (Nat.le_refl _) _
  have HMB : Hid (B = M + 1 ∧ M = w0.heap.size) := by show _ ∧ _; omega
  clear hM hB
  go_enter Tryd.func8, Tryd.ntmps8
  go_wp2
  rw [← HMB.out.2]
  go_loopw [4] (fun i wr => ∃ (m : Nat) (va vb : Value), m ≤ n ∧ i = .int .i64 m ∧ Hid (Duo wr M B va vb (rp m (VS zero)) (rp m (VB false))) ∧ Hid (Below w0.heap.size w0 wr)) (fun i _ => n - (intOf i).toNat)
  case atStart => exact ⟨0, _, _, by omega, rfl, HT0, HB0⟩
  case round =>
    obtain ⟨m, va, vb, hm, rfl, HT, HB⟩ := hrel
    clear HT0 HB0
    by_cases hlt : m < n
    · have HLa : Hid ((rp m (VS zero)).length + [VS zero].length ≤ 1000000) := by show _ ≤ _; rw [rp_length]; simp; omega
      have HLb : Hid ((rp m (VB false)).length + [VB false].length ≤ 1000000) := by show _ ≤ _; rw [rp_length]; simp; omega
      have HN : Hid (∀ (W : World) (a b : Value), Duo W M B a b (rp m (VS zero) ++ [VS zero]) (rp m (VB false) ++ [VB false]) → Hid (Duo W M B a b (rp (m + 1) (VS zero)) (rp (m + 1) (VB false)))) := fun W a b hh => by
        rw [rep_snoc, rep_snoc] at hh; exact hh
      generalize rp m (VS zero) = ys at *
      generalize rp m (VB false) = us at *
      go_wp2
      refine wp_region_held_drew (S := fun _ => True) (by kernel_rfl) trivial (fun hHeld => ?_)
      refine wpAnyH_take (i := 0) (oi := ⟨some 12, _, _, _, _, _⟩) (v := ?_) rfl (by kernel_rfl) (by kernel_rfl) (by kernel_rfl) (fun _ _ _ h => h) (Or.inl ⟨by rfl, ?_⟩) hHeld ?_
      rotate_left
      · intro w hSw
        go_simp
        with_reducible rfl
      try go_frame
      refine wpAnyH_take (i := 1) (oi := ⟨some 13, _, _, _, _, _⟩) (v := ?_) rfl (by kernel_rfl) (by kernel_rfl) (by kernel_rfl) (fun _ _ _ h => h) (Or.inl ⟨by rfl, ?_⟩) hHeld ?_
      rotate_left
      · intro w hSw
        go_simp
        with_reducible rfl
      try go_frame
      refine wpAnyH_take (i := 2) (oi := ⟨some 14, _, _, _, _, _⟩) (v := ?_) rfl (by kernel_rfl) (by kernel_rfl) (by kernel_rfl) (fun _ _ _ h => h) (Or.inl ⟨by rfl, ?_⟩) hHeld ?_
      rotate_left
      · intro w hSw
        go_simp
        with_reducible rfl
      try go_frame
      refine wpAnyH_take (i := 3) (oi := ⟨some 15, _, _, _, _, _⟩) (v := ?_) rfl (by kernel_rfl) (by kernel_rfl) (by kernel_rfl) (fun _ _ _ h => h) (Or.inl ⟨by rfl, ?_⟩) hHeld ?_
      rotate_left
      · intro w hSw
        go_simp
        with_reducible rfl
      try go_frame
      refine wpAnyH_ready (rs := [4, 5]) (by kernel_rfl) (by simp) ?_
      refine AllReadyH.cons (o := ⟨some 16, _, _, _, _, _⟩) rfl (fun K hK => ?_) ?_
      · skip
        have cL := (HT.out.drew).row.cell 0
        simp only [List.getElem?_cons_zero] at cL
        go_simp
        refine hK.out _ _ trivial (fun hHeld => ?_)
        clear hK K
        try go_frame
        clear cL
        refine wpAnyH_ready (rs := [5]) (by kernel_rfl) (by simp) ?_
        refine AllReadyH.cons (o := ⟨some 17, _, _, _, _, _⟩) rfl (fun K hK => ?_) AllReadyH.nil
        go_simp
        refine (RMZero_any _).mono ?_
        rintro e w2 ⟨rfl, hb2⟩
        have HT2 : Hid (Duo w2 M B va vb ys us) := (HT.out).drew.below hb2
        have HB2 : Hid (Below w0.heap.size w0 w2) := (below_drewN HB.out 1).trans (hb2.mono HB.out.size)
        clear hb2
        refine hK.out _ _ trivial (fun hHeld => ?_)
        clear hK K
        try go_frame
        refine wpAnyH_ready (rs := [6]) (by kernel_rfl) (by simp) ?_
        refine AllReadyH.cons (o := ⟨some 18, _, _, _, _, _⟩) rfl (fun K hK => ?_) AllReadyH.nil
        go_simp
        refine hK.out _ _ trivial (fun hHeld => ?_)
        clear hK K
        try go_frame
        refine wpAnyH_ready (rs := [7]) (by kernel_rfl) (by simp) ?_
        refine AllReadyH.cons (o := ⟨some 19, _, _, _, _, _⟩) rfl (fun K hK => ?_) AllReadyH.nil
        have hz2 := HT2.out.hB
        refine step_appT rfl (.tmp 16) (.tmp 18) 38 rfl B 9 Tryd.underlying38 infoStr rfl (by decide) _ ys rfl (HT2.out.oa.alloc _) _ [VS zero] rfl (from_new w2 9 [VS zero]) (oneStr [zero]) HLa.out (by simp; omega) ?_
        intro v3 w3 hown3 hg3 hv3
        obtain ⟨A3, n3, k3, rfl⟩ := own_form3 hown3
        have HT3 : Hid (Duo (w3.setCell ⟨M, 0, none⟩ (Value.slice A3 n3 k3)) M B (Value.slice A3 n3 k3) vb (ys ++ [VS zero]) us) := (HT2.out.alloc _).appa hown3 hg3 hv3
        have HB3 : Hid (Below w0.heap.size w0 (w3.setCell ⟨M, 0, none⟩ (Value.slice A3 n3 k3))) := HT2.out.belowStore HB2.out HT2.out.oa hg3 (Nat.le_of_eq HMB.out.2.symm) 0
        obtain ⟨c3, f3⟩ := (HT2.out.alloc _).cell (HT2.out.alloc _).oa hg3 0 (by omega)
        obtain ⟨u3, hu3⟩ := Option.isSome_iff_exists.1 c3
        clear hown3 hg3 hv3 c3 hz2 HT2 HB2
        refine hK.out _ _ trivial (fun hHeld => ?_)
        clear hK K
        try go_frame
        refine wpAnyH_take (i := 8) (oi := ⟨some 20, _, _, _, _, _⟩) (v := ?_) rfl (by kernel_rfl) (by kernel_rfl) (by kernel_rfl) (fun _ _ _ h => h) (Or.inl ⟨by rfl, ?_⟩) hHeld ?_
        rotate_left
        · intro w hSw
          go_simp
          with_reducible rfl
        try go_frame
        refine wpAnyH_take (i := 9) (oi := ⟨some 21, _, _, _, _, _⟩) (v := ?_) rfl (by kernel_rfl) (by kernel_rfl) (by kernel_rfl) (fun _ _ _ h => h) (Or.inl ⟨by rfl, ?_⟩) hHeld ?_
        rotate_left
        · intro w hSw
          go_simp
          with_reducible rfl
        try go_frame
        refine wpAnyH_ready (rs := [10]) (by kernel_rfl) (by simp) ?_
        refine AllReadyH.cons (o := ⟨none, _, _, _, _, _⟩) rfl (fun K hK => ?_) AllReadyH.nil
        go_simp
        refine hK.out _ _ trivial (fun hHeld => ?_)
        clear hK K
        try go_frame
        refine wpAnyH_done (by kernel_rfl) ?_ _
        clear hu3 f3
        have HT4 := HT3
        have HB4 := HB3
        clear HT3 HB3
        generalize (w3.setCell ⟨M, 0, none⟩ (Value.slice A3 n3 k3)) = w4 at *
        have hz4 := HT4.out.hB
        have cL := HT4.out.row.cell 1
        simp only [List.getElem?_cons_zero, List.getElem?_cons_succ] at cL
        go_wp2_with (at_builtin; refine wpList_appT rfl (.tmp 26) (.tmp 27) 39 rfl B 4 Tryd.underlying39 infoB rfl (by decide) _ us rfl (HT4.out.ob.alloc _) _ [VB false] rfl (from_new w4 4 [VB false]) oneB HLb.out (by simp; omega) ?_; intro v5 w5 hown5 hg5 hv5; obtain ⟨A5, n5, k5, rfl⟩ := own_form3 hown5; have HT5 : Hid (Duo (w5.setCell ⟨M, 1, none⟩ (Value.slice A5 n5 k5)) M B (Value.slice A3 n3 k3) (Value.slice A5 n5 k5) (ys ++ [VS zero]) (us ++ [VB false])) := (HT4.out.alloc _).appb hown5 hg5 hv5; have HB5 : Hid (Below w0.heap.size w0 (w5.setCell ⟨M, 1, none⟩ (Value.slice A5 n5 k5))) := HT4.out.belowStore HB4.out HT4.out.ob hg5 (Nat.le_of_eq HMB.out.2.symm) 1; obtain ⟨c5, f5⟩ := (HT4.out.alloc _).cell (HT4.out.alloc _).ob hg5 1 (by omega); obtain ⟨u5, hu5⟩ := Option.isSome_iff_exists.1 c5; clear hown5 hg5 hv5 c5 hz4 HT4 HB4 cL)
        clear hu5 f5
        go_roundw
        case rel => exact ⟨m + 1, (Value.slice A3 n3 k3), (Value.slice A5 n5 k5), by omega, by go_num, HN.out _ _ _ HT5.out, HB5⟩
        case measure => rw [iO9, show intOf (.int .i64 (m : Int)) = (m : Int) from rfl]; omega
      refine AllReadyH.cons (o := ⟨some 17, _, _, _, _, _⟩) rfl (fun K hK => ?_) ?_
      · skip
        go_simp
        refine (RMZero_any _).mono ?_
        rintro e w2 ⟨rfl, hb2⟩
        have HT2 : Hid (Duo w2 M B va vb ys us) := (HT.out).drew.below hb2
        have HB2 : Hid (Below w0.heap.size w0 w2) := (below_drewN HB.out 1).trans (hb2.mono HB.out.size)
        clear hb2
        refine hK.out _ _ trivial (fun hHeld => ?_)
        clear hK K
        try go_frame
        refine wpAnyH_ready (rs := [4, 6]) (by kernel_rfl) (by simp) ?_
        refine AllReadyH.cons (o := ⟨some 16, _, _, _, _, _⟩) rfl (fun K hK => ?_) ?_
        · skip
          have cL := (HT2.out).row.cell 0
          simp only [List.getElem?_cons_zero] at cL
          go_simp
          refine hK.out _ _ trivial (fun hHeld => ?_)
          clear hK K
          try go_frame
          clear cL
          refine wpAnyH_ready (rs := [6]) (by kernel_rfl) (by simp) ?_
          refine AllReadyH.cons (o := ⟨some 18, _, _, _, _, _⟩) rfl (fun K hK => ?_) AllReadyH.nil
          go_simp
          refine hK.out _ _ trivial (fun hHeld => ?_)
          clear hK K
          try go_frame
          refine wpAnyH_ready (rs := [7]) (by kernel_rfl) (by simp) ?_
          refine AllReadyH.cons (o := ⟨some 19, _, _, _, _, _⟩) rfl (fun K hK => ?_) AllReadyH.nil
          have hz2 := HT2.out.hB
          refine step_appT rfl (.tmp 16) (.tmp 18) 38 rfl B 9 Tryd.underlying38 infoStr rfl (by decide) _ ys rfl (HT2.out.oa.alloc _) _ [VS zero] rfl (from_new w2 9 [VS zero]) (oneStr [zero]) HLa.out (by simp; omega) ?_
          intro v3 w3 hown3 hg3 hv3
          obtain ⟨A3, n3, k3, rfl⟩ := own_form3 hown3
          have HT3 : Hid (Duo (w3.setCell ⟨M, 0, none⟩ (Value.slice A3 n3 k3)) M B (Value.slice A3 n3 k3) vb (ys ++ [VS zero]) us) := (HT2.out.alloc _).appa hown3 hg3 hv3
          have HB3 : Hid (Below w0.heap.size w0 (w3.setCell ⟨M, 0, none⟩ (Value.slice A3 n3 k3))) := HT2.out.belowStore HB2.out HT2.out.oa hg3 (Nat.le_of_eq HMB.out.2.symm) 0
          obtain ⟨c3, f3⟩ := (HT2.out.alloc _).cell (HT2.out.alloc _).oa hg3 0 (by omega)
          obtain ⟨u3, hu3⟩ := Option.isSome_iff_exists.1 c3
          clear hown3 hg3 hv3 c3 hz2 HT2 HB2
          refine hK.out _ _ trivial (fun hHeld => ?_)
          clear hK K
          try go_frame
          refine wpAnyH_take (i := 8) (oi := ⟨some 20, _, _, _, _, _⟩) (v := ?_) rfl (by kernel_rfl) (by kernel_rfl) (by kernel_rfl) (fun _ _ _ h => h) (Or.inl ⟨by rfl, ?_⟩) hHeld ?_
          rotate_left
          · intro w hSw
            go_simp
            with_reducible rfl
          try go_frame
          refine wpAnyH_take (i := 9) (oi := ⟨some 21, _, _, _, _, _⟩) (v := ?_) rfl (by kernel_rfl) (by kernel_rfl) (by kernel_rfl) (fun _ _ _ h => h) (Or.inl ⟨by rfl, ?_⟩) hHeld ?_
          rotate_left
          · intro w hSw
            go_simp
            with_reducible rfl
          try go_frame
          refine wpAnyH_ready (rs := [10]) (by kernel_rfl) (by simp) ?_
          refine AllReadyH.cons (o := ⟨none, _, _, _, _, _⟩) rfl (fun K hK => ?_) AllReadyH.nil
          go_simp
          refine hK.out _ _ trivial (fun hHeld => ?_)
          clear hK K
          try go_frame
          refine wpAnyH_done (by kernel_rfl) ?_ _
          clear hu3 f3
          have HT4 := HT3
          have HB4 := HB3
          clear HT3 HB3
          generalize (w3.setCell ⟨M, 0, none⟩ (Value.slice A3 n3 k3)) = w4 at *
          have hz4 := HT4.out.hB
          have cL := HT4.out.row.cell 1
          simp only [List.getElem?_cons_zero, List.getElem?_cons_succ] at cL
          go_wp2_with (at_builtin; refine wpList_appT rfl (.tmp 26) (.tmp 27) 39 rfl B 4 Tryd.underlying39 infoB rfl (by decide) _ us rfl (HT4.out.ob.alloc _) _ [VB false] rfl (from_new w4 4 [VB false]) oneB HLb.out (by simp; omega) ?_; intro v5 w5 hown5 hg5 hv5; obtain ⟨A5, n5, k5, rfl⟩ := own_form3 hown5; have HT5 : Hid (Duo (w5.setCell ⟨M, 1, none⟩ (Value.slice A5 n5 k5)) M B (Value.slice A3 n3 k3) (Value.slice A5 n5 k5) (ys ++ [VS zero]) (us ++ [VB false])) := (HT4.out.alloc _).appb hown5 hg5 hv5; have HB5 : Hid (Below w0.heap.size w0 (w5.setCell ⟨M, 1, none⟩ (Value.slice A5 n5 k5))) := HT4.out.belowStore HB4.out HT4.out.ob hg5 (Nat.le_of_eq HMB.out.2.symm) 1; obtain ⟨c5, f5⟩ := (HT4.out.alloc _).cell (HT4.out.alloc _).ob hg5 1 (by omega); obtain ⟨u5, hu5⟩ := Option.isSome_iff_exists.1 c5; clear hown5 hg5 hv5 c5 hz4 HT4 HB4 cL)
          clear hu5 f5
          go_roundw
          case rel => exact ⟨m + 1, (Value.slice A3 n3 k3), (Value.slice A5 n5 k5), by omega, by go_num, HN.out _ _ _ HT5.out, HB5⟩
          case measure => rw [iO9, show intOf (.int .i64 (m : Int)) = (m : Int) from rfl]; omega
        refine AllReadyH.cons (o := ⟨some 18, _, _, _, _, _⟩) rfl (fun K hK => ?_) ?_
        · skip
          go_simp
          refine hK.out _ _ trivial (fun hHeld => ?_)
          clear hK K
          try go_frame
          refine wpAnyH_ready (rs := [4]) (by kernel_rfl) (by simp) ?_
          refine AllReadyH.cons (o := ⟨some 16, _, _, _, _, _⟩) rfl (fun K hK => ?_) AllReadyH.nil
          have cL := ((HT2.out.alloc (.cells #[VS zero] 9))).row.cell 0
          simp only [List.getElem?_cons_zero] at cL
          go_simp
          refine hK.out _ _ trivial (fun hHeld => ?_)
          clear hK K
          try go_frame
          clear cL
          refine wpAnyH_ready (rs := [7]) (by kernel_rfl) (by simp) ?_
          refine AllReadyH.cons (o := ⟨some 19, _, _, _, _, _⟩) rfl (fun K hK => ?_) AllReadyH.nil
          have hz2 := HT2.out.hB
          refine step_appT rfl (.tmp 16) (.tmp 18) 38 rfl B 9 Tryd.underlying38 infoStr rfl (by decide) _ ys rfl (HT2.out.oa.alloc _) _ [VS zero] rfl (from_new w2 9 [VS zero]) (oneStr [zero]) HLa.out (by simp; omega) ?_
          intro v3 w3 hown3 hg3 hv3
          obtain ⟨A3, n3, k3, rfl⟩ := own_form3 hown3
          have HT3 : Hid (Duo (w3.setCell ⟨M, 0, none⟩ (Value.slice A3 n3 k3)) M B (Value.slice A3 n3 k3) vb (ys ++ [VS zero]) us) := (HT2.out.alloc _).appa hown3 hg3 hv3
          have HB3 : Hid (Below w0.heap.size w0 (w3.setCell ⟨M, 0, none⟩ (Value.slice A3 n3 k3))) := HT2.out.belowStore HB2.out HT2.out.oa hg3 (Nat.le_of_eq HMB.out.2.symm) 0
          obtain ⟨c3, f3⟩ := (HT2.out.alloc _).cell (HT2.out.alloc _).oa hg3 0 (by omega)
          obtain ⟨u3, hu3⟩ := Option.isSome_iff_exists.1 c3
          clear hown3 hg3 hv3 c3 hz2 HT2 HB2
          refine hK.out _ _ trivial (fun hHeld => ?_)
          clear hK K
          try go_frame
          refine wpAnyH_take (i := 8) (oi := ⟨some 20, _, _, _, _, _⟩) (v := ?_) rfl (by kernel_rfl) (by kernel_rfl) (by kernel_rfl) (fun _ _ _ h => h) (Or.inl ⟨by rfl, ?_⟩) hHeld ?_
          rotate_left
          · intro w hSw
            go_simp
            with_reducible rfl
          try go_frame
          refine wpAnyH_take (i := 9) (oi := ⟨some 21, _, _, _, _, _⟩) (v := ?_) rfl (by kernel_rfl) (by kernel_rfl) (by kernel_rfl) (fun _ _ _ h => h) (Or.inl ⟨by rfl, ?_⟩) hHeld ?_
          rotate_left
          · intro w hSw
            go_simp
            with_reducible rfl
          try go_frame
          refine wpAnyH_ready (rs := [10]) (by kernel_rfl) (by simp) ?_
          refine AllReadyH.cons (o := ⟨none, _, _, _, _, _⟩) rfl (fun K hK => ?_) AllReadyH.nil
          go_simp
          refine hK.out _ _ trivial (fun hHeld => ?_)
          clear hK K
          try go_frame
          refine wpAnyH_done (by kernel_rfl) ?_ _
          clear hu3 f3
          have HT4 := HT3
          have HB4 := HB3
          clear HT3 HB3
          generalize (w3.setCell ⟨M, 0, none⟩ (Value.slice A3 n3 k3)) = w4 at *
          have hz4 := HT4.out.hB
          have cL := HT4.out.row.cell 1
          simp only [List.getElem?_cons_zero, List.getElem?_cons_succ] at cL
          go_wp2_with (at_builtin; refine wpList_appT rfl (.tmp 26) (.tmp 27) 39 rfl B 4 Tryd.underlying39 infoB rfl (by decide) _ us rfl (HT4.out.ob.alloc _) _ [VB false] rfl (from_new w4 4 [VB false]) oneB HLb.out (by simp; omega) ?_; intro v5 w5 hown5 hg5 hv5; obtain ⟨A5, n5, k5, rfl⟩ := own_form3 hown5; have HT5 : Hid (Duo (w5.setCell ⟨M, 1, none⟩ (Value.slice A5 n5 k5)) M B (Value.slice A3 n3 k3) (Value.slice A5 n5 k5) (ys ++ [VS zero]) (us ++ [VB false])) := (HT4.out.alloc _).appb hown5 hg5 hv5; have HB5 : Hid (Below w0.heap.size w0 (w5.setCell ⟨M, 1, none⟩ (Value.slice A5 n5 k5))) := HT4.out.belowStore HB4.out HT4.out.ob hg5 (Nat.le_of_eq HMB.out.2.symm) 1; obtain ⟨c5, f5⟩ := (HT4.out.alloc _).cell (HT4.out.alloc _).ob hg5 1 (by omega); obtain ⟨u5, hu5⟩ := Option.isSome_iff_exists.1 c5; clear hown5 hg5 hv5 c5 hz4 HT4 HB4 cL)
          clear hu5 f5
          go_roundw
          case rel => exact ⟨m + 1, (Value.slice A3 n3 k3), (Value.slice A5 n5 k5), by omega, by go_num, HN.out _ _ _ HT5.out, HB5⟩
          case measure => rw [iO9, show intOf (.int .i64 (m : Int)) = (m : Int) from rfl]; omega
        exact AllReadyH.nil
      exact AllReadyH.nil
    · obtain rfl : m = n := by omega
      have href := HT.out.ref h1 h2 HMB.out.1
      have Href := Lib.hid href
      clear href
      go_wp2
      go_ret
      exact ⟨M, _, rfl, Href.out, fun k hk => by have := hk.1; have := HMB.out.2; omega, HB.out⟩
end Go.Proofs.YtepbnimheedodaaDoor
