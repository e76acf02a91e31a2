/-
  OF THE WALK: MrMB, MrMC, MrME, MrMF, MrML, MrMM, MrMS.
-/
import Derived.Deep.MidRow
import Derived.Laws.StructEq
import Derived.StillTailTactics
import Derived.Test.YthbmknpbcgnabaaGreatDoorP15
namespace Go.Proofs.YthbmknpbcgnabaaGreatDoor.Mr
open Go.RowKit
abbrev VS (bs : List UInt8) : Value := .string (strB bs)
theorem infoS : (Tryz.prog.info? 22).map (fun i => (i.zero, i.size, i.bytes)) = some (some (.slice none 0 0), 1, 24) := by kernel_rfl
theorem run_appT {P : Program} {w : World} (t ty : TypeId) (B : Nat) (e : TypeId) {z : Value} {bytes : Nat} (ht : P.underlying t = some (.slice e)) (hi : (P.info? e).map (fun i => (i.zero, i.size, i.bytes)) = some (some z, 1, bytes)) (hz : z.cells.size = 1) (hby : bytes ≤ 100)
    (v : Value) (ys : List Value) (hown : Own w B e v ys) (u : Value) (zs : List Value) (hu : From w u zs) (h1 : ∀ y ∈ zs, y.oneCell' = true) (hl : ys.length + zs.length ≤ 1000000) (hB : B ≤ w.heap.size) :
    ∃ v' w', (Builtin.append_ #[t, t] ty #[v, u]).run P w = .ok v' w' ∧ Own w' B e v' (ys ++ zs) ∧ w.grownBy w' v.ownBlock ∧ (v'.ownBlock = v.ownBlock ∨ v'.ownBlock = some w.heap.size) := by
  obtain ⟨i, hi, hz0, hz1, hz2⟩ := info_parts hi
  have hby' : (ys.length + zs.length) * bytes ≤ 140737488355328 := by
    have : (ys.length + zs.length) * bytes ≤ 1000000 * 100 := Nat.mul_le_mul hl hby
    omega
  rcases hu with ⟨A, rfl, rfl⟩ | ⟨b, off, c, rfl, _, hsee⟩
  · cases A with
    | none => exact ⟨v, w, run_append_owned_none w B t ty e i 1 ht hi v ys.length ys hown, by rw [List.append_nil]; exact hown, World.grownBy.refl w _, .inl rfl⟩
    | some ad =>
      obtain ⟨v', w', hr, h2, h3, _, h5⟩ := run_append_own_at w B t ty e i z 1 bytes ht hi hz0 hz1 hz2 hz (by omega) v ys.length ys hown ad 0 0 [] (by simp) (fun j u hu => by simp at hu) (by simp) (by simp only [maxLen]; simp at hl; omega) (by simpa using hby') hB
      exact ⟨v', w', hr, by rw [Nat.add_zero] at h2; rw [List.append_nil] at h2 ⊢; exact h2, h3, h5⟩
  · obtain ⟨v', w', hr, h2, h3, _, h5⟩ := run_append_own_at w B t ty e i z 1 bytes ht hi hz0 hz1 hz2 hz (by omega) v ys.length ys hown ⟨b, off, none⟩ zs.length c zs (by simp) (fun j u hu => by rw [add_off]; exact hsee j u hu) h1 (by simp only [maxLen]; omega) hby' hB
    exact ⟨v', w', hr, by rw [← List.length_append] at h2; exact h2, h3, h5⟩
theorem wpList_appT {P : Program} {w : World} {ops : Array Oper} {rest : List Oper} {o : Oper} {a : Act} {Q : Exit → Act → World → Prop} (hgd : o.guard = none) (s x : Operand) (t : TypeId)
    (ho : o.op = .call { callee := .builtin .append, args := #[s, x], argTypes := #[t, t] })
    (B : Nat) (e : TypeId) {z : Value} {bytes : Nat} (ht : P.underlying t = some (.slice e)) (hi : (P.info? e).map (fun i => (i.zero, i.size, i.bytes)) = some (some z, 1, bytes)) (hz : z.cells.size = 1) (hby : bytes ≤ 100)
    (v : Value) (ys : List Value) (hs : a.eval s = v) (hown : Own w B e v ys) (u : Value) (zs : List Value) (hx : a.eval x = u) (hu : From w u zs) (h1 : ∀ y ∈ zs, y.oneCell' = true)
    (hl : ys.length + zs.length ≤ 1000000) (hB : B ≤ w.heap.size)
    (h : ∀ v' w', Own w' B e v' (ys ++ zs) → w.grownBy w' v.ownBlock → (v'.ownBlock = v.ownBlock ∨ v'.ownBlock = some w.heap.size) → wpList P ops Q rest (a.put o.dst v') w') : wpList P ops Q (o :: rest) a w := by
  refine wpList_plain hgd fun K hK => ?_
  obtain ⟨v', w', hr, h2, h3, h4⟩ := run_appT (P := P) t o.type B e ht hi hz hby v ys hown u zs hu h1 hl hB
  unfold Oper.wp execOp
  simp only [ho, resolve, invoke, builtin, Sem.run_bind, Sem.run_pure, Result.andThen_ok, List.map_toArray, List.map_cons, List.map_nil, hs, hx, hr]
  exact hK _ _ (h v' w' h2 h3 h4)
def Rowed {α : Type} (f : α → Value) (e : TypeId) (B : Nat) (W : World) (v : Value) (ps : List (List α)) : Prop :=
  ∃ vs, Own W B e v vs ∧ vs.length = ps.length ∧ ∀ (j : Nat) u p, vs[j]? = some u → ps[j]? = some p → ∃ b o c, u = .slice (some ⟨b, o, none⟩) p.length c ∧ p.length ≤ c ∧ b < W.heap.size ∧ v.ownBlock ≠ some b ∧ Sees W b o (p.map f)
section
variable {α : Type} {f : α → Value} {e : TypeId} {B : Nat} {W W' : World} {v v' : Value} {ps : List (List α)} {p : List α} {b o c : Nat}
theorem Rowed.nil : Rowed f e B W (.slice none 0 0) [] := ⟨[], Own.nil _ _ _, rfl, fun j u p hu => by simp at hu⟩
theorem Rowed.below (h : Rowed f e B W v ps) (hb : Below W.heap.size W W') : Rowed f e B W' v ps := by
  obtain ⟨vs, ho, hl, hw⟩ := h
  refine ⟨vs, ho.below hb (Nat.le_refl _), hl, fun j u p hu hp => ?_⟩
  obtain ⟨b, o, c, e, hc, hlt, hne, hs⟩ := hw j u p hu hp
  exact ⟨b, o, c, e, hc, Nat.lt_of_lt_of_le hlt hb.size, hne, hs.below hb hlt⟩
theorem Rowed.snoc (hv : ∃ vs, Own W B e v vs ∧ vs.length = ps.length ∧ (∀ (j : Nat) u q, vs[j]? = some u → ps[j]? = some q → ∃ b o c, u = .slice (some ⟨b, o, none⟩) q.length c ∧ q.length ≤ c ∧ b < W.heap.size ∧ v.ownBlock ≠ some b ∧ Sees W b o (q.map f)) ∧ Own W' B e v' (vs ++ [.slice (some ⟨b, o, none⟩) p.length c]))
    (hg : W.grownBy W' v.ownBlock) (hn : v'.ownBlock = v.ownBlock ∨ v'.ownBlock = some W.heap.size) (hb : b < W.heap.size) (hne : v.ownBlock ≠ some b) (hc : p.length ≤ c) (hs : Sees W b o (p.map f)) : Rowed f e B W' v' (ps ++ [p]) := by
  obtain ⟨vs, ho, hl, hw, ho'⟩ := hv
  have off : ∀ b', b' < W.heap.size → v.ownBlock ≠ some b' → v'.ownBlock ≠ some b' := fun b' h1 h2 => by
    rcases hn with e | e <;> rw [e]
    · exact h2
    · intro h; injection h with h; omega
  refine ⟨_, ho', by simp [hl], fun j u q hu hq => ?_⟩
  rcases Nat.lt_or_ge j vs.length with hj | hj
  · rw [List.getElem?_append_left hj] at hu
    rw [List.getElem?_append_left (by omega)] at hq
    obtain ⟨b1, o1, c1, e1, hc1, hlt1, hne1, hs1⟩ := hw j u q hu hq
    exact ⟨b1, o1, c1, e1, hc1, Nat.lt_of_lt_of_le hlt1 hg.size, off b1 hlt1 hne1, hs1.grown hg hlt1 (fun h => hne1 h.symm)⟩
  · rw [List.getElem?_append_right hj] at hu
    rw [List.getElem?_append_right (by omega)] at hq
    have hj0 : j - vs.length = 0 := by have := (List.getElem?_eq_some_iff.1 hu).1; simp at this; omega
    rw [hj0] at hu
    rw [show j - ps.length = 0 by omega] at hq
    simp at hu hq
    subst hu hq
    exact ⟨b, o, c, rfl, hc, Nat.lt_of_lt_of_le hb hg.size, off b hb hne, hs.grown hg hb (fun h => hne h.symm)⟩
theorem wpList_rowed {w : World} {ops : Array Oper} {rest : List Oper} {op : Oper} {a : Act} {Q : Exit → Act → World → Prop} (hgd : op.guard = none) (s x : Operand) (t : TypeId)
    (ho : op.op = .call { callee := .builtin .append, args := #[s, x], argTypes := #[t, t] }) (ht : Tryz.prog.underlying t = some (.slice e)) (hi : (Tryz.prog.info? e).map (fun i => (i.zero, i.size, i.bytes)) = some (some (.slice none 0 0), 1, 24))
    (v : Value) (hs : a.eval s = v) (hR : Rowed f e B w v ps) (g c1 : Nat) (hx : a.eval x = .slice (some ⟨g, 0, none⟩) 1 c1) (hgl : g < w.heap.size) (hsee : Sees w g 0 [.slice (some ⟨b, o, none⟩) p.length c])
    (hb : b < w.heap.size) (hne : v.ownBlock ≠ some b) (hc : p.length ≤ c) (hp : Sees w b o (p.map f)) (hl : ps.length ≤ 1000) (hB : B ≤ w.heap.size)
    (h : ∀ v' w', Hid (Rowed f e B w' v' (ps ++ [p])) → w.grownBy w' v.ownBlock → (v'.ownBlock = v.ownBlock ∨ v'.ownBlock = some w.heap.size) → wpList Tryz.prog ops Q rest (a.put op.dst v') w') : wpList Tryz.prog ops Q (op :: rest) a w := by
  obtain ⟨vs, hown, hvl, hw⟩ := hR
  refine wpList_appT hgd s x t ho B e ht hi rfl (by decide) v vs hs hown (.slice (some ⟨g, 0, none⟩) 1 c1) [.slice (some ⟨b, o, none⟩) p.length c] hx (.inr ⟨g, 0, c1, rfl, hgl, hsee⟩) (by intro y hy; simp at hy; subst hy; rfl) (by simp; omega) hB ?_
  intro v' w' h2 h3 h5
  exact h v' w' (Rowed.snoc ⟨vs, hown, hvl, hw, h2⟩ h3 h5 hb hne hc hp) h3 h5
theorem Rowed.at_ (h : Rowed f e B W v ps) (hp : 0 < ps.length) :
    ∃ g cap, v = .slice (some ⟨g, 0, none⟩) ps.length cap ∧ B ≤ g ∧ g < W.heap.size ∧ ∀ j p, ps[j]? = some p → ∃ b o c, W.cell? ⟨g, j, none⟩ = some (.slice (some ⟨b, o, none⟩) p.length c) ∧ p.length ≤ c ∧ b < W.heap.size ∧ b ≠ g ∧ Sees W b o (p.map f) := by
  obtain ⟨vs, ho, hl, hw⟩ := h
  obtain ⟨g, cap, e, hB, hg, hs⟩ := ho.form (by omega)
  have hob : v.ownBlock = some g := by rw [e]; rfl
  refine ⟨g, cap, by rw [e, hl], hB, hg, fun j p hq => ?_⟩
  have hj := (List.getElem?_eq_some_iff.1 hq).1
  have hv := List.getElem?_eq_getElem (show j < vs.length by omega)
  obtain ⟨b, o, c, e1, hc, hlt, hne, hs1⟩ := hw j _ _ hv hq
  refine ⟨b, o, c, ?_, hc, hlt, fun h => hne (by rw [hob, h]), hs1⟩
  have := hs j _ hv
  rwa [Nat.zero_add, e1] at this
end
theorem own_shape {W : World} {B : Nat} {e : TypeId} {v : Value} {l : List Value} (h : Own W B e v l) : ∃ A c, v = .slice A l.length c := by
  rcases h.2 with ⟨rfl, h0⟩ | ⟨g, cap, cur, rfl, _⟩
  · exact ⟨none, 0, by rw [h0]⟩
  · exact ⟨_, cap, rfl⟩
end Go.Proofs.YthbmknpbcgnabaaGreatDoor.Mr
namespace Go.Proofs.YthbmknpbcgnabaaGreatDoor.Mr
open Go.RowKit Mk
theorem From.parts {w : World} {v : Value} {ys : List Value} (h : From w v ys) : ∃ A cap, v = .slice A ys.length cap ∧ (0 < ys.length → ∃ b o, A = some ⟨b, o, none⟩ ∧ b < w.heap.size ∧ Sees w b o ys) := by
  rcases h with ⟨A, e, rfl⟩ | ⟨b, o, c, e, hl, hs⟩
  · exact ⟨A, 0, e, fun h => by simp at h⟩
  · exact ⟨_, c, e, fun _ => ⟨b, o, rfl, hl, hs⟩⟩
theorem made8 (n : Nat) (hn : n ≤ 1000000) (W : World) : (Instr.makeSlice 22 (.int .i64 (n : Int)) (.int .i64 (n : Int))).run Tryz.prog W = .ok (.slice (some ⟨W.heap.size, 0, none⟩) n n) (W.alloc (.cells ((List.replicate n 0).map V8).toArray 5)) := by
  have h := run_make_row' (P := Tryz.prog) 22 5 (.int .u8 0) 1 Tryz.underlying22 info8 rfl .i64 .i64 n (by omega) (by omega) W
  rw [show madeCells #[Value.int .u8 0] n = ((List.replicate n 0).map V8).toArray from by
    unfold madeCells
    apply Array.ext
    · simp
    · intro i h1 h2
      simp [V8, Nat.mod_one]] at h
  exact h
theorem Rowed.parts {B : Nat} {W : World} {v : Value} {ps : List (List UInt8)} (h : Rowed V8 22 B W v ps) (hp : 0 < ps.length) : Hm.Parts W v ps := by
  obtain ⟨vs, ho, hl, hw⟩ := h
  obtain ⟨g, cap, e, hB, hg, hs⟩ := ho.form (by omega)
  refine ⟨_, cap, vs, by rw [e, hl], ⟨hl, fun j u p hu hq => ?_⟩, fun _ => ⟨g, 0, rfl, hg, hs⟩⟩
  obtain ⟨b, o, c, e1, hc, hlt, _, hs1⟩ := hw j u p hu hq
  exact .inr ⟨b, o, c, e1, hlt, hc, hs1⟩
end Go.Proofs.YthbmknpbcgnabaaGreatDoor.Mr
namespace Go.Proofs.YthbmknpbcgnabaaGreatDoor.Mr
open Go.RowKit Mk
theorem Rowed.base {α : Type} {f : α → Value} {e : TypeId} {B B' : Nat} {W : World} {v : Value} {ps : List (List α)} (h : Rowed f e B W v ps) (hB : B' ≤ B) : Rowed f e B' W v ps := by
  obtain ⟨vs, ho, r⟩ := h
  exact ⟨vs, ho.base hB, r⟩
end Go.Proofs.YthbmknpbcgnabaaGreatDoor.Mr
namespace Go.Proofs.YthbmknpbcgnabaaGreatDoor.Mr
open Go.RowKit Mk
def RowsAt (W : World) (v : Value) (ps : List (List Tg)) : Prop :=
  (ps = [] ∧ ∃ A c, v = .slice A 0 c) ∨ ∃ g cap, v = .slice (some ⟨g, 0, none⟩) ps.length cap ∧ g < W.heap.size ∧ ∀ j p, ps[j]? = some p → ∃ b o c, W.cell? ⟨g, j, none⟩ = some (.slice (some ⟨b, o, none⟩) p.length c) ∧ p.length ≤ c ∧ b < W.heap.size ∧ Sees W b o (p.map VS)
theorem RowsAt.below {W W' : World} {v : Value} {ps : List (List Tg)} (h : RowsAt W v ps) (hb : Below W.heap.size W W') : RowsAt W' v ps := by
  rcases h with h | ⟨g, cap, e, hg, hr⟩
  · exact .inl h
  · refine .inr ⟨g, cap, e, Nat.lt_of_lt_of_le hg hb.size, fun j p hp => ?_⟩
    obtain ⟨b, o, c, hc, hle, hlt, hs⟩ := hr j p hp
    exact ⟨b, o, c, (World.cell?_of_block (w := W) (hb.block g hg)).trans hc, hle, Nat.lt_of_lt_of_le hlt hb.size, hs.below hb hlt⟩
theorem RowsAt.form {W : World} {v : Value} {ps : List (List Tg)} (h : RowsAt W v ps) : ∃ A cap, v = .slice A ps.length cap := by
  rcases h with ⟨rfl, A, c, e⟩ | ⟨g, cap, e, _⟩
  · exact ⟨A, c, e⟩
  · exact ⟨_, cap, e⟩
theorem Rowed.rows {B : Nat} {W : World} {v : Value} {ps : List (List Tg)} (h : Rowed VS 58 B W v ps) : RowsAt W v ps := by
  rcases Nat.eq_zero_or_pos ps.length with h0 | h0
  · obtain ⟨vs, ho, hl, _⟩ := h
    obtain ⟨A, c, e⟩ := own_shape ho
    exact .inl ⟨List.eq_nil_of_length_eq_zero h0, A, c, by rw [e, hl, h0]⟩
  · obtain ⟨g, cap, e, _, hg, hr⟩ := h.at_ h0
    refine .inr ⟨g, cap, e, hg, fun j p hp => ?_⟩
    obtain ⟨b, o, c, h1, h2, h3, _, h5⟩ := hr j p hp
    exact ⟨b, o, c, h1, h2, h3, h5⟩
end Go.Proofs.YthbmknpbcgnabaaGreatDoor.Mr
namespace Go.Proofs.YthbmknpbcgnabaaGreatDoor.Mr
open Go.RowKit Mk
def Tags (w : World) (v : Value) (l : List Tg) : Prop :=
  (∀ t ∈ l, t.length = 32) ∧ ∃ A cap, v = .slice A l.length cap ∧ (0 < l.length → ∃ b o, A = some ⟨b, o, none⟩ ∧ b < w.heap.size ∧ ∀ j t, l[j]? = some t → Sees w b (o + 32 * j) (t.map V8))
theorem Tags.below {w w' : World} {v : Value} {l : List Tg} (h : Tags w v l) (hb : Below w.heap.size w w') : Tags w' v l := by
  obtain ⟨h32, A, cap, e, hs⟩ := h
  refine ⟨h32, A, cap, e, fun hp => ?_⟩
  obtain ⟨b, o, eA, hl, hs⟩ := hs hp
  exact ⟨b, o, eA, Nat.lt_of_lt_of_le hl hb.size, fun j t ht => (hs j t ht).below hb hl⟩
def HeightC : Prop := ∀ (m : Int) (w : World), m ≤ 100000 → Calls Tryz.prog 140 #[.int .i64 m] w fun e w' => (∃ h : Nat, Hid (IsH m h) ∧ h ≤ 9 ∧ e = .returned (.int .i64 (h : Int))) ∧ Below w.heap.size w w'
def NodeC : Prop := ∀ (key : Tg) (four : List Tg) (v : Value) (ks : List Value) (w : World), key.length ≤ 1000 → four.length = 4 → (∀ t ∈ four, t.length = 32) → ks = four.flatten.map V8 → Hm.Tab w → Arg w v key →
  Calls Tryz.prog 110 #[v, .agg ks.toArray] w fun e w' => (∃ rs : List Value, Hid (Vec 32 (node key four) rs) ∧ e = .returned (.agg rs.toArray)) ∧ Below w.heap.size w w'
theorem arr_eq (t : TypeId) (n : Nat) (ht : Tryz.prog.underlying t = some (.array n 5)) (a b : List UInt8) (rs ss : List Value) (ha : Vec n a rs) (hb : Vec n b ss) (w : World) :
    (Op.equalIn 10000 t (.agg rs.toArray) (.agg ss.toArray)).run Tryz.prog w = .ok (decide (a = b)) w := by
  have hs : (sizeOf 5).run Tryz.prog w = .ok 1 w := by kernel_rfl
  have hag : (isAgg 5).run Tryz.prog w = .ok false w := by kernel_rfl
  rw [show (10000 : Nat) = 9999 + 1 from rfl, Op.equalIn]
  simp only [Sem.run_bind, run_underlying ht, Result.andThen_ok, hs]
  simp only [Std.Legacy.Range.forIn_eq_forIn_range', Std.Legacy.Range.size, Nat.sub_zero, Nat.add_sub_cancel, Nat.div_one]
  have key : ∀ L : List Nat, (∀ i ∈ L, i < n) → (forIn (m := Sem) L ((none, ()) : Option Bool × Unit) fun i _ => do
            let a ← part 5 rs.toArray (i * 1)
            let b ← part 5 ss.toArray (i * 1)
            let c ← Op.equalIn 9999 5 a b
            if (!c) = true then pure (ForInStep.done ((some false, ()) : Option Bool × Unit)) else pure (ForInStep.yield (none, ()))).run Tryz.prog w = .ok (if ∀ i ∈ L, a.getD i 0 = b.getD i 0 then (none, ()) else (some false, ())) w := by
    intro L
    induction L with
    | nil => intro _; simp
    | cons i r ih =>
      intro hL
      have hi : i < n := hL i (by simp)
      have hp : (part 5 rs.toArray (i * 1)).run Tryz.prog w = .ok (.int .u8 (a.getD i 0).toNat) w := by
        have hx := ha.at_ i hi
        simp only [part, Sem.run_bind, hag, Result.andThen_ok]
        simp [hx]
      have hq : (part 5 ss.toArray (i * 1)).run Tryz.prog w = .ok (.int .u8 (b.getD i 0).toNat) w := by
        have hx := hb.at_ i hi
        simp only [part, Sem.run_bind, hag, Result.andThen_ok]
        simp [hx]
      have he : (Op.equalIn 9999 5 (.int .u8 ((a.getD i 0).toNat : Int)) (.int .u8 ((b.getD i 0).toNat : Int))).run Tryz.prog w = .ok (((a.getD i 0).toNat : Int) == ((b.getD i 0).toNat : Int)) w := by
        rw [show (9999 : Nat) = 9998 + 1 from rfl, run_equalIn_int w 9998 5 .u8 .u8 _ _ Tryz.underlying5]
      rw [List.forIn_cons]
      by_cases hxy : a.getD i 0 = b.getD i 0
      · have hbb : (((a.getD i 0).toNat : Int) == ((b.getD i 0).toNat : Int)) = true := by rw [hxy]; simp
        rw [hbb] at he
        simp only [Sem.run_bind, hp, hq, Result.andThen_ok, he, Bool.not_true, Bool.false_eq_true, if_false, Sem.run_pure]
        rw [ih (fun j hj => hL j (by simp [hj]))]
        simp only [List.mem_cons, forall_eq_or_imp, hxy, true_and]
      · have hbb : (((a.getD i 0).toNat : Int) == ((b.getD i 0).toNat : Int)) = false := by
          rw [beq_eq_false_iff_ne]
          intro hh
          exact hxy (UInt8.toNat_inj.1 (by omega))
        rw [hbb] at he
        simp only [Sem.run_bind, hp, hq, Result.andThen_ok, he, Bool.not_false, if_true, Sem.run_pure]
        simp only [List.mem_cons, forall_eq_or_imp, hxy, false_and, if_false]
  rw [key _ (fun i hi => by simpa using (List.mem_range'_1.1 hi).2)]
  by_cases hab : a = b
  · rw [if_pos (fun i _ => by rw [hab])]
    simp [hab]
  · have hne : ¬ ∀ i ∈ List.range' 0 n 1, a.getD i 0 = b.getD i 0 := by
      intro hh
      apply hab
      apply List.ext_getElem (by rw [ha.2, hb.2])
      intro i h1 h2
      have h3 := hh i (by rw [List.mem_range'_1]; have := ha.2; omega)
      simpa [List.getD_eq_getElem?_getD, h1, h2] using h3
    rw [if_neg hne]
    simp [hab]
theorem Vec.same {n : Nat} {a b : List UInt8} {rs ss : List Value} (ha : Vec n a rs) (hb : Vec n b ss) (h : a = b) : rs = ss := by rw [ha.1, hb.1, h]
def Z128 : List Value := List.replicate 128 (.int .u8 0)
theorem zero4 (w : World) : (zeroValue 198).run Tryz.prog w = .ok (.agg Z128.toArray) w := by kernel_rfl
end Go.Proofs.YthbmknpbcgnabaaGreatDoor.Mr
namespace Go.Proofs.YthbmknpbcgnabaaGreatDoor.Mr
open Go.RowKit Mk
theorem flat_length (f : List Tg) (h4 : f.length = 4) (h32 : ∀ t ∈ f, t.length = 32) : f.flatten.length = 128 := by
  match f, h4 with
  | [a, b, c, d], _ =>
    have ha := h32 a (by simp)
    have hb := h32 b (by simp)
    have hc := h32 c (by simp)
    have hd := h32 d (by simp)
    simp only [List.flatten_cons, List.flatten_nil, List.length_append, List.length_nil]
    omega
end Go.Proofs.YthbmknpbcgnabaaGreatDoor.Mr
namespace Go.Proofs.YthbmknpbcgnabaaGreatDoor.Mr
open Go.RowKit Mk
theorem run_mark (g n c : Nat) (bs : List UInt8) (W : World) (h : Row W g 5 (bs.map V8)) : (convert 22 22 (.slice (some ⟨g, 0, none⟩) n c)).run Tryz.prog W = .ok (.slice (some ⟨g, 0, none⟩) n c) (W.freeze ⟨g, bs.length, none⟩ 1) := by
  have hsh : W.shape? g = some (5, bs.length) := by
    have h' : W.heap[g]? = some (.cells (bs.map V8).toArray 5 (0, 0)) := h
    unfold World.shape?
    rw [h']
    simp
  simp [convert, run_underlying Tryz.underlying22, run_underlying Tryz.underlying5, markStringish, hsh]
theorem mark_heap (W : World) (g k j : Nat) (hj : j ≠ g) : (W.freeze ⟨g, k, none⟩ 1).heap[j]? = W.heap[j]? := by
  unfold World.freeze
  rw [if_neg (by decide)]
  show (W.heap.modify g _)[j]? = _
  rw [Array.getElem?_modify, if_neg (fun e => hj e.symm)]
theorem mark_size (W : World) (g k : Nat) : (W.freeze ⟨g, k, none⟩ 1).heap.size = W.heap.size := by
  unfold World.freeze
  rw [if_neg (by decide)]
  show (W.heap.modify g _).size = _
  simp
theorem mark_below (W : World) (B g k : Nat) (hB : B ≤ g) : Below B W (W.freeze ⟨g, k, none⟩ 1) := by
  refine ⟨?_, ?_, ?_, by rw [mark_size]; exact Nat.le_refl _, fun j hj => mark_heap W g k j (by omega)⟩ <;> (unfold World.freeze; rw [if_neg (by decide)])
theorem mark_cell (W : World) (g k : Nat) (p : Addr) : (W.freeze ⟨g, k, none⟩ 1).cell? p = W.cell? p := by
  rcases Nat.lt_trichotomy p.block g with h | h | h
  · exact World.cell?_of_block (mark_heap W g k p.block (by omega))
  · unfold World.freeze
    rw [if_neg (by decide)]
    unfold World.cell?
    show (match (W.heap.modify g _)[p.block]? with | some (.cells c _ _) => if p.spot.isSome then none else c[p.off]? | _ => none) = _
    rw [Array.getElem?_modify, if_pos h.symm]
    cases hq : W.heap[p.block]? with
    | none => rfl
    | some o => cases o <;> rfl
  · exact World.cell?_of_block (mark_heap W g k p.block (by omega))
theorem Arg.mark {W : World} {v : Value} {bs : List UInt8} (h : Arg W v bs) (g k : Nat) : Arg (W.freeze ⟨g, k, none⟩ 1) v bs := by
  rcases h with h | ⟨b, o, c, e, hb, hc, hs⟩
  · exact .inl h
  · exact .inr ⟨b, o, c, e, by rw [mark_size]; exact hb, hc, fun j u hu => (mark_cell W g k _).trans (hs j u hu)⟩
theorem mark_arg (W : World) (g k : Nat) {t : TypeId} {bs : List UInt8} (h : Row W g t (bs.map V8)) (n : Nat) (hn : bs.length = n) : Arg (W.freeze ⟨g, k, none⟩ 1) (.slice (some ⟨g, 0, none⟩) n n) bs := (h.arg n hn).mark g k
theorem vals5 {w : World} {v1 v2 v3 v4 v5 : Value} {p1 p2 p3 p4 p5 : List UInt8} (h1 : Arg w v1 p1) (h2 : Arg w v2 p2) (h3 : Arg w v3 p3) (h4 : Arg w v4 p4) (h5 : Arg w v5 p5) : Hm.Vals w [v1, v2, v3, v4, v5] [p1, p2, p3, p4, p5] := by
  refine ⟨rfl, fun j v p hv hp => ?_⟩
  match j with
  | 0 => simp only [List.getElem?_cons_zero, Option.some.injEq] at hv hp; subst hv hp; exact h1
  | 1 => simp only [List.getElem?_cons_succ, List.getElem?_cons_zero, Option.some.injEq] at hv hp; subst hv hp; exact h2
  | 2 => simp only [List.getElem?_cons_succ, List.getElem?_cons_zero, Option.some.injEq] at hv hp; subst hv hp; exact h3
  | 3 => simp only [List.getElem?_cons_succ, List.getElem?_cons_zero, Option.some.injEq] at hv hp; subst hv hp; exact h4
  | 4 => simp only [List.getElem?_cons_succ, List.getElem?_cons_zero, Option.some.injEq] at hv hp; subst hv hp; exact h5
  | j + 5 => simp at hv
theorem parts5 {w : World} {v1 v2 v3 v4 v5 : Value} {p1 p2 p3 p4 p5 : List UInt8} (h1 : Arg w v1 p1) (h2 : Arg w v2 p2) (h3 : Arg w v3 p3) (h4 : Arg w v4 p4) (h5 : Arg w v5 p5) :
    Hm.Parts (w.alloc (.cells #[v1, v2, v3, v4, v5] 22)) (.slice (some ⟨w.heap.size, 0, none⟩) 5 5) [p1, p2, p3, p4, p5] :=
  ⟨_, 5, [v1, v2, v3, v4, v5], rfl, Hm.Vals.below (vals5 h1 h2 h3 h4 h5) ((Below.refl _ _).alloc (Nat.le_refl _) _), fun _ => ⟨w.heap.size, 0, rfl, by simp, (Row.new w 22 [v1, v2, v3, v4, v5]).sees⟩⟩
theorem kid_at {w : World} {g : Nat} {T : TypeId} {a b c d : Tg} (ha : a.length = 32) (hb : b.length = 32) (hc : c.length = 32) (hd : d.length = 32) (h : Row w g T (([a, b, c, d] : List Tg).flatten.map V8)) :
    Arg w (.slice (some ⟨g, 0, none⟩) 32 32) a ∧ Arg w (.slice (some ⟨g, 32, none⟩) 32 32) b ∧ Arg w (.slice (some ⟨g, 64, none⟩) 32 32) c ∧ Arg w (.slice (some ⟨g, 96, none⟩) 32 32) d := by
  have hs := h.sees
  simp only [List.flatten_cons, List.flatten_nil, List.append_nil] at hs
  have cut : ∀ (i : Nat) (t : Tg), t.length = 32 → ((a ++ (b ++ (c ++ d))).drop i).take 32 = t → Arg w (.slice (some ⟨g, i, none⟩) 32 32) t := fun i t ht he => by
    refine .inr ⟨g, i, 32, by rw [ht], h.lt, by omega, ?_⟩
    have := hs.piece i 32
    rw [Nat.zero_add, ← List.map_drop, ← List.map_take, he] at this
    exact this
  have dd : ∀ (a l : Tg) (i : Nat), a.length = 32 → (a ++ l).drop (32 + i) = l.drop i := fun a l i h => by
    rw [List.drop_append, List.drop_of_length_le (by omega), List.nil_append, h, Nat.add_sub_cancel_left]
  have tt : ∀ (a l : Tg), a.length = 32 → (a ++ l).take 32 = a := fun a l h => by
    rw [List.take_append_of_le_length (by omega), List.take_of_length_le (by omega)]
  refine ⟨cut 0 a ha (tt a _ ha), cut 32 b hb ?_, cut 64 c hc ?_, cut 96 d hd ?_⟩
  · rw [show 32 = 32 + 0 from rfl, dd a _ 0 ha, List.drop_zero]; exact tt b _ hb
  · rw [show 64 = 32 + (32 + 0) from rfl, dd a _ _ ha, dd b _ _ hb, List.drop_zero]; exact tt c _ hc
  · rw [show 96 = 32 + (32 + (32 + 0)) from rfl, dd a _ _ ha, dd b _ _ hb, dd c _ _ hc, List.drop_zero, List.take_of_length_le (by omega)]
end Go.Proofs.YthbmknpbcgnabaaGreatDoor.Mr
