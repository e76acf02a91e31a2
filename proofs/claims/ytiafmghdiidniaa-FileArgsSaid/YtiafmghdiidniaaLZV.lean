/-
  THE WALK of the landed NewMem.
-/
import Derived.Test.YtiafmghdiidniaaLZU
import Derived.Deep.RegionHeld3
namespace Go.Proofs.Ytiafmghdiidniaa
set_option maxRecDepth 100000
set_option maxHeartbeats 1000000
open Go.RowKit Cdc Inn Fil

theorem run_appW {P : Program} {w : World} (t ty : TypeId) (B : Nat) (e : TypeId) {z : Value} {bytes : Nat} (ht : P.underlying t = some (.slice e)) (hi : (P.info? e).map (fun i => (i.zero, i.size, i.bytes)) = some (some z, 1, bytes)) (hz : z.cells.size = 1) (hby : bytes ≤ 24)
    (v : Value) (ys : List Value) (hown : Own w B e v ys) (u : Value) (zs : List Value) (hu : From w u zs) (h1 : ∀ y ∈ zs, y.oneCell' = true) (hl : ys.length + zs.length ≤ 100000000) (hB : B ≤ w.heap.size) :
    ∃ v' w', (Builtin.append_ #[t, t] ty #[v, u]).run P w = .ok v' w' ∧ Own w' B e v' (ys ++ zs) ∧ w.grownBy w' v.ownBlock ∧ (v'.ownBlock = v.ownBlock ∨ v'.ownBlock = some w.heap.size) := by
  obtain ⟨i, hi, hz0, hz1, hz2⟩ := info_parts hi
  have hby' : (ys.length + zs.length) * bytes ≤ 140737488355328 := by
    have : (ys.length + zs.length) * bytes ≤ 100000000 * 24 := Nat.mul_le_mul hl hby
    omega
  rcases hu with ⟨A, rfl, rfl⟩ | ⟨b, off, c, rfl, _, hsee⟩
  · cases A with
    | none => exact ⟨v, w, run_append_owned_none w B t ty e i 1 ht hi v ys.length ys hown, by rw [List.append_nil]; exact hown, World.grownBy.refl w _, .inl rfl⟩
    | some ad =>
      obtain ⟨v', w', hr, h2, h3, _, h5⟩ := run_append_own_at w B t ty e i z 1 bytes ht hi hz0 hz1 hz2 hz (by omega) v ys.length ys hown ad 0 0 [] (by simp) (fun j u hu => by simp at hu) (by simp) (by simp only [maxLen]; omega) (by simpa using hby') hB
      exact ⟨v', w', hr, by rw [Nat.add_zero] at h2; rw [List.append_nil] at h2 ⊢; exact h2, h3, h5⟩
  · obtain ⟨v', w', hr, h2, h3, _, h5⟩ := run_append_own_at w B t ty e i z 1 bytes ht hi hz0 hz1 hz2 hz (by omega) v ys.length ys hown ⟨b, off, none⟩ zs.length c zs (by simp) (fun j u hu => by rw [add_off]; exact hsee j u hu) h1 (by simp only [maxLen]; omega) hby' hB
    exact ⟨v', w', hr, by rw [← List.length_append] at h2; exact h2, h3, h5⟩

/-- The same as one step of a region that draws its order. -/
theorem step_appW {P : Program} {w : World} {ops : Array Oper} {o : Oper} {a : Act} {K : Act → World → Prop} {Q : Exit → Act → World → Prop} {E : Prop} (hgd : o.guard = none) (s x : Operand) (t : TypeId)
    (ho : o.op = .call { callee := .builtin .append, args := #[s, x], argTypes := #[t, t] })
    (B : Nat) (e : TypeId) {z : Value} {bytes : Nat} (ht : P.underlying t = some (.slice e)) (hi : (P.info? e).map (fun i => (i.zero, i.size, i.bytes)) = some (some z, 1, bytes)) (hz : z.cells.size = 1) (hby : bytes ≤ 24)
    (v : Value) (ys : List Value) (hs : a.eval s = v) (hown : Own w B e v ys) (u : Value) (zs : List Value) (hx : a.eval x = u) (hu : From w u zs) (h1 : ∀ y ∈ zs, y.oneCell' = true)
    (hl : ys.length + zs.length ≤ 100000000) (hB : B ≤ w.heap.size)
    (h : ∀ v' w', Own w' B e v' (ys ++ zs) → w.grownBy w' v.ownBlock → (v'.ownBlock = v.ownBlock ∨ v'.ownBlock = some w.heap.size) → K (a.put o.dst v') w') :
    if Region.wanted o (yielded ops a.tmps) = true then Oper.wp P o a w K Q else E := by
  rw [if_pos (by simp [Region.wanted, hgd])]
  obtain ⟨v', w', hr, h2, h3, h4⟩ := run_appW (P := P) t o.type B e ht hi hz hby v ys hown u zs hu h1 hl hB
  unfold Oper.wp execOp
  simp only [ho, resolve, invoke, builtin, Sem.run_bind, Sem.run_pure, Result.andThen_ok, List.map_toArray, List.map_cons, List.map_nil, hs, hx, hr]
  exact h v' w' h2 h3 h4

theorem infoBs : (Try.prog.info? 41).map (fun i => (i.zero, i.size, i.bytes)) = some (some (.slice none 0 0), 1, 24) := by kernel_rfl
/-- A slice over block q. -/
abbrev slOf (q : Nat) : Value := .slice (some ⟨q, 0, none⟩) 64 64
/-- A store that is being made. -/
structure Lay1 (w : World) (m : Nat) (vv : Value) (gl : List Nat) : Prop where
  c0 : w.cell? ⟨m, 0, none⟩ = some vv
  f0 : w.frozen? ⟨m, 0, none⟩ = false
  own : Own w (m + 1) 41 vv (gl.map slOf)
  row : ∀ q ∈ gl, Blk w (slOf q) q zeros64 ∧ m < q ∧ vv.ownBlock ≠ some q
  nd : gl.Nodup
theorem Lay1.lt {w : World} {m : Nat} {vv : Value} {gl : List Nat} (h : Lay1 w m vv gl) : m < w.heap.size := World.block_lt_of_cell? w _ h.c0
theorem Lay1.step {wr w2 w3 : World} {m q : Nat} {vv v' : Value} {gl : List Nat} (h : Lay1 wr m vv gl) (hb : Below wr.heap.size wr w2) (hq : Blk w2 (slOf q) q zeros64) (hqw : wr.heap.size ≤ q) (hg : w2.grownBy w3 vv.ownBlock) (hn : v'.ownBlock = vv.ownBlock ∨ v'.ownBlock = some w2.heap.size) (ho : Own w3 (m + 1) 41 v' (gl.map slOf ++ [slOf q])) :
    Lay1 (w3.setCell ⟨m, 0, none⟩ v') m v' (gl ++ [q]) ∧ Below m wr (w3.setCell ⟨m, 0, none⟩ v') ∧ w3.cell? ⟨m, 0, none⟩ = some vv ∧ w3.frozen? ⟨m, 0, none⟩ = false := by
  have hm := h.lt
  have hvm : vv.ownBlock ≠ some m := fun e => by have := (h.own.lt e).1; omega
  have hblk : ∀ k, k < wr.heap.size → vv.ownBlock ≠ some k → w3.heap[k]? = wr.heap[k]? := fun k hk hne => by
    rw [hg.block k (by have := hb.size; omega) (fun e => hne e.symm)]; exact hb.block k hk
  have hmb := hblk m hm hvm
  have hq2 := hq.lt
  have hvq : vv.ownBlock ≠ some q := fun e => by have := (h.own.lt e).2; omega
  have hv'm : v'.ownBlock ≠ some m := fun e => by have := (ho.lt e).1; omega
  have hset : ∀ k, k ≠ m → (w3.setCell ⟨m, 0, none⟩ v').heap[k]? = w3.heap[k]? := fun k hk => setCell_heap _ _ _ _ _ hk
  refine ⟨⟨World.cell?_setCell_same _ _ _ (by rw [World.cell?_of_block (w := wr) hmb]; exact h.c0), ?_, ?_, fun k hk => ?_, ?_⟩, ?_, ?_, ?_⟩
  · rw [World.frozen?_setCell]; have := h.f0; simp only [World.frozen?, hmb] at this ⊢; exact this
  · rw [List.map_append]; exact ho.block fun k hk => hset k (fun e => hv'm (by rw [hk, e]))
  · rw [List.mem_append, List.mem_singleton] at hk
    rcases hk with hk | rfl
    · obtain ⟨h1, h2, h3⟩ := h.row k hk
      refine ⟨(h1.block (hblk k h1.lt h3)).block (hset k (by omega)), h2, fun e => ?_⟩
      rcases hn with hn | hn
      · exact h3 (hn ▸ e)
      · rw [e] at hn; injection hn with hn; have := h1.lt; have := hb.size; omega
    · refine ⟨(hq.block (hg.block k hq2 (fun e => hvq e.symm))).block (hset k (by omega)), by omega, fun e => ?_⟩
      rcases hn with hn | hn
      · exact hvq (hn ▸ e)
      · rw [e] at hn; injection hn with hn; omega
  · rw [List.nodup_append]
    refine ⟨h.nd, by simp, fun a ha b hb2 e => ?_⟩
    rw [List.mem_singleton] at hb2
    have := (h.row a ha).1.lt
    omega
  · have hB3 : Below m wr w3 := ⟨hg.os.trans hb.os, hg.tape.trans hb.tape, hg.output.trans hb.output, Nat.le_trans hb.size hg.size, fun k hk => hblk k (by omega) fun e => by have := (h.own.lt e).1; omega⟩
    exact hB3.setCell (Nat.le_refl _) _
  · rw [World.cell?_of_block (w := wr) hmb]; exact h.c0
  · have := h.f0; simp only [World.frozen?, hmb] at this ⊢; exact this
/-- A store's blocks with so many of the first bits set. -/
def lowB (j : Nat) : List UInt8 := UInt8.ofNat (2 ^ j - 1) :: List.replicate 63 0
def lowL (j N : Nat) : List (List UInt8) := lowB j :: List.replicate (N - 1) (List.replicate 64 0)
theorem lowB_set : ∀ j : Fin 5, Bm.setB (lowB j.val) j.val true = lowB (j.val + 1) := by decide +kernel
theorem lowL_length (j N : Nat) (h : 0 < N) : (lowL j N).length = N := by simp [lowL]; omega
theorem lowL_zero (N : Nat) (h : 0 < N) : lowL 0 N = List.replicate N zeros64 := by
  obtain ⟨k, rfl⟩ : ∃ k, N = k + 1 := ⟨N - 1, by omega⟩
  rw [List.replicate_succ]
  rfl
theorem lowL_set (j N : Nat) : (lowL j N).set 0 (lowB (j + 1)) = lowL (j + 1) N := rfl
/-- The store lies, its row not frozen. -/
def MemA (w : World) (m : Nat) (bl : List (List UInt8)) (R cap : Nat) : Prop := ∃ F vs gs, MemL w F m bl R cap vs gs ∧ (∀ k, F k → m ≤ k) ∧ w.frozen? ⟨R, 0, none⟩ = false ∧ m < R
theorem MemA.below {w w' : World} {m R cap : Nat} {bl : List (List UInt8)} (h : MemA w m bl R cap) (hb : Below w.heap.size w w') : MemA w' m bl R cap := by
  obtain ⟨F, vs, gs, hM, hF, hf, hR⟩ := h
  refine ⟨F, vs, gs, hM.below hb, hF, ?_, hR⟩
  have := hb.block R (hM.lt R ((hM.set R).2 (.inr (.inl rfl))))
  simp only [World.frozen?, this] at hf ⊢
  exact hf
theorem MemA.swap {w w' : World} {m R cap q : Nat} {bl : List (List UInt8)} {r : Value} {b : List UInt8} (h : MemA w m bl R cap) (hb : Below w.heap.size w w') (hv : Blk w' r q b) (hq : w.heap.size ≤ q) :
    MemA (w'.setCell ⟨R, 0, none⟩ r) m (bl.set 0 b) R cap ∧ Below m w (w'.setCell ⟨R, 0, none⟩ r) := by
  obtain ⟨F, vs, gs, hM, hF, hf, hR⟩ := h
  have hM' := hM.below hb
  have hRl := hM.lt R ((hM.set R).2 (.inr (.inl rfl)))
  have hml := hM.lt m ((hM.set m).2 (.inl rfl))
  have hset : ∀ k, k ≠ R → (w'.setCell ⟨R, 0, none⟩ r).heap[k]? = w'.heap[k]? := fun k hk => setCell_heap _ _ _ _ _ hk
  have hgl : ∀ i, i < bl.length → gs i < w.heap.size := fun i hi => (hM.blk i hi).lt
  have hl : (bl.set 0 b).length = bl.length := List.length_set
  refine ⟨⟨fun k => k = m ∨ k = R ∨ ∃ i, i < bl.length ∧ k = (if i = 0 then q else gs i), fun i => if i = 0 then r else vs i, fun i => if i = 0 then q else gs i, ⟨by rw [hl]; exact hM.pos, by rw [hl]; exact hM.few, ?_, fun i hi => ?_, fun i hi => ?_, fun i j hi hj e => ?_, fun i hi => ?_, fun k => by rw [hl]⟩, fun k hk => ?_, ?_, hR⟩, ?_⟩
  · rw [hl, World.cell?_of_block (w := w') (hset m (by omega))]; exact hM'.c0
  · rw [hl] at hi
    by_cases e : i = 0
    · subst e; rw [if_pos rfl]; exact World.cell?_setCell_same _ _ _ (hM'.row 0 hi)
    · rw [if_neg e, setCell_cell _ _ _ _ _ (fun e' => e e'.symm)]; exact hM'.row i hi
  · rw [hl] at hi
    rw [blk_set bl 0 hM.pos]
    by_cases e : i = 0
    · subst e; rw [if_pos rfl, if_pos rfl, if_pos rfl]; exact hv.block (hset q (by omega))
    · rw [if_neg e, if_neg e, if_neg (fun e' => e e'.symm)]; exact (hM'.blk i hi).block (hset _ (hM.ne i hi).1)
  · rw [hl] at hi hj
    by_cases ei : i = 0 <;> by_cases ej : j = 0
    · omega
    · rw [if_pos ei, if_neg ej] at e; have := hgl j hj; omega
    · rw [if_neg ei, if_pos ej] at e; have := hgl i hi; omega
    · rw [if_neg ei, if_neg ej] at e; exact hM.inj i j hi hj e
  · rw [hl] at hi
    by_cases ei : i = 0
    · rw [if_pos ei]; exact ⟨by omega, by omega⟩
    · rw [if_neg ei]; exact hM.ne i hi
  · rcases hk with rfl | rfl | ⟨i, hi, rfl⟩
    · exact Nat.le_refl _
    · omega
    · split
      · omega
      · exact hF _ ((hM.set _).2 (.inr (.inr ⟨i, hi, rfl⟩)))
  · rw [World.frozen?_setCell]
    have := hb.block R hRl
    simp only [World.frozen?, this] at hf ⊢
    exact hf
  · exact (hb.mono (by omega)).setCell (by show m ≤ R; omega) _
theorem Lay1.mem {w : World} {m : Nat} {vv : Value} {gl : List Nat} {N : Nat} (h : Lay1 w m vv gl) (hN : gl.length = N) (h0 : 0 < N) (h1 : N ≤ 128) : ∃ R cap, vv = .slice (some ⟨R, 0, none⟩) N cap ∧ MemA w m (lowL 0 N) R cap := by
  obtain ⟨R, cap, hv, hRb, hRl, hsee⟩ := h.own.form (by rw [List.length_map]; omega)
  rw [List.length_map, hN] at hv
  refine ⟨R, cap, hv, ?_⟩
  have hll := lowL_length 0 N h0
  have hrow : ∀ i, i < N → w.cell? ⟨R, i, none⟩ = some (slOf (gl.getD i 0)) ∧ gl.getD i 0 ∈ gl := fun i hi => by
    have := hsee i (slOf (gl.getD i 0)) (by rw [List.getElem?_map, List.getD_eq_getElem?_getD, List.getElem?_eq_getElem (by omega)]; rfl)
    rw [Nat.zero_add] at this
    exact ⟨this, by rw [List.getD_eq_getElem?_getD, List.getElem?_eq_getElem (by omega)]; exact List.getElem_mem _⟩
  refine ⟨fun k => k = m ∨ k = R ∨ ∃ i, i < N ∧ k = gl.getD i 0, fun i => slOf (gl.getD i 0), fun i => gl.getD i 0, ⟨by rw [hll]; exact h0, by rw [hll]; exact h1, ?_, fun i hi => ?_, fun i hi => ?_, fun i j hi hj e => ?_, fun i hi => ?_, fun k => by rw [hll]⟩, fun k hk => ?_, ?_, by omega⟩
  · rw [hll, h.c0, hv]
  · rw [hll] at hi; exact (hrow i hi).1
  · rw [hll] at hi
    have := (h.row _ (hrow i hi).2).1
    rw [lowL_zero N h0]
    have e : Fil.blk (List.replicate N zeros64) i = zeros64 := by
      unfold Fil.blk
      rw [List.getD_eq_getElem?_getD, List.getElem?_replicate, if_pos hi]; rfl
    rw [e]; exact this
  · rw [hll] at hi hj
    rw [List.getD_eq_getElem?_getD, List.getD_eq_getElem?_getD, List.getElem?_eq_getElem (by omega), List.getElem?_eq_getElem (by omega)] at e
    have e' : gl[i]'(by omega) = gl[j]'(by omega) := e
    rcases Nat.lt_trichotomy i j with hlt | heq | hgt
    · exact absurd e' (List.pairwise_iff_getElem.1 h.nd i j (by omega) (by omega) hlt)
    · exact heq
    · exact absurd e'.symm (List.pairwise_iff_getElem.1 h.nd j i (by omega) (by omega) hgt)
  · rw [hll] at hi
    obtain ⟨r1, r2, r3⟩ := h.row _ (hrow i hi).2
    refine ⟨fun e => r3 ?_, by omega⟩
    rw [hv, e]; rfl
  · rcases hk with rfl | rfl | ⟨i, hi, rfl⟩
    · exact Nat.le_refl _
    · omega
    · have := (h.row _ (hrow i hi).2).2.1; omega
  · rcases h.own.2 with ⟨e, h0'⟩ | ⟨g', cap', cur, e, _, hg, _⟩
    · rw [List.length_map] at h0'; omega
    · rw [hv] at e
      injection e with e _ _
      injection e with e
      injection e with e _ _
      subst e
      exact frozen_of_row w R 0 _ _ hg
theorem FiNewMem_bad (g : Geo) (w : World) (hg : geoIn g) (hgm : gmay g = false) : Calls Try.prog 7 #[.agg #[.int .i64 g.n, .int .i64 g.k]] w fun e w' => e = .returned (.tuple #[.pointer none, .int .i64 1]) ∧ Below w.heap.size w w' := by
  have HM := Lib.hid (fun W => FiMay_any g W hg)
  rw [hgm] at HM
  have HB : Hid (Below w.heap.size w (w.alloc (.cells #[.int .i64 g.n, .int .i64 g.k] 23))) := (Below.refl _ _).alloc (Nat.le_refl _) _
  obtain ⟨gn, gk⟩ := g
  clear hg hgm
  go_enter Try.func7, Try.ntmps7
  go_wp2_with fail
  refine (HM.out _).mono ?_
  rintro e w2 ⟨rfl, hB2⟩
  have HB2 := Lib.hid (HB.out.trans (hB2.mono HB.out.size))
  clear hB2 HB HM
  go_wp2_with fail
  go_ret2
  exact ⟨rfl, HB2.out⟩
theorem FiNewMem_ok (g : Geo) (w : World) (hgm : gmay g = true) : Calls Try.prog 7 #[.agg #[.int .i64 g.n, .int .i64 g.k]] w fun e w' =>
    ∃ m F, e = .returned (.tuple #[.pointer (some ⟨m, 0, none⟩), .int .i64 0]) ∧ StL w' F m (freshB g) ∧ (∀ k, F k → w.heap.size ≤ k) ∧ Below w.heap.size w w' := by
  obtain ⟨g1, g2, g3, g4, g5⟩ := gmay_iff.1 hgm
  have hg : geoIn g := ⟨⟨by omega, by omega⟩, by omega, by omega⟩
  have HM := Lib.hid (fun W => FiMay_any g W hg)
  rw [hgm] at HM
  have HF : Hid (∀ W, Calls Try.prog 10 #[.agg #[.int .i64 g.n, .int .i64 g.k]] W fun e w' => e = .returned (.int .i64 (gfirst g)) ∧ Below W.heap.size W w') := fun W => FiFirst_any g.n g.k hg.2 (by omega) W
  have HB : Hid (Below w.heap.size w (w.alloc (.cells #[.int .i64 g.n, .int .i64 g.k] 23))) := (Below.refl _ _).alloc (Nat.le_refl _) _
  have HG : Hid (Row (w.alloc (.cells #[.int .i64 g.n, .int .i64 g.k] 23)) w.heap.size 23 [.int .i64 g.n, .int .i64 g.k]) := Row.new w _ _
  have HGm := Lib.hid hgm
  have Hm64 := Lib.hid made64
  obtain ⟨gn, gk⟩ := g
  clear hg hgm
  go_enter Try.func7, Try.ntmps7
  go_wp2_with fail
  refine (HM.out _).mono ?_
  rintro e w2 ⟨rfl, hB2⟩
  have HB2 := Lib.hid (HB.out.trans (hB2.mono HB.out.size))
  have HG2 := Lib.hid (HG.out.below hB2 HG.out.lt)
  have c20 := HG2.out.cell 0
  have c21 := HG2.out.cell 1
  simp only [List.getElem?_cons_zero, List.getElem?_cons_succ] at c20 c21
  obtain ⟨N, hN⟩ : ∃ N : Nat, gn = (N : Int) := ⟨gn.toNat, by have : 8 ≤ gn := g1; omega⟩
  have g1 : 8 ≤ gn := g1
  have g2 : gn ≤ 128 := g2
  have g3 : 2 ≤ gk := g3
  have g4 : gk ≤ 32 := g4
  subst hN
  obtain ⟨w3, hw3⟩ : ∃ w3, w3 = w2.alloc (.cells #[.slice none 0 0] 66) := ⟨_, rfl⟩
  have hR3 : Row w3 w2.heap.size 66 [.slice none 0 0] := by rw [hw3]; exact Row.new w2 _ _
  have HB3 : Hid (Below w.heap.size w w3) := by rw [hw3]; exact HB2.out.alloc HB2.out.size _
  have HG3 : Hid (Row w3 w.heap.size 23 [.int .i64 (N : Int), .int .i64 gk]) := by rw [hw3]; exact HG2.out.alloc _
  have c30 : (w2.alloc (.cells #[.slice none 0 0] 66)).cell? ⟨w.heap.size, 0, none⟩ = some (.int .i64 (N : Int)) := by rw [← hw3]; exact HG3.out.cell 0
  obtain ⟨m, Hm⟩ : ∃ m, Hid (m = w2.heap.size) := ⟨_, rfl⟩
  have hm : w.heap.size ≤ m := by rw [Hm.out]; exact HB2.out.size
  have hwm : w.heap.size < m := by rw [Hm.out]; exact HG2.out.lt
  rw [← Hm.out] at hR3
  have HL3 : Hid (Lay1 w3 m (.slice none 0 0) []) := ⟨hR3.cell 0, hR3.free 0, Own.nil _ _ _, fun q hq => by simp at hq, List.nodup_nil⟩
  have Hw3 := Lib.hid hw3
  clear hB2 HB HM HG hw3 hR3 HG2 HB2
  go_wp2_with fail
  rw [← Hw3.out, ← Hm.out]
  clear Hw3 c30 c20 c21
  have hN128 : N ≤ 128 := by omega
  go_loopw [13] (fun i wr => ∃ (j : Nat) (vv : Value) (gl : List Nat), j ≤ N ∧ i = .int .i64 j ∧ gl.length = j ∧ Hid (Lay1 wr m vv gl) ∧ Hid (Below w.heap.size w wr) ∧ Hid (wr.cell? ⟨w.heap.size, 0, none⟩ = some (.int .i64 (N : Int))) ∧ Hid (wr.cell? ⟨w.heap.size, 1, none⟩ = some (.int .i64 gk))) (fun i _ => N - (intOf i).toNat)
  case atStart => exact ⟨0, _, [], by omega, rfl, rfl, HL3, HB3, HG3.out.cell 0, HG3.out.cell 1⟩
  case round =>
    rename World => wr
    clear HL3 HB3 HG3
    obtain ⟨j, vv, gl, hj, rfl, hgl, HL, HB, HC1, HC2⟩ := hrel
    by_cases hlt : j < N
    · have hmw := HL.out.lt
      have HOw : Hid (∀ W, Below wr.heap.size wr W → Own W (m + 1) 41 vv (gl.map slOf)) := fun W hW => HL.out.own.below hW (Nat.le_refl _)
      have HC0 : Hid (∀ W, (fun _ : World => True) W → True) := fun _ _ => trivial
      have hc0 : Hid (∀ W, Below wr.heap.size wr W → W.cell? ⟨m, 0, none⟩ = some vv) := fun W hW => by rw [hW.cell (by exact hmw)]; exact HL.out.c0
      have HStep := Lib.hid (fun (w2 w3 : World) (q : Nat) (v' : Value) hb hq hqw hg hn ho => HL.out.step (w2 := w2) (w3 := w3) (q := q) (v' := v') hb hq hqw hg hn ho)
      have hgl128 : gl.length ≤ 128 := by omega
      have hltI : (j : Int) < (N : Int) := by omega
      have cm := HL.out.c0
      have HKeep : Hid (∀ W, Below wr.heap.size wr W → (fun _ : World => True) W) := fun _ _ => trivial
      go_wp2_with fail
      have hC : Below wr.heap.size wr wr.drew := below_drewN (Below.refl _ _) 1
      refine wp_region_held_drew (S := (fun _ : World => True)) (by kernel_rfl) (HKeep.out _ hC) (fun hHeld => ?_)
      generalize wr.drew = wrd at *
      refine wpAnyH_take (i := 0) (oi := ⟨some 15, _, _, _, _, _⟩) (v := ?_) rfl (by kernel_rfl) (by kernel_rfl) (by kernel_rfl) (fun _ _ _ h => h) (Or.inl ⟨by rfl, ?_⟩) hHeld ?_
      rotate_left
      · intro w hSw
        go_simp
        with_reducible rfl
      try go_frame
      refine wpAnyH_take (i := 1) (oi := ⟨some 16, _, _, _, _, _⟩) (v := ?_) rfl (by kernel_rfl) (by kernel_rfl) (by kernel_rfl) (fun _ _ _ h => h) (Or.inl ⟨by rfl, ?_⟩) hHeld ?_
      rotate_left
      · intro w hSw
        go_simp
        with_reducible rfl
      try go_frame
      refine wpAnyH_take (i := 2) (oi := ⟨some 17, _, _, _, _, _⟩) (v := ?_) rfl (by kernel_rfl) (by kernel_rfl) (by kernel_rfl) (fun _ _ _ h => h) (Or.inl ⟨by rfl, ?_⟩) hHeld ?_
      rotate_left
      · intro w hSw
        go_simp
        with_reducible rfl
      try go_frame
      refine wpAnyH_take (i := 3) (oi := ⟨some 18, _, _, _, _, _⟩) (v := ?_) rfl (by kernel_rfl) (by kernel_rfl) (by kernel_rfl) (fun _ _ _ h => h) (Or.inl ⟨by rfl, ?_⟩) hHeld ?_
      rotate_left
      · intro w hSw
        go_simp
        with_reducible rfl
      try go_frame
      refine wpAnyH_ready (rs := [4, 5]) (by kernel_rfl) (by simp) ?_
      refine AllReadyH.cons (o := ⟨some 19, _, _, _, _, _⟩) rfl (fun K hK => ?_) ?_
      · skip
        have cS := hc0.out _ hC
        go_simp
        refine hK.out _ _ trivial (fun hHeld => ?_)
        clear hK K cS
        try go_frame
        refine wpAnyH_ready (rs := [5]) (by kernel_rfl) (by simp) ?_
        refine AllReadyH.cons (o := ⟨some 20, _, _, _, _, _⟩) rfl (fun K hK => ?_) AllReadyH.nil
        have hmk := Hm64.out wrd
        go_simp
        have hb : Below wrd.heap.size wrd (wrd.alloc (.cells (zeros64.map V8).toArray 5)) := Joins.below_alloc1 _ _
        have hg_mk := hC.size
        obtain ⟨g_mk, Hg_mk⟩ : ∃ g, Hid (g = wrd.heap.size) := ⟨_, rfl⟩
        have HBk : Hid (Blk (wrd.alloc (.cells (zeros64.map V8).toArray 5)) (.slice (some ⟨wrd.heap.size, 0, none⟩) 64 64) wrd.heap.size zeros64) := Blk.made _
        replace hC := hC.trans (hb.mono hC.size)
        refine hK.out _ _ (HKeep.out _ hC) (fun hHeld => ?_)
        clear hK K hb
        generalize (wrd.alloc (.cells (zeros64.map V8).toArray 5)) = wrd_mk at *
        rw [← Hg_mk.out] at hg_mk ⊢
        (try rw [← Hg_mk.out] at HBk)
        clear Hg_mk
        try go_frame
        refine wpAnyH_ready (rs := [6]) (by kernel_rfl) (by simp) ?_
        refine AllReadyH.cons (o := ⟨some 21, _, _, _, _, _⟩) rfl (fun K hK => ?_) AllReadyH.nil
        go_simp
        have hb : Below wrd_mk.heap.size wrd_mk (wrd_mk.alloc (.cells #[.slice (some ⟨g_mk, 0, none⟩) 64 64] 41)) := Joins.below_alloc1 _ _
        have hg_bs := hC.size
        obtain ⟨g_bs, Hg_bs⟩ : ∃ g, Hid (g = wrd_mk.heap.size) := ⟨_, rfl⟩
        have HFb : Hid (From (wrd_mk.alloc (.cells #[.slice (some ⟨g_mk, 0, none⟩) 64 64] 41)) (.slice (some ⟨wrd_mk.heap.size, 0, none⟩) 1 1) [slOf g_mk]) := (Own.lit wrd_mk wrd_mk.heap.size 41 [slOf g_mk] (Nat.le_refl _) (by simp)).from_
        have HBk2 : Hid (Blk (wrd_mk.alloc (.cells #[.slice (some ⟨g_mk, 0, none⟩) 64 64] 41)) (slOf g_mk) g_mk zeros64) := HBk.out.below ((Below.refl _ _).alloc (Nat.le_refl _) _)
        replace hC := hC.trans (hb.mono hC.size)
        refine hK.out _ _ (HKeep.out _ hC) (fun hHeld => ?_)
        clear hK K hb
        generalize (wrd_mk.alloc (.cells #[.slice (some ⟨g_mk, 0, none⟩) 64 64] 41)) = wrd_mk_bs at *
        rw [← Hg_bs.out] at hg_bs ⊢
        (try rw [← Hg_bs.out] at HFb)
        (try rw [← Hg_bs.out] at HBk2)
        clear Hg_bs
        try go_frame
        refine wpAnyH_ready (rs := [7]) (by kernel_rfl) (by simp) ?_
        refine AllReadyH.cons (o := ⟨some 22, _, _, _, _, _⟩) rfl (fun K hK => ?_) AllReadyH.nil
        have hs0 := hC.size
        have hC2x := hC
        refine step_appW rfl (.tmp 19) (.tmp 21) 64 rfl (m + 1) 41 Try.underlying64 infoBs rfl (by decide) vv (gl.map slOf) rfl (HOw.out wrd_mk_bs hC) _ [slOf g_mk] rfl HFb.out (fun y hy => by rw [List.mem_singleton] at hy; rw [hy]; rfl) (by rw [List.length_map, List.length_singleton]; omega) (by omega) ?_
        intro v_ap wrd_mk_bs_ap hown hg hor
        obtain ⟨q_ap, k_ap, e_ap, -, -, -⟩ := hown.form_cap (by simp)
        obtain ⟨l_ap, Hl_ap⟩ : ∃ n, Hid (n = (gl.map slOf ++ [slOf g_mk]).length) := ⟨_, rfl⟩
        rw [← Hl_ap.out] at e_ap
        subst e_ap
        have HSt := Lib.hid (HStep.out _ _ _ _ hC2x HBk2.out hg_mk hg hor hown)
        clear hown hg hor hC2x
        refine hK.out _ _ trivial (fun hHeld => ?_)
        clear hK K
        try go_frame
        refine wpAnyH_take (i := 8) (oi := ⟨some 23, _, _, _, _, _⟩) (v := ?_) rfl (by kernel_rfl) (by kernel_rfl) (by kernel_rfl) (fun _ _ _ h => h) (Or.inl ⟨by rfl, ?_⟩) hHeld ?_
        rotate_left
        · intro w hSw
          go_simp
          with_reducible rfl
        try go_frame
        refine wpAnyH_take (i := 9) (oi := ⟨some 24, _, _, _, _, _⟩) (v := ?_) rfl (by kernel_rfl) (by kernel_rfl) (by kernel_rfl) (fun _ _ _ h => h) (Or.inl ⟨by rfl, ?_⟩) hHeld ?_
        rotate_left
        · intro w hSw
          go_simp
          with_reducible rfl
        try go_frame
        refine wpAnyH_ready (rs := [10]) (by kernel_rfl) (by simp) ?_
        refine AllReadyH.cons (o := ⟨none, _, _, _, _, _⟩) rfl (fun K hK => ?_) AllReadyH.nil
        obtain ⟨-, -, cS, fS⟩ := HSt.out
        go_simp
        have HE : Hid (Lay1 (wrd_mk_bs_ap.setCell ⟨m, 0, none⟩ (.slice (some ⟨q_ap, 0, none⟩) l_ap k_ap)) m (.slice (some ⟨q_ap, 0, none⟩) l_ap k_ap) (gl ++ [g_mk]) ∧ Below (m) wr (wrd_mk_bs_ap.setCell ⟨m, 0, none⟩ (.slice (some ⟨q_ap, 0, none⟩) l_ap k_ap))) := ⟨HSt.out.1, HSt.out.2.1⟩
        refine hK.out _ _ (trivial) (fun hHeld => ?_)
        clear hK K cS fS  hC
        generalize (wrd_mk_bs_ap.setCell ⟨m, 0, none⟩ (.slice (some ⟨q_ap, 0, none⟩) l_ap k_ap)) = wrd_mk_bs_ap_st at *
        try go_frame
        refine wpAnyH_done (by kernel_rfl) ?_ _
        clear hHeld
        have HEl := Lib.hid HE.out.1
        have HEb := Lib.hid (HB.out.trans (HE.out.2.mono hm))
        have HEc1 : Hid (wrd_mk_bs_ap_st.cell? ⟨w.heap.size, 0, none⟩ = some (.int .i64 (N : Int))) := by show _ = _; rw [HE.out.2.cell (by exact hwm)]; exact HC1.out
        have HEc2 : Hid (wrd_mk_bs_ap_st.cell? ⟨w.heap.size, 1, none⟩ = some (.int .i64 gk)) := by show _ = _; rw [HE.out.2.cell (by exact hwm)]; exact HC2.out
        clear HE HSt HBk HBk2 HFb HStep hc0 HOw HL HB HC1 HC2 HKeep HC0 cm
        go_wp2_with fail
        go_roundw
        case rel => exact ⟨j + 1, _, gl ++ [g_mk], by omega, by go_num, by rw [List.length_append, hgl]; rfl, HEl, HEb, HEc1, HEc2⟩
        case measure => simp [intOf]; omega
      refine AllReadyH.cons (o := ⟨some 20, _, _, _, _, _⟩) rfl (fun K hK => ?_) ?_
      · skip
        have hmk := Hm64.out wrd
        go_simp
        have hb : Below wrd.heap.size wrd (wrd.alloc (.cells (zeros64.map V8).toArray 5)) := Joins.below_alloc1 _ _
        have hg_mk := hC.size
        obtain ⟨g_mk, Hg_mk⟩ : ∃ g, Hid (g = wrd.heap.size) := ⟨_, rfl⟩
        have HBk : Hid (Blk (wrd.alloc (.cells (zeros64.map V8).toArray 5)) (.slice (some ⟨wrd.heap.size, 0, none⟩) 64 64) wrd.heap.size zeros64) := Blk.made _
        replace hC := hC.trans (hb.mono hC.size)
        refine hK.out _ _ (HKeep.out _ hC) (fun hHeld => ?_)
        clear hK K hb
        generalize (wrd.alloc (.cells (zeros64.map V8).toArray 5)) = wrd_mk at *
        rw [← Hg_mk.out] at hg_mk ⊢
        (try rw [← Hg_mk.out] at HBk)
        clear Hg_mk
        try go_frame
        refine wpAnyH_ready (rs := [4, 6]) (by kernel_rfl) (by simp) ?_
        refine AllReadyH.cons (o := ⟨some 19, _, _, _, _, _⟩) rfl (fun K hK => ?_) ?_
        · skip
          have cS := hc0.out _ hC
          go_simp
          refine hK.out _ _ trivial (fun hHeld => ?_)
          clear hK K cS
          try go_frame
          refine wpAnyH_ready (rs := [6]) (by kernel_rfl) (by simp) ?_
          refine AllReadyH.cons (o := ⟨some 21, _, _, _, _, _⟩) rfl (fun K hK => ?_) AllReadyH.nil
          go_simp
          have hb : Below wrd_mk.heap.size wrd_mk (wrd_mk.alloc (.cells #[.slice (some ⟨g_mk, 0, none⟩) 64 64] 41)) := Joins.below_alloc1 _ _
          have hg_bs := hC.size
          obtain ⟨g_bs, Hg_bs⟩ : ∃ g, Hid (g = wrd_mk.heap.size) := ⟨_, rfl⟩
          have HFb : Hid (From (wrd_mk.alloc (.cells #[.slice (some ⟨g_mk, 0, none⟩) 64 64] 41)) (.slice (some ⟨wrd_mk.heap.size, 0, none⟩) 1 1) [slOf g_mk]) := (Own.lit wrd_mk wrd_mk.heap.size 41 [slOf g_mk] (Nat.le_refl _) (by simp)).from_
          have HBk2 : Hid (Blk (wrd_mk.alloc (.cells #[.slice (some ⟨g_mk, 0, none⟩) 64 64] 41)) (slOf g_mk) g_mk zeros64) := HBk.out.below ((Below.refl _ _).alloc (Nat.le_refl _) _)
          replace hC := hC.trans (hb.mono hC.size)
          refine hK.out _ _ (HKeep.out _ hC) (fun hHeld => ?_)
          clear hK K hb
          generalize (wrd_mk.alloc (.cells #[.slice (some ⟨g_mk, 0, none⟩) 64 64] 41)) = wrd_mk_bs at *
          rw [← Hg_bs.out] at hg_bs ⊢
          (try rw [← Hg_bs.out] at HFb)
          (try rw [← Hg_bs.out] at HBk2)
          clear Hg_bs
          try go_frame
          refine wpAnyH_ready (rs := [7]) (by kernel_rfl) (by simp) ?_
          refine AllReadyH.cons (o := ⟨some 22, _, _, _, _, _⟩) rfl (fun K hK => ?_) AllReadyH.nil
          have hs0 := hC.size
          have hC2x := hC
          refine step_appW rfl (.tmp 19) (.tmp 21) 64 rfl (m + 1) 41 Try.underlying64 infoBs rfl (by decide) vv (gl.map slOf) rfl (HOw.out wrd_mk_bs hC) _ [slOf g_mk] rfl HFb.out (fun y hy => by rw [List.mem_singleton] at hy; rw [hy]; rfl) (by rw [List.length_map, List.length_singleton]; omega) (by omega) ?_
          intro v_ap wrd_mk_bs_ap hown hg hor
          obtain ⟨q_ap, k_ap, e_ap, -, -, -⟩ := hown.form_cap (by simp)
          obtain ⟨l_ap, Hl_ap⟩ : ∃ n, Hid (n = (gl.map slOf ++ [slOf g_mk]).length) := ⟨_, rfl⟩
          rw [← Hl_ap.out] at e_ap
          subst e_ap
          have HSt := Lib.hid (HStep.out _ _ _ _ hC2x HBk2.out hg_mk hg hor hown)
          clear hown hg hor hC2x
          refine hK.out _ _ trivial (fun hHeld => ?_)
          clear hK K
          try go_frame
          refine wpAnyH_take (i := 8) (oi := ⟨some 23, _, _, _, _, _⟩) (v := ?_) rfl (by kernel_rfl) (by kernel_rfl) (by kernel_rfl) (fun _ _ _ h => h) (Or.inl ⟨by rfl, ?_⟩) hHeld ?_
          rotate_left
          · intro w hSw
            go_simp
            with_reducible rfl
          try go_frame
          refine wpAnyH_take (i := 9) (oi := ⟨some 24, _, _, _, _, _⟩) (v := ?_) rfl (by kernel_rfl) (by kernel_rfl) (by kernel_rfl) (fun _ _ _ h => h) (Or.inl ⟨by rfl, ?_⟩) hHeld ?_
          rotate_left
          · intro w hSw
            go_simp
            with_reducible rfl
          try go_frame
          refine wpAnyH_ready (rs := [10]) (by kernel_rfl) (by simp) ?_
          refine AllReadyH.cons (o := ⟨none, _, _, _, _, _⟩) rfl (fun K hK => ?_) AllReadyH.nil
          obtain ⟨-, -, cS, fS⟩ := HSt.out
          go_simp
          have HE : Hid (Lay1 (wrd_mk_bs_ap.setCell ⟨m, 0, none⟩ (.slice (some ⟨q_ap, 0, none⟩) l_ap k_ap)) m (.slice (some ⟨q_ap, 0, none⟩) l_ap k_ap) (gl ++ [g_mk]) ∧ Below (m) wr (wrd_mk_bs_ap.setCell ⟨m, 0, none⟩ (.slice (some ⟨q_ap, 0, none⟩) l_ap k_ap))) := ⟨HSt.out.1, HSt.out.2.1⟩
          refine hK.out _ _ (trivial) (fun hHeld => ?_)
          clear hK K cS fS  hC
          generalize (wrd_mk_bs_ap.setCell ⟨m, 0, none⟩ (.slice (some ⟨q_ap, 0, none⟩) l_ap k_ap)) = wrd_mk_bs_ap_st at *
          try go_frame
          refine wpAnyH_done (by kernel_rfl) ?_ _
          clear hHeld
          have HEl := Lib.hid HE.out.1
          have HEb := Lib.hid (HB.out.trans (HE.out.2.mono hm))
          have HEc1 : Hid (wrd_mk_bs_ap_st.cell? ⟨w.heap.size, 0, none⟩ = some (.int .i64 (N : Int))) := by show _ = _; rw [HE.out.2.cell (by exact hwm)]; exact HC1.out
          have HEc2 : Hid (wrd_mk_bs_ap_st.cell? ⟨w.heap.size, 1, none⟩ = some (.int .i64 gk)) := by show _ = _; rw [HE.out.2.cell (by exact hwm)]; exact HC2.out
          clear HE HSt HBk HBk2 HFb HStep hc0 HOw HL HB HC1 HC2 HKeep HC0 cm
          go_wp2_with fail
          go_roundw
          case rel => exact ⟨j + 1, _, gl ++ [g_mk], by omega, by go_num, by rw [List.length_append, hgl]; rfl, HEl, HEb, HEc1, HEc2⟩
          case measure => simp [intOf]; omega
        refine AllReadyH.cons (o := ⟨some 21, _, _, _, _, _⟩) rfl (fun K hK => ?_) ?_
        · skip
          go_simp
          have hb : Below wrd_mk.heap.size wrd_mk (wrd_mk.alloc (.cells #[.slice (some ⟨g_mk, 0, none⟩) 64 64] 41)) := Joins.below_alloc1 _ _
          have hg_bs := hC.size
          obtain ⟨g_bs, Hg_bs⟩ : ∃ g, Hid (g = wrd_mk.heap.size) := ⟨_, rfl⟩
          have HFb : Hid (From (wrd_mk.alloc (.cells #[.slice (some ⟨g_mk, 0, none⟩) 64 64] 41)) (.slice (some ⟨wrd_mk.heap.size, 0, none⟩) 1 1) [slOf g_mk]) := (Own.lit wrd_mk wrd_mk.heap.size 41 [slOf g_mk] (Nat.le_refl _) (by simp)).from_
          have HBk2 : Hid (Blk (wrd_mk.alloc (.cells #[.slice (some ⟨g_mk, 0, none⟩) 64 64] 41)) (slOf g_mk) g_mk zeros64) := HBk.out.below ((Below.refl _ _).alloc (Nat.le_refl _) _)
          replace hC := hC.trans (hb.mono hC.size)
          refine hK.out _ _ (HKeep.out _ hC) (fun hHeld => ?_)
          clear hK K hb
          generalize (wrd_mk.alloc (.cells #[.slice (some ⟨g_mk, 0, none⟩) 64 64] 41)) = wrd_mk_bs at *
          rw [← Hg_bs.out] at hg_bs ⊢
          (try rw [← Hg_bs.out] at HFb)
          (try rw [← Hg_bs.out] at HBk2)
          clear Hg_bs
          try go_frame
          refine wpAnyH_ready (rs := [4]) (by kernel_rfl) (by simp) ?_
          refine AllReadyH.cons (o := ⟨some 19, _, _, _, _, _⟩) rfl (fun K hK => ?_) AllReadyH.nil
          have cS := hc0.out _ hC
          go_simp
          refine hK.out _ _ trivial (fun hHeld => ?_)
          clear hK K cS
          try go_frame
          refine wpAnyH_ready (rs := [7]) (by kernel_rfl) (by simp) ?_
          refine AllReadyH.cons (o := ⟨some 22, _, _, _, _, _⟩) rfl (fun K hK => ?_) AllReadyH.nil
          have hs0 := hC.size
          have hC2x := hC
          refine step_appW rfl (.tmp 19) (.tmp 21) 64 rfl (m + 1) 41 Try.underlying64 infoBs rfl (by decide) vv (gl.map slOf) rfl (HOw.out wrd_mk_bs hC) _ [slOf g_mk] rfl HFb.out (fun y hy => by rw [List.mem_singleton] at hy; rw [hy]; rfl) (by rw [List.length_map, List.length_singleton]; omega) (by omega) ?_
          intro v_ap wrd_mk_bs_ap hown hg hor
          obtain ⟨q_ap, k_ap, e_ap, -, -, -⟩ := hown.form_cap (by simp)
          obtain ⟨l_ap, Hl_ap⟩ : ∃ n, Hid (n = (gl.map slOf ++ [slOf g_mk]).length) := ⟨_, rfl⟩
          rw [← Hl_ap.out] at e_ap
          subst e_ap
          have HSt := Lib.hid (HStep.out _ _ _ _ hC2x HBk2.out hg_mk hg hor hown)
          clear hown hg hor hC2x
          refine hK.out _ _ trivial (fun hHeld => ?_)
          clear hK K
          try go_frame
          refine wpAnyH_take (i := 8) (oi := ⟨some 23, _, _, _, _, _⟩) (v := ?_) rfl (by kernel_rfl) (by kernel_rfl) (by kernel_rfl) (fun _ _ _ h => h) (Or.inl ⟨by rfl, ?_⟩) hHeld ?_
          rotate_left
          · intro w hSw
            go_simp
            with_reducible rfl
          try go_frame
          refine wpAnyH_take (i := 9) (oi := ⟨some 24, _, _, _, _, _⟩) (v := ?_) rfl (by kernel_rfl) (by kernel_rfl) (by kernel_rfl) (fun _ _ _ h => h) (Or.inl ⟨by rfl, ?_⟩) hHeld ?_
          rotate_left
          · intro w hSw
            go_simp
            with_reducible rfl
          try go_frame
          refine wpAnyH_ready (rs := [10]) (by kernel_rfl) (by simp) ?_
          refine AllReadyH.cons (o := ⟨none, _, _, _, _, _⟩) rfl (fun K hK => ?_) AllReadyH.nil
          obtain ⟨-, -, cS, fS⟩ := HSt.out
          go_simp
          have HE : Hid (Lay1 (wrd_mk_bs_ap.setCell ⟨m, 0, none⟩ (.slice (some ⟨q_ap, 0, none⟩) l_ap k_ap)) m (.slice (some ⟨q_ap, 0, none⟩) l_ap k_ap) (gl ++ [g_mk]) ∧ Below (m) wr (wrd_mk_bs_ap.setCell ⟨m, 0, none⟩ (.slice (some ⟨q_ap, 0, none⟩) l_ap k_ap))) := ⟨HSt.out.1, HSt.out.2.1⟩
          refine hK.out _ _ (trivial) (fun hHeld => ?_)
          clear hK K cS fS  hC
          generalize (wrd_mk_bs_ap.setCell ⟨m, 0, none⟩ (.slice (some ⟨q_ap, 0, none⟩) l_ap k_ap)) = wrd_mk_bs_ap_st at *
          try go_frame
          refine wpAnyH_done (by kernel_rfl) ?_ _
          clear hHeld
          have HEl := Lib.hid HE.out.1
          have HEb := Lib.hid (HB.out.trans (HE.out.2.mono hm))
          have HEc1 : Hid (wrd_mk_bs_ap_st.cell? ⟨w.heap.size, 0, none⟩ = some (.int .i64 (N : Int))) := by show _ = _; rw [HE.out.2.cell (by exact hwm)]; exact HC1.out
          have HEc2 : Hid (wrd_mk_bs_ap_st.cell? ⟨w.heap.size, 1, none⟩ = some (.int .i64 gk)) := by show _ = _; rw [HE.out.2.cell (by exact hwm)]; exact HC2.out
          clear HE HSt HBk HBk2 HFb HStep hc0 HOw HL HB HC1 HC2 HKeep HC0 cm
          go_wp2_with fail
          go_roundw
          case rel => exact ⟨j + 1, _, gl ++ [g_mk], by omega, by go_num, by rw [List.length_append, hgl]; rfl, HEl, HEb, HEc1, HEc2⟩
          case measure => simp [intOf]; omega
        exact AllReadyH.nil
      exact AllReadyH.nil
    · obtain rfl : j = N := by omega
      obtain ⟨R, cap, rfl, hMA⟩ := HL.out.mem hgl (by omega) hN128
      have HMA := Lib.hid hMA
      have cm := HL.out.c0
      have c1 := HC1.out
      have c2 := HC2.out
      clear hMA HL hgl HC1 HC2
      go_wp2_with fail
      refine (HF.out _).mono ?_
      rintro e w5 ⟨rfl, hB5⟩
      have HB5 := Lib.hid (HB.out.trans (hB5.mono HB.out.size))
      have HM5 := Lib.hid (HMA.out.below hB5)
      obtain ⟨fi, Hfi⟩ : ∃ fi, Hid (fi = gfirst ⟨(j : Int), gk⟩) := ⟨_, rfl⟩
      rw [← Hfi.out]
      have hfi5 : fi ≤ 5 := by rw [Hfi.out]; exact gfirst_le g4
      clear hB5 HB HMA cm c1 c2 HF
      go_wp2_with fail
      go_loopw [28] (fun i wr => ∃ k : Nat, k ≤ fi ∧ i = .int .i64 k ∧ Hid (MemA wr m (lowL k j) R cap) ∧ Hid (Below w.heap.size w wr)) (fun i _ => fi - (intOf i).toNat)
      case atStart => exact ⟨0, by omega, rfl, HM5, HB5⟩
      case round =>
        rename World => wr
        clear HM5 HB5
        obtain ⟨k, hk, rfl, HM, HB⟩ := hrel
        by_cases hlt2 : k < fi
        · skip
          obtain ⟨Fm, vsm, gsm, hML, -, hfz, hmR⟩ := HM.out
          have hj5 : k < 5 := by omega
          have hcm := hML.lt m ((hML.set m).2 (.inl rfl))
          have hcR' := hML.lt R ((hML.set R).2 (.inr (.inl rfl)))
          have hlen := lowL_length k j (by omega)
          have hblk0 : Fil.blk (lowL k j) 0 = lowB k := rfl
          obtain ⟨cv, hv0, -⟩ := (hML.blk 0 hML.pos).val
          have hb0 := hML.blk 0 hML.pos
          rw [hblk0] at hb0
          have hr0 := hML.row 0 hML.pos
          rw [hv0] at hr0 hb0
          have hc0 : Hid (∀ W, Below wr.heap.size wr W → W.cell? ⟨m, 0, none⟩ = some (.slice (some ⟨R, 0, none⟩) j cap)) := fun W hW => by rw [hW.cell (by exact hcm), hML.c0, hlen]
          have hcR : Hid (∀ W, Below wr.heap.size wr W → W.cell? ⟨R, 0, none⟩ = some (.slice (some ⟨gsm 0, 0, none⟩) 64 cv)) := fun W hW => by rw [hW.cell (by exact hcR')]; exact hr0
          have hfR : Hid (∀ W, Below wr.heap.size wr W → W.frozen? ⟨R, 0, none⟩ = false) := fun W hW => by
            have := hW.block R hcR'
            simp only [World.frozen?, this] at hfz ⊢
            exact hfz
          have HSet : Hid (∀ W, Below wr.heap.size wr W → Calls Try.prog 25 #[.slice (some ⟨gsm 0, 0, none⟩) 64 cv, .int .i64 (k : Int), .bool true] W fun e w' => ∃ r q', e = .returned (.tuple #[r, .int .i64 0]) ∧ Blk w' r q' (lowB (k + 1)) ∧ W.heap.size ≤ q' ∧ Below W.heap.size W w') := fun W hW => by
            have := BmSet_blk (lowB k) k (by omega) true _ _ W (hb0.below hW)
            rwa [lowB_set ⟨k, hj5⟩] at this
          have HSwap : Hid (∀ (w' : World) (r : Value) (q : Nat), Below wr.heap.size wr w' → Blk w' r q (lowB (k + 1)) → wr.heap.size ≤ q → MemA (w'.setCell ⟨R, 0, none⟩ r) m (lowL (k + 1) j) R cap ∧ Below m wr (w'.setCell ⟨R, 0, none⟩ r)) := fun w' r q h1 h2 h3 => HM.out.swap h1 h2 h3
          have cm : wr.cell? ⟨m, 0, none⟩ = some (.slice (some ⟨R, 0, none⟩) j cap) := hc0.out wr (Below.refl _ _)
          have HKeep : Hid (∀ W, Below wr.heap.size wr W → (fun _ : World => True) W) := fun _ _ => trivial
          have hltI : (k : Int) < (fi : Int) := by omega
          have hNp : (0 : Int) < (j : Int) := by omega
          have hNpn : 0 < j := by omega
          clear hML hfz hlen hblk0 hv0 hb0 hr0 hcm hcR'
          generalize gsm 0 = gq0 at *
          go_wp2_with fail
          have hC : Below wr.heap.size wr wr.drew := below_drewN (Below.refl _ _) 1
          refine wp_region_held_drew (S := (fun _ : World => True)) (by kernel_rfl) (HKeep.out _ hC) (fun hHeld => ?_)
          generalize wr.drew = wrd at *
          refine wpAnyH_take (i := 0) (oi := ⟨some 32, _, _, _, _, _⟩) (v := ?_) rfl (by kernel_rfl) (by kernel_rfl) (by kernel_rfl) (fun _ _ _ h => h) (Or.inl ⟨by rfl, ?_⟩) hHeld ?_
          rotate_left
          · intro w hSw
            go_simp
            with_reducible rfl
          try go_frame
          refine wpAnyH_take (i := 1) (oi := ⟨some 33, _, _, _, _, _⟩) (v := ?_) rfl (by kernel_rfl) (by kernel_rfl) (by kernel_rfl) (fun _ _ _ h => h) (Or.inl ⟨by rfl, ?_⟩) hHeld ?_
          rotate_left
          · intro w hSw
            go_simp
            with_reducible rfl
          try go_frame
          refine wpAnyH_take (i := 2) (oi := ⟨some 34, _, _, _, _, _⟩) (v := ?_) rfl (by kernel_rfl) (by kernel_rfl) (by kernel_rfl) (fun _ _ _ h => h) (Or.inl ⟨by rfl, ?_⟩) hHeld ?_
          rotate_left
          · intro w hSw
            go_simp
            with_reducible rfl
          try go_frame
          refine wpAnyH_take (i := 4) (oi := ⟨some 36, _, _, _, _, _⟩) (v := ?_) rfl (by kernel_rfl) (by kernel_rfl) (by kernel_rfl) (fun _ _ _ h => h) (Or.inl ⟨by rfl, ?_⟩) hHeld ?_
          rotate_left
          · intro w hSw
            go_simp
            with_reducible rfl
          try go_frame
          refine wpAnyH_take (i := 5) (oi := ⟨some 37, _, _, _, _, _⟩) (v := ?_) rfl (by kernel_rfl) (by kernel_rfl) (by kernel_rfl) (fun _ _ _ h => h) (Or.inl ⟨by rfl, ?_⟩) hHeld ?_
          rotate_left
          · intro w hSw
            go_simp
            with_reducible rfl
          try go_frame
          refine wpAnyH_take (i := 6) (oi := ⟨some 38, _, _, _, _, _⟩) (v := ?_) rfl (by kernel_rfl) (by kernel_rfl) (by kernel_rfl) (fun _ _ _ h => h) (Or.inl ⟨by rfl, ?_⟩) hHeld ?_
          rotate_left
          · intro w hSw
            go_simp
            with_reducible rfl
          try go_frame
          refine wpAnyH_take (i := 10) (oi := ⟨some 42, _, _, _, _, _⟩) (v := ?_) rfl (by kernel_rfl) (by kernel_rfl) (by kernel_rfl) (fun _ _ _ h => h) (Or.inl ⟨by rfl, ?_⟩) hHeld ?_
          rotate_left
          · intro w hSw
            go_simp
            with_reducible rfl
          try go_frame
          refine wpAnyH_ready (rs := [3, 7]) (by kernel_rfl) (by simp) ?_
          refine AllReadyH.cons (o := ⟨some 35, _, _, _, _, _⟩) rfl (fun K hK => ?_) ?_
          · skip
            have cS := hc0.out _ hC
            go_simp
            refine hK.out _ _ trivial (fun hHeld => ?_)
            clear hK K cS
            try go_frame
            refine wpAnyH_ready (rs := [7]) (by kernel_rfl) (by simp) ?_
            refine AllReadyH.cons (o := ⟨some 39, _, _, _, _, _⟩) rfl (fun K hK => ?_) AllReadyH.nil
            have cS := hc0.out _ hC
            go_simp
            refine hK.out _ _ trivial (fun hHeld => ?_)
            clear hK K cS
            try go_frame
            refine wpAnyH_take (i := 8) (oi := ⟨some 40, _, _, _, _, _⟩) (v := ?_) rfl (by kernel_rfl) (by kernel_rfl) (by kernel_rfl) (fun _ _ _ h => h) (Or.inl ⟨by rfl, ?_⟩) hHeld ?_
            rotate_left
            · intro w hSw
              go_simp
              with_reducible rfl
            try go_frame
            refine wpAnyH_ready (rs := [9]) (by kernel_rfl) (by simp) ?_
            refine AllReadyH.cons (o := ⟨some 41, _, _, _, _, _⟩) rfl (fun K hK => ?_) AllReadyH.nil
            have cS := hcR.out _ hC
            go_simp
            refine hK.out _ _ trivial (fun hHeld => ?_)
            clear hK K cS
            try go_frame
            refine wpAnyH_ready (rs := [11]) (by kernel_rfl) (by simp) ?_
            refine AllReadyH.cons (o := ⟨some 43, _, _, _, _, _⟩) rfl (fun K hK => ?_) AllReadyH.nil
            go_simp
            go_at_call 25
            have hs0 := hC.size
            refine (HSet.out wrd hC).mono ?_
            rintro e wrd_se ⟨r2, q2, rfl, hv2, hq2, hb⟩
            replace hC := hC.trans (hb.mono hC.size)
            refine hK.out _ _ (HKeep.out _ hC) (fun hHeld => ?_)
            clear hK K hb 
            try go_frame
            refine wpAnyH_take (i := 12) (oi := ⟨some 31, _, _, _, _, _⟩) (v := ?_) rfl (by kernel_rfl) (by kernel_rfl) (by kernel_rfl) (fun _ _ _ h => h) (Or.inl ⟨by rfl, ?_⟩) hHeld ?_
            rotate_left
            · intro w hSw
              go_simp
              with_reducible rfl
            try go_frame
            refine wpAnyH_take (i := 13) (oi := ⟨some 44, _, _, _, _, _⟩) (v := ?_) rfl (by kernel_rfl) (by kernel_rfl) (by kernel_rfl) (fun _ _ _ h => h) (Or.inl ⟨by rfl, ?_⟩) hHeld ?_
            rotate_left
            · intro w hSw
              go_simp
              with_reducible rfl
            try go_frame
            refine wpAnyH_take (i := 14) (oi := ⟨some 45, _, _, _, _, _⟩) (v := ?_) rfl (by kernel_rfl) (by kernel_rfl) (by kernel_rfl) (fun _ _ _ h => h) (Or.inl ⟨by rfl, ?_⟩) hHeld ?_
            rotate_left
            · intro w hSw
              go_simp
              with_reducible rfl
            try go_frame
            refine wpAnyH_take (i := 15) (oi := ⟨some 46, _, _, _, _, _⟩) (v := ?_) rfl (by kernel_rfl) (by kernel_rfl) (by kernel_rfl) (fun _ _ _ h => h) (Or.inl ⟨by rfl, ?_⟩) hHeld ?_
            rotate_left
            · intro w hSw
              go_simp
              with_reducible rfl
            try go_frame
            refine wpAnyH_ready (rs := [16]) (by kernel_rfl) (by simp) ?_
            refine AllReadyH.cons (o := ⟨none, _, _, _, _, _⟩) rfl (fun K hK => ?_) AllReadyH.nil
            obtain ⟨cr, hr2, -⟩ := hv2.val
            have cS := hcR.out wrd_se hC
            have fS := hfR.out wrd_se hC
            subst hr2
            go_simp
            have HE : Hid (MemA (wrd_se.setCell ⟨R, 0, none⟩ (.slice (some ⟨q2, 0, none⟩) 64 cr)) m (lowL (k + 1) j) R cap ∧ Below m wr (wrd_se.setCell ⟨R, 0, none⟩ (.slice (some ⟨q2, 0, none⟩) 64 cr))) := HSwap.out wrd_se _ q2 hC hv2 (Nat.le_trans hs0 hq2)
            refine hK.out _ _ (trivial) (fun hHeld => ?_)
            clear hK K cS fS  hC
            generalize (wrd_se.setCell ⟨R, 0, none⟩ (.slice (some ⟨q2, 0, none⟩) 64 cr)) = wrd_se_st at *
            try go_frame
            refine wpAnyH_done (by kernel_rfl) ?_ _
            clear hHeld
            have HEl := Lib.hid HE.out.1
            have HEb := Lib.hid (HB.out.trans (HE.out.2.mono hm))
            clear HE HSet HSwap hc0 hcR hfR HM HB HKeep cm hv2 hq2
            go_wp2_with fail
            go_roundw
            case rel => exact ⟨k + 1, by omega, by go_num, HEl, HEb⟩
            case measure => simp [intOf]; omega
          refine AllReadyH.cons (o := ⟨some 39, _, _, _, _, _⟩) rfl (fun K hK => ?_) ?_
          · skip
            have cS := hc0.out _ hC
            go_simp
            refine hK.out _ _ trivial (fun hHeld => ?_)
            clear hK K cS
            try go_frame
            refine wpAnyH_take (i := 8) (oi := ⟨some 40, _, _, _, _, _⟩) (v := ?_) rfl (by kernel_rfl) (by kernel_rfl) (by kernel_rfl) (fun _ _ _ h => h) (Or.inl ⟨by rfl, ?_⟩) hHeld ?_
            rotate_left
            · intro w hSw
              go_simp
              with_reducible rfl
            try go_frame
            refine wpAnyH_ready (rs := [3, 9]) (by kernel_rfl) (by simp) ?_
            refine AllReadyH.cons (o := ⟨some 35, _, _, _, _, _⟩) rfl (fun K hK => ?_) ?_
            · skip
              have cS := hc0.out _ hC
              go_simp
              refine hK.out _ _ trivial (fun hHeld => ?_)
              clear hK K cS
              try go_frame
              refine wpAnyH_ready (rs := [9]) (by kernel_rfl) (by simp) ?_
              refine AllReadyH.cons (o := ⟨some 41, _, _, _, _, _⟩) rfl (fun K hK => ?_) AllReadyH.nil
              have cS := hcR.out _ hC
              go_simp
              refine hK.out _ _ trivial (fun hHeld => ?_)
              clear hK K cS
              try go_frame
              refine wpAnyH_ready (rs := [11]) (by kernel_rfl) (by simp) ?_
              refine AllReadyH.cons (o := ⟨some 43, _, _, _, _, _⟩) rfl (fun K hK => ?_) AllReadyH.nil
              go_simp
              go_at_call 25
              have hs0 := hC.size
              refine (HSet.out wrd hC).mono ?_
              rintro e wrd_se ⟨r2, q2, rfl, hv2, hq2, hb⟩
              replace hC := hC.trans (hb.mono hC.size)
              refine hK.out _ _ (HKeep.out _ hC) (fun hHeld => ?_)
              clear hK K hb 
              try go_frame
              refine wpAnyH_take (i := 12) (oi := ⟨some 31, _, _, _, _, _⟩) (v := ?_) rfl (by kernel_rfl) (by kernel_rfl) (by kernel_rfl) (fun _ _ _ h => h) (Or.inl ⟨by rfl, ?_⟩) hHeld ?_
              rotate_left
              · intro w hSw
                go_simp
                with_reducible rfl
              try go_frame
              refine wpAnyH_take (i := 13) (oi := ⟨some 44, _, _, _, _, _⟩) (v := ?_) rfl (by kernel_rfl) (by kernel_rfl) (by kernel_rfl) (fun _ _ _ h => h) (Or.inl ⟨by rfl, ?_⟩) hHeld ?_
              rotate_left
              · intro w hSw
                go_simp
                with_reducible rfl
              try go_frame
              refine wpAnyH_take (i := 14) (oi := ⟨some 45, _, _, _, _, _⟩) (v := ?_) rfl (by kernel_rfl) (by kernel_rfl) (by kernel_rfl) (fun _ _ _ h => h) (Or.inl ⟨by rfl, ?_⟩) hHeld ?_
              rotate_left
              · intro w hSw
                go_simp
                with_reducible rfl
              try go_frame
              refine wpAnyH_take (i := 15) (oi := ⟨some 46, _, _, _, _, _⟩) (v := ?_) rfl (by kernel_rfl) (by kernel_rfl) (by kernel_rfl) (fun _ _ _ h => h) (Or.inl ⟨by rfl, ?_⟩) hHeld ?_
              rotate_left
              · intro w hSw
                go_simp
                with_reducible rfl
              try go_frame
              refine wpAnyH_ready (rs := [16]) (by kernel_rfl) (by simp) ?_
              refine AllReadyH.cons (o := ⟨none, _, _, _, _, _⟩) rfl (fun K hK => ?_) AllReadyH.nil
              obtain ⟨cr, hr2, -⟩ := hv2.val
              have cS := hcR.out wrd_se hC
              have fS := hfR.out wrd_se hC
              subst hr2
              go_simp
              have HE : Hid (MemA (wrd_se.setCell ⟨R, 0, none⟩ (.slice (some ⟨q2, 0, none⟩) 64 cr)) m (lowL (k + 1) j) R cap ∧ Below m wr (wrd_se.setCell ⟨R, 0, none⟩ (.slice (some ⟨q2, 0, none⟩) 64 cr))) := HSwap.out wrd_se _ q2 hC hv2 (Nat.le_trans hs0 hq2)
              refine hK.out _ _ (trivial) (fun hHeld => ?_)
              clear hK K cS fS  hC
              generalize (wrd_se.setCell ⟨R, 0, none⟩ (.slice (some ⟨q2, 0, none⟩) 64 cr)) = wrd_se_st at *
              try go_frame
              refine wpAnyH_done (by kernel_rfl) ?_ _
              clear hHeld
              have HEl := Lib.hid HE.out.1
              have HEb := Lib.hid (HB.out.trans (HE.out.2.mono hm))
              clear HE HSet HSwap hc0 hcR hfR HM HB HKeep cm hv2 hq2
              go_wp2_with fail
              go_roundw
              case rel => exact ⟨k + 1, by omega, by go_num, HEl, HEb⟩
              case measure => simp [intOf]; omega
            refine AllReadyH.cons (o := ⟨some 41, _, _, _, _, _⟩) rfl (fun K hK => ?_) ?_
            · skip
              have cS := hcR.out _ hC
              go_simp
              refine hK.out _ _ trivial (fun hHeld => ?_)
              clear hK K cS
              try go_frame
              refine wpAnyH_ready (rs := [3, 11]) (by kernel_rfl) (by simp) ?_
              refine AllReadyH.cons (o := ⟨some 35, _, _, _, _, _⟩) rfl (fun K hK => ?_) ?_
              · skip
                have cS := hc0.out _ hC
                go_simp
                refine hK.out _ _ trivial (fun hHeld => ?_)
                clear hK K cS
                try go_frame
                refine wpAnyH_ready (rs := [11]) (by kernel_rfl) (by simp) ?_
                refine AllReadyH.cons (o := ⟨some 43, _, _, _, _, _⟩) rfl (fun K hK => ?_) AllReadyH.nil
                go_simp
                go_at_call 25
                have hs0 := hC.size
                refine (HSet.out wrd hC).mono ?_
                rintro e wrd_se ⟨r2, q2, rfl, hv2, hq2, hb⟩
                replace hC := hC.trans (hb.mono hC.size)
                refine hK.out _ _ (HKeep.out _ hC) (fun hHeld => ?_)
                clear hK K hb 
                try go_frame
                refine wpAnyH_take (i := 12) (oi := ⟨some 31, _, _, _, _, _⟩) (v := ?_) rfl (by kernel_rfl) (by kernel_rfl) (by kernel_rfl) (fun _ _ _ h => h) (Or.inl ⟨by rfl, ?_⟩) hHeld ?_
                rotate_left
                · intro w hSw
                  go_simp
                  with_reducible rfl
                try go_frame
                refine wpAnyH_take (i := 13) (oi := ⟨some 44, _, _, _, _, _⟩) (v := ?_) rfl (by kernel_rfl) (by kernel_rfl) (by kernel_rfl) (fun _ _ _ h => h) (Or.inl ⟨by rfl, ?_⟩) hHeld ?_
                rotate_left
                · intro w hSw
                  go_simp
                  with_reducible rfl
                try go_frame
                refine wpAnyH_take (i := 14) (oi := ⟨some 45, _, _, _, _, _⟩) (v := ?_) rfl (by kernel_rfl) (by kernel_rfl) (by kernel_rfl) (fun _ _ _ h => h) (Or.inl ⟨by rfl, ?_⟩) hHeld ?_
                rotate_left
                · intro w hSw
                  go_simp
                  with_reducible rfl
                try go_frame
                refine wpAnyH_take (i := 15) (oi := ⟨some 46, _, _, _, _, _⟩) (v := ?_) rfl (by kernel_rfl) (by kernel_rfl) (by kernel_rfl) (fun _ _ _ h => h) (Or.inl ⟨by rfl, ?_⟩) hHeld ?_
                rotate_left
                · intro w hSw
                  go_simp
                  with_reducible rfl
                try go_frame
                refine wpAnyH_ready (rs := [16]) (by kernel_rfl) (by simp) ?_
                refine AllReadyH.cons (o := ⟨none, _, _, _, _, _⟩) rfl (fun K hK => ?_) AllReadyH.nil
                obtain ⟨cr, hr2, -⟩ := hv2.val
                have cS := hcR.out wrd_se hC
                have fS := hfR.out wrd_se hC
                subst hr2
                go_simp
                have HE : Hid (MemA (wrd_se.setCell ⟨R, 0, none⟩ (.slice (some ⟨q2, 0, none⟩) 64 cr)) m (lowL (k + 1) j) R cap ∧ Below m wr (wrd_se.setCell ⟨R, 0, none⟩ (.slice (some ⟨q2, 0, none⟩) 64 cr))) := HSwap.out wrd_se _ q2 hC hv2 (Nat.le_trans hs0 hq2)
                refine hK.out _ _ (trivial) (fun hHeld => ?_)
                clear hK K cS fS  hC
                generalize (wrd_se.setCell ⟨R, 0, none⟩ (.slice (some ⟨q2, 0, none⟩) 64 cr)) = wrd_se_st at *
                try go_frame
                refine wpAnyH_done (by kernel_rfl) ?_ _
                clear hHeld
                have HEl := Lib.hid HE.out.1
                have HEb := Lib.hid (HB.out.trans (HE.out.2.mono hm))
                clear HE HSet HSwap hc0 hcR hfR HM HB HKeep cm hv2 hq2
                go_wp2_with fail
                go_roundw
                case rel => exact ⟨k + 1, by omega, by go_num, HEl, HEb⟩
                case measure => simp [intOf]; omega
              refine AllReadyH.cons (o := ⟨some 43, _, _, _, _, _⟩) rfl (fun K hK => ?_) ?_
              · skip
                go_simp
                go_at_call 25
                have hs0 := hC.size
                refine (HSet.out wrd hC).mono ?_
                rintro e wrd_se ⟨r2, q2, rfl, hv2, hq2, hb⟩
                replace hC := hC.trans (hb.mono hC.size)
                refine hK.out _ _ (HKeep.out _ hC) (fun hHeld => ?_)
                clear hK K hb 
                try go_frame
                refine wpAnyH_take (i := 12) (oi := ⟨some 31, _, _, _, _, _⟩) (v := ?_) rfl (by kernel_rfl) (by kernel_rfl) (by kernel_rfl) (fun _ _ _ h => h) (Or.inl ⟨by rfl, ?_⟩) hHeld ?_
                rotate_left
                · intro w hSw
                  go_simp
                  with_reducible rfl
                try go_frame
                refine wpAnyH_take (i := 13) (oi := ⟨some 44, _, _, _, _, _⟩) (v := ?_) rfl (by kernel_rfl) (by kernel_rfl) (by kernel_rfl) (fun _ _ _ h => h) (Or.inl ⟨by rfl, ?_⟩) hHeld ?_
                rotate_left
                · intro w hSw
                  go_simp
                  with_reducible rfl
                try go_frame
                refine wpAnyH_take (i := 14) (oi := ⟨some 45, _, _, _, _, _⟩) (v := ?_) rfl (by kernel_rfl) (by kernel_rfl) (by kernel_rfl) (fun _ _ _ h => h) (Or.inl ⟨by rfl, ?_⟩) hHeld ?_
                rotate_left
                · intro w hSw
                  go_simp
                  with_reducible rfl
                try go_frame
                refine wpAnyH_ready (rs := [3]) (by kernel_rfl) (by simp) ?_
                refine AllReadyH.cons (o := ⟨some 35, _, _, _, _, _⟩) rfl (fun K hK => ?_) AllReadyH.nil
                have cS := hc0.out _ hC
                go_simp
                refine hK.out _ _ trivial (fun hHeld => ?_)
                clear hK K cS
                try go_frame
                refine wpAnyH_take (i := 15) (oi := ⟨some 46, _, _, _, _, _⟩) (v := ?_) rfl (by kernel_rfl) (by kernel_rfl) (by kernel_rfl) (fun _ _ _ h => h) (Or.inl ⟨by rfl, ?_⟩) hHeld ?_
                rotate_left
                · intro w hSw
                  go_simp
                  with_reducible rfl
                try go_frame
                refine wpAnyH_ready (rs := [16]) (by kernel_rfl) (by simp) ?_
                refine AllReadyH.cons (o := ⟨none, _, _, _, _, _⟩) rfl (fun K hK => ?_) AllReadyH.nil
                obtain ⟨cr, hr2, -⟩ := hv2.val
                have cS := hcR.out wrd_se hC
                have fS := hfR.out wrd_se hC
                subst hr2
                go_simp
                have HE : Hid (MemA (wrd_se.setCell ⟨R, 0, none⟩ (.slice (some ⟨q2, 0, none⟩) 64 cr)) m (lowL (k + 1) j) R cap ∧ Below m wr (wrd_se.setCell ⟨R, 0, none⟩ (.slice (some ⟨q2, 0, none⟩) 64 cr))) := HSwap.out wrd_se _ q2 hC hv2 (Nat.le_trans hs0 hq2)
                refine hK.out _ _ (trivial) (fun hHeld => ?_)
                clear hK K cS fS  hC
                generalize (wrd_se.setCell ⟨R, 0, none⟩ (.slice (some ⟨q2, 0, none⟩) 64 cr)) = wrd_se_st at *
                try go_frame
                refine wpAnyH_done (by kernel_rfl) ?_ _
                clear hHeld
                have HEl := Lib.hid HE.out.1
                have HEb := Lib.hid (HB.out.trans (HE.out.2.mono hm))
                clear HE HSet HSwap hc0 hcR hfR HM HB HKeep cm hv2 hq2
                go_wp2_with fail
                go_roundw
                case rel => exact ⟨k + 1, by omega, by go_num, HEl, HEb⟩
                case measure => simp [intOf]; omega
              exact AllReadyH.nil
            exact AllReadyH.nil
          exact AllReadyH.nil
        · obtain rfl : k = fi := by omega
          have HQ : Hid (∃ F, StL wr F m (freshB ⟨(j : Int), gk⟩) ∧ ∀ q, F q → w.heap.size ≤ q) := by
            obtain ⟨F, vs, gs, h1, h2, -⟩ := HM.out
            have e : lowL k j = freshB ⟨(j : Int), gk⟩ := by
              unfold lowL lowB freshB
              rw [← Hfi.out]
              simp
            rw [e] at h1
            exact ⟨F, ⟨R, cap, vs, gs, h1⟩, fun q hq => Nat.le_trans hm (h2 q hq)⟩
          clear HM
          go_wp2_with fail
          go_ret2
          obtain ⟨F, q1, q2⟩ := HQ.out
          exact ⟨m, F, rfl, q1, q2, HB.out⟩
end Go.Proofs.Ytiafmghdiidniaa
