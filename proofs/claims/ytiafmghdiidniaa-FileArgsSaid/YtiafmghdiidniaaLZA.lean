/-
  MEMORY (no program but slices.Clone): copy and clear onto cells that may be written; a block of 64 bytes; how the landed store lies ('StL').
-/
import Derived.Test.YtiafmghdiidniaaLI
import Derived.Test.YtiafmghdiidniaaFQ
import Derived.Handy
import Derived.Laws.IdiomCopy
import Derived.Lib.SliceRun
namespace Go.Proofs.Ytiafmghdiidniaa
open Go.RowKit Cdc Inn Fil

theorem Here.there' {w : World} {b o : Nat} {cs : List Value} (h : Here w b o cs) (i n : Nat) (hn : i + n ≤ cs.length) : w.there b (o + i) n := fun j hj => by
  have := h.2 (i + j) (by omega)
  rwa [← Nat.add_assoc] at this
theorem wpList_copy_here {P : Program} {w : World} {ops : Array Oper} {rest : List Oper} {o : Oper} {a : Act} {Q : Exit → Act → World → Prop} (hgd : o.guard = none) (d s : Operand) (dT sT : TypeId)
    (ho : o.op = .call { callee := .builtin .copy, args := #[d, s], argTypes := #[dT, sT] }) (elem : TypeId) (hu : P.underlying dT = some (.slice elem)) (hsz : (P.info? elem).map (·.size) = some 1)
    (dp sp : Option Addr) (dLen dCap sLen sCap : Nat) (hd : a.eval d = .slice dp dLen dCap) (hs : a.eval s = .slice sp sLen sCap)
    (g off : Nat) (cs : List Value) (hn : cs.length = Nat.min sLen dLen) (ht : w.there g off cs.length)
    (hpos : 0 < cs.length → dp = some ⟨g, off, none⟩ ∧ ∃ ad, sp = some ad ∧ ∀ j v, cs[j]? = some v → w.cell? (ad.add j) = some v)
    (h1 : ∀ v ∈ cs, v.oneCell' = true) (h : wpList P ops Q rest (a.put o.dst (goInt cs.length)) (w.setCells g off cs)) : wpList P ops Q (o :: rest) a w := by
  by_cases h0 : cs.length = 0
  · obtain rfl : cs = [] := List.eq_nil_of_length_eq_zero h0
    exact wpList_copy_nothing hgd d s dT sT ho elem hu hsz dp sp dLen dCap sLen sCap hd hs (by simpa using hn.symm) h
  · obtain ⟨rfl, ad, rfl, hsrc⟩ := hpos (by omega)
    refine wpList_plain hgd fun K hK => ?_
    have hrun := run_copy_cells (P := P) w dT sT o.type elem g off dLen dCap ad sLen sCap cs hu hsz hn hsrc (fun j hj => (ht j hj).1) (fun j hj => (ht j hj).2) h1
    unfold Oper.wp
    simp [execOp, ho, resolve, invoke, builtin, hd, hs, hrun, Result.andThen]
    exact hK _ _ h
theorem wpList_clear_here {P : Program} {w : World} {ops : Array Oper} {rest : List Oper} {o : Oper} {a : Act} {Q : Exit → Act → World → Prop} (hgd : o.guard = none) (d : Operand) (dT : TypeId)
    (ho : o.op = .call { callee := .builtin .clear, args := #[d], argTypes := #[dT] }) (elem : TypeId) (hu : P.underlying dT = some (.slice elem)) (z : Value) (hz0 : ∀ w, (zeroValue elem).run P w = .ok z w) (hz : z.cells = #[z]) (hz1 : z.oneCell' = true)
    (g off n c : Nat) (hp : 0 < n) (hd : a.eval d = .slice (some ⟨g, off, none⟩) n c) (ht : w.there g off n)
    (h : wpList P ops Q rest (a.put o.dst (.tuple #[])) (w.setCells g off (List.replicate n z))) : wpList P ops Q (o :: rest) a w := by
  refine wpList_plain hgd fun K hK => ?_
  have hrun := Lib.run_clear_slice (P := P) w dT elem o.type z hu hz0 hz hz1 g off n c hp (fun j hj => (ht j hj).1) (fun j hj => (ht j hj).2)
  unfold Oper.wp
  simp [execOp, ho, resolve, invoke, builtin, hd, hrun, Result.andThen]
  exact hK _ _ h

/-- A slice over 64 bytes that may be written, at the head of block g. -/
structure Blk (w : World) (v : Value) (g : Nat) (b : List UInt8) : Prop where
  val : ∃ c, v = .slice (some ⟨g, 0, none⟩) 64 c ∧ 64 ≤ c
  len : b.length = 64
  here : Here w g 0 (b.map V8)
section
variable {w w' : World} {v : Value} {g B : Nat} {b : List UInt8}
theorem Blk.lt (h : Blk w v g b) : g < w.heap.size := h.here.lt (by rw [List.length_map, h.len]; omega)
theorem Blk.chg {S : Nat → Nat → Prop} (h : Blk w v g b) (k : Chg S w w') (hn : ∀ j, j < 64 → ¬ S g j) : Blk w' v g b :=
  ⟨h.val, h.len, h.here.chg k fun j hj => by rw [Nat.zero_add]; exact hn j (by rw [List.length_map, h.len] at hj; exact hj)⟩
theorem Blk.below (h : Blk w v g b) (k : Below w.heap.size w w') : Blk w' v g b := h.chg (Chg.below k fun _ _ => False) fun _ _ x => x
theorem Blk.arg (h : Blk w v g b) : Arg w v b := by
  obtain ⟨c, rfl, hc⟩ := h.val
  refine .inr ⟨g, 0, c, by rw [h.len], h.lt, by rw [h.len]; exact hc, fun j u hu => ?_⟩
  exact h.here.1 j u hu
theorem Own.blk (h : Own w B 5 v (b.map V8)) (hl : b.length = 64) : ∃ g, Blk w v g b ∧ B ≤ g := by
  rcases h.2 with ⟨_, h0⟩ | ⟨g, cap, cur, rfl, hB, hg, hc, hm, hs, ht⟩
  · rw [List.length_map] at h0; omega
  · have hc' : 64 ≤ cap := by rw [List.length_map, hl] at hc; exact hc
    refine ⟨g, ⟨⟨cap, by rw [List.length_map, hl], hc'⟩, hl, fun j u hu => ?_, fun j hj => ?_⟩, hB⟩
    · have := World.ownsRow.cells h (g := g) rfl j u hu
      rwa [add_off] at this
    · refine ⟨?_, frozen_of_row w g _ _ _ hg⟩
      have := World.ownsRow.cells h (g := g) rfl j _ (List.getElem?_eq_getElem hj)
      rw [add_off] at this
      rw [this]; rfl
theorem Own.chg {e : TypeId} {ys : List Value} {S : Nat → Nat → Prop} (h : Own w B e v ys) (k : Chg S w w') (hn : ∀ q, v.ownBlock = some q → ∀ o, ¬ S q o) : Own w' B e v ys := by
  obtain ⟨h1, h2⟩ := h
  refine ⟨h1, ?_⟩
  rcases h2 with h2 | ⟨g, cap, cur, rfl, hg, hb, r⟩
  · exact .inl h2
  · exact .inr ⟨g, cap, cur, rfl, hg, by rw [k.block g (Array.getElem?_eq_some_iff.1 hb).1 (hn g rfl)]; exact hb, r⟩
theorem V8_one (b : List UInt8) : ∀ v ∈ b.map V8, v.oneCell' = true := fun v hv => by
  obtain ⟨x, _, rfl⟩ := List.mem_map.1 hv; rfl
/-- The bytes k from place o on are written over. -/
theorem Blk.write (h : Blk w v g b) (o : Nat) (cs : List UInt8) (ho : o + cs.length ≤ 64) : Blk (w.setCells g o (cs.map V8)) v g (b.take o ++ cs ++ b.drop (o + cs.length)) ∧ Chg (fun k _ => k = g) w (w.setCells g o (cs.map V8)) := by
  have hl := h.len
  have ht := h.here.there' o cs.length (by rw [List.length_map, hl]; exact ho)
  rw [Nat.zero_add] at ht
  refine ⟨⟨h.val, by simp; omega, ?_⟩, (Chg.refl _ w).setCells (fun j _ _ => rfl) (by rw [List.length_map]; exact ht)⟩
  have e : (b.take o ++ cs ++ b.drop (o + cs.length)).map V8 = (b.map V8).take o ++ (cs.map V8 ++ (b.map V8).drop (o + cs.length)) := by simp
  rw [e]
  have hp1 := h.here.part 0 o
  have hp2 := h.here.part o cs.length
  have hp3 := h.here.part (o + cs.length) (64 - (o + cs.length))
  rw [Nat.zero_add] at hp1 hp2 hp3
  rw [List.drop_zero] at hp1
  have l1 : ((b.map V8).take o).length = o := by simp; omega
  have l2 : (((b.map V8).drop o).take cs.length).length = cs.length := by simp; omega
  have l3 : ((b.map V8).drop (o + cs.length)).take (64 - (o + cs.length)) = (b.map V8).drop (o + cs.length) := List.take_of_length_le (by simp; omega)
  rw [l3] at hp3
  refine (hp1.setOff (cs.map V8) (.inr (.inl (by rw [l1]; omega)))).append ?_
  rw [l1, Nat.zero_add]
  refine (hp2.set (cs.map V8) (by rw [l2]; simp)).append ?_
  rw [List.length_map]
  exact hp3.setOff (cs.map V8) (.inr (.inr (by rw [List.length_map]; omega)))
end

set_option maxRecDepth 100000 in
set_option maxHeartbeats 1000000 in
/-- slices.Clone of a block. -/
theorem QcloneB_any {w : World} {v : Value} {g : Nat} {bs : List UInt8} (hv : Blk w v g bs) : Calls Try.prog 59 #[v] w fun e w' => ∃ v' g', e = .returned v' ∧ Blk w' v' g' bs ∧ w.heap.size ≤ g' ∧ Below w.heap.size w w' := by
  have hA := hv.arg
  have hl := hv.len
  obtain ⟨cap, rfl, -⟩ := hv.val
  obtain ⟨w1, hw1⟩ : ∃ W, W = w.alloc (.cells #[] 5) := ⟨_, rfl⟩
  have HFr : Hid (From w1 (.slice (some ⟨g, 0, none⟩) 64 cap) (bs.map V8)) := by rw [hw1]; exact (arg_from hA).alloc _
  have HO : Hid (Own w1 w.heap.size 5 (.slice (some ⟨w.heap.size, 0, none⟩) 0 0) []) := by rw [hw1]; exact Own.lit w w.heap.size 5 [] (Nat.le_refl _) (Nat.zero_le _)
  have HB : Hid (Below w.heap.size w w1) := by rw [hw1]; exact (Below.refl _ _).alloc (Nat.le_refl _) _
  have HLn : Hid (([] : List Value).length + (bs.map V8).length ≤ 100000000) := by show _ ≤ _; simp; omega
  have H1 := Lib.hid (oneC8 bs)
  have Hsz : Hid (w.heap.size ≤ w1.heap.size) := HB.out.size
  have HL := Lib.hid hl
  clear hA hv hl
  have he : ∀ W : World, (binOp .eql 41 (.slice (some ⟨g, 0, none⟩) 64 cap) (.slice none 0 0)).run Try.prog W = .ok (.bool false) W := fun _ => rfl
  go_enter Try.func59, Try.ntmps59
  go_wp2_with (at_builtin; rw [← hw1]; refine wpList_app rfl (.tmp 5) (.tmp 6) 41 rfl w.heap.size 5 Try.underlying41 info8 rfl (by decide) _ [] rfl HO.out _ (bs.map V8) rfl HFr.out H1.out HLn.out Hsz.out ?_; intro v2 w2 hown2 hg2 _; rw [List.nil_append] at hown2; have HO2 := Lib.hid hown2; have HB2 : Hid (Below w.heap.size w w2) := below_app HB.out HO.out hg2 (Nat.le_refl _) HB.out.size; clear hown2 hg2)
  go_ret
  obtain ⟨g', h1, h2⟩ := HO2.out.blk HL.out
  exact ⟨v2, g', rfl, h1, h2, HB2.out⟩

/-- The landed store: its head m, its row R of slices, their blocks. -/
structure MemL (w : World) (F : Nat → Prop) (m : Nat) (bl : List (List UInt8)) (R cap : Nat) (vs : Nat → Value) (gs : Nat → Nat) : Prop where
  pos : 0 < bl.length
  few : bl.length ≤ 128
  c0 : w.cell? ⟨m, 0, none⟩ = some (.slice (some ⟨R, 0, none⟩) bl.length cap)
  row : ∀ i, i < bl.length → w.cell? ⟨R, i, none⟩ = some (vs i)
  blk : ∀ i, i < bl.length → Blk w (vs i) (gs i) (blk bl i)
  inj : ∀ i j, i < bl.length → j < bl.length → gs i = gs j → i = j
  ne : ∀ i, i < bl.length → gs i ≠ R ∧ gs i ≠ m
  set : ∀ k, F k ↔ k = m ∨ k = R ∨ ∃ i, i < bl.length ∧ k = gs i
def StL : Stor := fun w F m bl => ∃ R cap vs gs, MemL w F m bl R cap vs gs
section
variable {w w' : World} {F : Nat → Prop} {m R cap : Nat} {bl : List (List UInt8)} {vs : Nat → Value} {gs : Nat → Nat}
theorem MemL.stay {X : Nat → Nat → Prop} (h : MemL w F m bl R cap vs gs) (k : Chg X w w') (hn : ∀ k o, F k → ¬ X k o) : MemL w' F m bl R cap vs gs where
  pos := h.pos
  few := h.few
  c0 := by rw [k.cell m 0 (World.block_lt_of_cell? w _ h.c0) (hn m 0 ((h.set m).2 (.inl rfl)))]; exact h.c0
  row := fun i hi => by rw [k.cell R i (World.block_lt_of_cell? w _ (h.row i hi)) (hn R i ((h.set R).2 (.inr (.inl rfl))))]; exact h.row i hi
  blk := fun i hi => (h.blk i hi).chg k fun j _ => hn _ j ((h.set _).2 (.inr (.inr ⟨i, hi, rfl⟩)))
  inj := h.inj
  ne := h.ne
  set := h.set
theorem MemL.lt (h : MemL w F m bl R cap vs gs) (k : Nat) (hk : F k) : k < w.heap.size := by
  rcases (h.set k).1 hk with rfl | rfl | ⟨i, hi, rfl⟩
  · exact World.block_lt_of_cell? w _ h.c0
  · exact World.block_lt_of_cell? w _ (h.row 0 h.pos)
  · exact (h.blk i hi).lt
theorem MemL.below (h : MemL w F m bl R cap vs gs) (k : Below w.heap.size w w') : MemL w' F m bl R cap vs gs := h.stay (Chg.below k fun _ _ => False) fun _ _ _ x => x
theorem MemL.sixty (h : MemL w F m bl R cap vs gs) : Sixty bl := fun b hb => by
  obtain ⟨i, hi, rfl⟩ := List.getElem_of_mem hb
  have := (h.blk i hi).len
  rwa [Fil.blk, List.getD_eq_getElem?_getD, List.getElem?_eq_getElem hi, Option.getD_some] at this
theorem blk_set (bl : List (List UInt8)) (i : Nat) (hi : i < bl.length) (b : List UInt8) (j : Nat) : Fil.blk (bl.set i b) j = if i = j then b else Fil.blk bl j := by
  unfold Fil.blk
  rw [List.getD_eq_getElem?_getD, List.getD_eq_getElem?_getD, List.getElem?_set]
  by_cases e : i = j
  · rw [if_pos e, if_pos e, if_pos (by omega)]; rfl
  · rw [if_neg e, if_neg e]
/-- A block is written over. -/
theorem MemL.write (h : MemL w F m bl R cap vs gs) (i : Nat) (hi : i < bl.length) (b : List UInt8) (hb : b.length = 64) : MemL (w.setCells (gs i) 0 (b.map V8)) F m (bl.set i b) R cap vs gs ∧ Chg (fun k _ => k = gs i) w (w.setCells (gs i) 0 (b.map V8)) := by
  obtain ⟨hB, hC⟩ := (h.blk i hi).write 0 b (by omega)
  have hbl := (h.blk i hi).len
  rw [List.take_zero, List.nil_append, Nat.zero_add, hb, List.drop_of_length_le (by omega), List.append_nil] at hB
  have hn := h.ne i hi
  refine ⟨⟨by rw [List.length_set]; exact h.pos, by rw [List.length_set]; exact h.few, ?_, ?_, ?_, ?_, ?_, ?_⟩, hC⟩
  · rw [List.length_set, hC.cell m 0 (World.block_lt_of_cell? w _ h.c0) (fun e => hn.2 e.symm)]; exact h.c0
  · intro j hj
    rw [List.length_set] at hj
    rw [hC.cell R j (World.block_lt_of_cell? w _ (h.row j hj)) (fun e => hn.1 e.symm)]; exact h.row j hj
  · intro j hj
    rw [List.length_set] at hj
    rw [blk_set bl i hi]
    by_cases e : i = j
    · subst e; rw [if_pos rfl]; exact hB
    · rw [if_neg e]
      exact (h.blk j hj).chg hC fun _ _ e2 => e (h.inj _ _ hi hj e2.symm)
  · intro a c ha hc; rw [List.length_set] at ha hc; exact h.inj a c ha hc
  · intro a ha; rw [List.length_set] at ha; exact h.ne a ha
  · intro k; rw [List.length_set]; exact h.set k
end

section
variable {w : World} {F : Nat → Prop} {m R cap : Nat} {bl : List (List UInt8)} {vs : Nat → Value} {gs : Nat → Nat}
theorem FiMHas_any (h : MemL w F m bl R cap vs gs) (i : Int) (hi : In64 i) :
    Calls Try.prog 43 #[.pointer (some ⟨m, 0, none⟩), .int .i64 i] w fun e w' => e = .returned (.bool (decide (0 ≤ i ∧ i < bl.length))) ∧ w' = w := by
  have h0 := h.c0
  have hf := h.few
  obtain ⟨i1, i2⟩ := hi
  clear h
  generalize bl.length = n at *
  by_cases h1 : 0 ≤ i
  · by_cases h2 : i < n
    · rw [decide_eq_true ⟨h1, h2⟩]
      go_enter Try.func43, Try.ntmps43
      go_wp2
      go_ret
      exact ⟨rfl, rfl⟩
    · rw [decide_eq_false (fun x => h2 x.2)]
      go_enter Try.func43, Try.ntmps43
      go_wp2
      go_ret
      exact ⟨rfl, rfl⟩
  · rw [decide_eq_false (fun x => h1 x.1)]
    go_enter Try.func43, Try.ntmps43
    go_wp2
    go_ret
    exact ⟨rfl, rfl⟩
theorem FiMRead_in (h : MemL w F m bl R cap vs gs) (i : Nat) (hi : i < bl.length) :
    Calls Try.prog 39 #[.pointer (some ⟨m, 0, none⟩), .int .i64 i] w fun e w' => ∃ v g, e = .returned (.tuple #[v, .int .i64 0]) ∧ Hid (Blk w' v g (blk bl i)) ∧ w.heap.size ≤ g ∧ Below w.heap.size w w' := by
  have h0 := h.c0
  have hr := h.row i hi
  have hf := h.few
  have HH := Lib.hid (FiMHas_any h i ⟨by omega, by omega⟩)
  rw [decide_eq_true ⟨by omega, by omega⟩] at HH
  have HC := Lib.hid (QcloneB_any (h.blk i hi))
  clear h
  generalize vs i = v at *
  generalize bl.length = n at *
  go_enter Try.func39, Try.ntmps39
  go_wp2_with fail
  refine HH.out.mono ?_
  rintro e w1 ⟨rfl, rfl⟩
  go_wp2_with fail
  refine HC.out.mono ?_
  rintro e w2 ⟨v', g', rfl, hb, hg, hB⟩
  have HB := Lib.hid hb
  have HBe := Lib.hid hB
  clear hb hB h0 hr HC HH
  go_wp2
  go_ret2
  exact ⟨v', g', rfl, HB, hg, HBe.out⟩
theorem FiMRead_out (h : MemL w F m bl R cap vs gs) (i : Int) (hi : In64 i) (hn : ¬ (0 ≤ i ∧ i < bl.length)) :
    Calls Try.prog 39 #[.pointer (some ⟨m, 0, none⟩), .int .i64 i] w fun e w' => e = .returned (.tuple #[.slice none 0 0, .int .i64 1]) ∧ w' = w := by
  have HH := Lib.hid (FiMHas_any h i hi)
  rw [decide_eq_false hn] at HH
  clear h hn hi
  go_enter Try.func39, Try.ntmps39
  go_wp2_with fail
  refine HH.out.mono ?_
  rintro e w1 ⟨rfl, rfl⟩
  go_wp2
  go_ret2
  exact ⟨rfl, rfl⟩
end
end Go.Proofs.Ytiafmghdiidniaa
