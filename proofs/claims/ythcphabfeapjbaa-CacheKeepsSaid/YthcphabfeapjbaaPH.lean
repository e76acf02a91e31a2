/-
  THE WALK of the reference cache's New: entries of four cells, appended one by one.
-/
import Derived.Test.YthcphabfeapjbaaPG
namespace Go.Proofs.Ythcphabfeapjbaa
open Go.RowKit Ca

abbrev Own4 (w : World) (B : Nat) (v : Value) (n : Nat) (ys : List Value) : Prop := w.ownsRow B 61 4 v n ys
def Z4C : List Value := [.int .i64 0, .string ⟨#[]⟩, .bool false, .int .i64 0]
theorem infoEnt : (Try.prog.info? 61).map (fun i => (i.zero, i.size, i.bytes)) = some (some (.agg Z4C.toArray), 4, 40) := by kernel_rfl
theorem wpList_app4 {w : World} {ops : Array Oper} {rest : List Oper} {o : Oper} {a : Act} {Q : Exit → Act → World → Prop} (hgd : o.guard = none) (s x : Operand)
    (ho : o.op = .call { callee := .builtin .append, args := #[s, x], argTypes := #[47, 47] })
    (B : Nat) (v : Value) (n : Nat) (ys : List Value) (hs : a.eval s = v) (hown : Own4 w B v n ys) (g : Nat) (zs : List Value) (hx : a.eval x = .slice (some ⟨g, 0, none⟩) 1 1) (hu : Row w g 61 zs)
    (hz : zs.length = 4) (h1 : ∀ y ∈ zs, y.oneCell' = true) (hl : n + 1 ≤ 100000) (hB : B ≤ w.heap.size)
    (h : ∀ v' w', Own4 w' B v' (n + 1) (ys ++ zs) → w.grownBy w' v.ownBlock → (v'.ownBlock = v.ownBlock ∨ v'.ownBlock = some w.heap.size) → wpList Try.prog ops Q rest (a.put o.dst v') w') : wpList Try.prog ops Q (o :: rest) a w := by
  refine wpList_plain hgd fun K hK => ?_
  obtain ⟨i, hi, hz0, hz1, hz2⟩ := info_parts infoEnt
  obtain ⟨v', w', hr, h2, h3, _, h5⟩ := run_append_own_at w B 47 o.type 61 i _ 4 40 Try.underlying47 hi hz0 hz1 hz2 rfl (by omega) v n ys hown ⟨g, 0, none⟩ 1 1 zs (by rw [hz]) (fun j u hj => by rw [add_off]; exact hu.here.cell hj) h1 (by simp only [maxLen]; omega) (by omega) hB
  unfold Oper.wp execOp
  simp only [ho, resolve, invoke, builtin, Sem.run_bind, Sem.run_pure, Result.andThen_ok, List.map_toArray, List.map_cons, List.map_nil, hs, hx, hr]
  exact hK _ _ (h v' w' h2 h3 h5)

structure Lie10 (w : World) (M b B sh room : Nat) (v : Value) (m : Nat) : Prop where
  row : Row w M 49 [.int .i64 (sh : Int), .int .i64 (room : Int), v, .slice (some ⟨b, 0, none⟩) sh sh, .int .i64 0, .int .i64 0]
  hnd : Row w b 3 (List.replicate sh (.int .i64 0))
  own : Own4 w B v m (entCells (List.replicate m Ent.free))
  MB : M < B
  bB : b < B
  Mb : M ≠ b
  hB : B ≤ w.heap.size
theorem own4_lt {w : World} {B : Nat} {v : Value} {m : Nat} {ys : List Value} (h : Own4 w B v m ys) {k : Nat} (hk : v.ownBlock = some k) : B ≤ k ∧ k < w.heap.size := World.ownsRow.lt h k hk
theorem own4_shape {w : World} {B : Nat} {v : Value} {m : Nat} {ys : List Value} (h : Own4 w B v m ys) : ∃ A n c, v = .slice A n c := by
  rcases h.2 with ⟨rfl, _⟩ | ⟨g, cap, cur, rfl, _⟩ <;> exact ⟨_, _, _, rfl⟩
theorem below_app4 {w0 w w' : World} {B B' : Nat} {v : Value} {m : Nat} {ys : List Value} (hb : Below B' w0 w) (h : Own4 w B v m ys) (hg : w.grownBy w' v.ownBlock) (hB : B' ≤ B) (hs : B' ≤ w.heap.size) : Below B' w0 w' :=
  hb.trans ⟨hg.os, hg.tape, hg.output, hg.size, fun k hk => hg.block k (by omega) (fun e => by have := (own4_lt h e.symm).1; omega)⟩
theorem Lie10.app {w w' : World} {M b B sh room : Nat} {v v' : Value} {m : Nat} {o : Obj} (h : Lie10 w M b B sh room v m) (ho : Own4 w' B v' (m + 1) (entCells (List.replicate m Ent.free) ++ Ent.free.cells)) (hg : (w.alloc o).grownBy w' v.ownBlock) :
    Lie10 (w'.setCell ⟨M, 2, none⟩ v') M b B sh room v' (m + 1) := by
  have hne : ∀ k, k < B → some k ≠ v.ownBlock := fun k hk e => by have := (own4_lt h.own e.symm).1; omega
  have h1 := ((h.row.alloc o).grown hg (hne _ h.MB)).set 2 v'
  refine ⟨h1, ((h.hnd.alloc o).grown hg (hne _ h.bB)).apart (fun e => h.Mb e.symm) _, ?_, h.MB, h.bB, h.Mb, ?_⟩
  · have hE : entCells (List.replicate m Ent.free) ++ Ent.free.cells = entCells (List.replicate (m + 1) Ent.free) := by
      rw [List.replicate_succ', entCells, entCells, List.flatMap_append]; rfl
    rw [hE] at ho
    exact World.ownsRow.kept ho (row := some M) (by_setCell (World.grownBy.refl w' _) (.inl rfl) _) (.inr fun e' => by have := (own4_lt ho e').1; have := h.MB; omega)
  · have := h.hB; have h2 := hg.size; simp at h2 ⊢; omega
theorem Lie10.cell {w w' : World} {M b B sh room : Nat} {v : Value} {m : Nat} {o : Obj} (h : Lie10 w M b B sh room v m) (hg : (w.alloc o).grownBy w' v.ownBlock) : w'.cell? ⟨M, 2, none⟩ = some v ∧ w'.frozen? ⟨M, 2, none⟩ = false := by
  have hr := (h.row.alloc o).grown hg (fun e => by have := (own4_lt h.own e.symm).1; have := h.MB; omega)
  exact ⟨hr.here.head (j := 2) rfl, hr.free 2⟩
theorem Lie10.ref {w : World} {M b B sh room : Nat} {v : Value} (h : Lie10 w M b B sh room v (sh * room)) (hs : 1 ≤ sh ∧ sh ≤ 64) (hr : 1 ≤ room ∧ room ≤ 64) :
    RefK w (fun k => k = M ∨ k = b ∨ v.ownBlock = some k) M sh room 0 (new sh room) := by
  have hp : 0 < sh * room := Nat.mul_pos hs.1 hr.1
  rcases h.own.2 with ⟨_, h0⟩ | ⟨g, cap, cur, rfl, hb, hg, _, _, _, ht⟩
  · omega
  have hH : Here w g 0 (entCells (List.replicate (sh * room) Ent.free)) := by
    have hrw : Row w g 61 cur.toList := by rw [Row, Array.toArray_toList]; exact hg
    have := hrw.here.part 0 (sh * room * 4)
    rw [Nat.zero_add, List.drop_zero, ht] at this
    exact this
  have hgl : g < w.heap.size := (Array.getElem?_eq_some_iff.1 hg).1
  have hMB := h.MB
  have hbB := h.bB
  have hBw := h.hB
  refine ⟨g, b, cap, sh, h.row.here, hH, ?_, by simp [new], by simp [new], fun x hx => by rw [List.eq_of_mem_replicate hx]; exact hr.1, ⟨Nat.le_refl _, Nat.le_refl _⟩, fun e he => by rw [List.eq_of_mem_replicate he]; exact Nat.le_refl _, hs, hr, by omega, h.Mb, by omega, .inl rfl, .inr (.inr rfl), .inr (.inl rfl), fun k hk => ?_⟩
  · have := h.hnd.here
    rw [new]
    simpa using this
  · rcases hk with rfl | rfl | hk
    · omega
    · omega
    · exact (own4_lt h.own hk).2

theorem madeI10 (n : Nat) (hn : n ≤ 1000) (W : World) : (Instr.makeSlice 43 (.int .i64 (n : Int)) (.int .i64 (n : Int))).run Try.prog W = .ok (.slice (some ⟨W.heap.size, 0, none⟩) n n) (W.alloc (.cells (List.replicate n (Value.int .i64 0)).toArray 3)) := by
  obtain ⟨i, hi, hz0, hz1, hz2⟩ := info_parts infoInt10
  have := run_make (P := Try.prog) W 43 3 i (.int .i64 0) Try.underlying43 hi hz0 .i64 .i64 n n (by omega) (by omega) (by rw [hz2]; omega) (by omega)
  simp only [hz1, Nat.mul_one, Int.toNat_natCast] at this
  rw [show madeCells (Value.int .i64 0).cells n = (List.replicate n (Value.int .i64 0)).toArray from by
    unfold madeCells
    apply Array.ext
    · simp
    · intro i h1 h2
      simp [Value.cells, Nat.mod_one]] at this
  exact this

set_option maxRecDepth 100000 in
set_option maxHeartbeats 1000000 in
theorem RCNew_any (sh room : Nat) (hs : 1 ≤ sh ∧ sh ≤ 64) (hr : 1 ≤ room ∧ room ≤ 64) (w0 : World) :
    Calls Try.prog 7 #[.int .i64 (sh : Int), .int .i64 (room : Int)] w0 fun e w' => ∃ M G, e = .returned (.pointer (some ⟨M, 0, none⟩)) ∧ RefK w' G M sh room 0 (new sh room) ∧ (∀ k, G k → w0.heap.size ≤ k) ∧ Below w0.heap.size w0 w' := by
  have hmk := madeI10 sh (by omega) w0
  have hbd : sh * room ≤ 64 * 64 := Nat.mul_le_mul hs.2 hr.2
  obtain ⟨n, hn⟩ : ∃ n, n = sh * room := ⟨_, rfl⟩
  have hmul : (sh : Int) * (room : Int) = (n : Int) := by rw [hn]; simp
  have HN := Lib.hid hn
  rw [← hn] at hbd
  have Hs := Lib.hid hs
  have Hr := Lib.hid hr
  clear hn
  go_enter Try.func7, Try.ntmps7
  go_wp2
  obtain ⟨b, hb⟩ : ∃ b, b = w0.heap.size := ⟨_, rfl⟩
  obtain ⟨M, hM⟩ : ∃ M, M = w0.heap.size + 1 := ⟨_, rfl⟩
  obtain ⟨B, hB⟩ : ∃ B, B = w0.heap.size + 1 + 1 := ⟨_, rfl⟩
  have HL0 : Hid (Lie10 ((w0.alloc (.cells (Array.replicate sh (Value.int .i64 0)) 3)).alloc (.cells #[.int .i64 (sh : Int), .int .i64 (room : Int), .slice none 0 0, .slice (some ⟨b, 0, none⟩) sh sh, .int .i64 0, .int .i64 0] 49)) M b B sh room (.slice none 0 0) 0) := by
    refine ⟨?_, ?_, World.ownsRow_nil _ _ _ _, by omega, by omega, by omega, by simp; omega⟩
    · exact Row.newAt 49 [.int .i64 (sh : Int), .int .i64 (room : Int), .slice none 0 0, .slice (some ⟨b, 0, none⟩) sh sh, .int .i64 0, .int .i64 0] (by simp; omega)
    · rw [← List.toArray_replicate]
      exact (Row.newAt 3 (List.replicate sh (Value.int .i64 0)) hb.symm).alloc _
  have HB0 : Hid (Below w0.heap.size w0 ((w0.alloc (.cells (Array.replicate sh (Value.int .i64 0)) 3)).alloc (.cells #[.int .i64 (sh : Int), .int .i64 (room : Int), .slice none 0 0, .slice (some ⟨b, 0, none⟩) sh sh, .int .i64 0, .int .i64 0] 49))) := ((Below.refl _ _).alloc (Nat.le_refl _) _).alloc (by simp) _
  have HLO : Hid (w0.heap.size ≤ b ∧ w0.heap.size ≤ M ∧ w0.heap.size ≤ B) := by show _ ∧ _; omega
  rw [← hM, ← hb]
  clear hmk hM hB hb
  go_loopw [6] (fun i wr => ∃ (m : Nat) (v : Value), m ≤ n ∧ i = .int .i64 (m : Int) ∧ Hid (Lie10 wr M b B sh room v m) ∧ Hid (Below w0.heap.size w0 wr)) (fun i _ => n - (intOf i).toNat)
  case atStart => exact ⟨0, _, by omega, rfl, HL0, HB0⟩
  case round =>
    obtain ⟨m, v, hm, rfl, HL, HB⟩ := hrel
    clear HL0 HB0
    by_cases hlt : m < n
    · have c2 : wr.cell? ⟨M, 2, none⟩ = some v := HL.out.row.here.head (j := 2) rfl
      go_wp2_with (at_builtin; refine wpList_app4 rfl (.tmp 24) (.tmp 26) rfl B v m _ rfl (World.ownsRow.alloc HL.out.own _) wr.heap.size Ent.free.cells rfl (Row.new wr 61 Ent.free.cells) rfl (by intro y hy; simp only [Ca.Ent.cells, List.mem_cons, List.not_mem_nil, or_false] at hy; rcases hy with rfl | rfl | rfl | rfl <;> rfl) (by omega) (by have := HL.out.hB; simp; omega) ?_; intro v' w2 hO hg _; obtain ⟨A', n', c', rfl⟩ := own4_shape hO; have HB2 := Lib.hid (below_app4 (HB.out.alloc HB.out.size _) (World.ownsRow.alloc HL.out.own _) hg HLO.out.2.2 (Nat.le_trans HB.out.size (by simp))); obtain ⟨cM, fM⟩ := HL.out.cell hg; have HL2 := Lib.hid (HL.out.app hO hg); clear hO hg c2)
      exact ⟨⟨m + 1, _, by omega, by go_num, HL2, HB2.out.setCell HLO.out.2.1 _⟩, by rw [show intOf (.int .i64 ((m : Int) + 1)) = (m : Int) + 1 from rfl, show intOf (.int .i64 (m : Int)) = (m : Int) from rfl]; omega⟩
    · obtain rfl : m = n := by omega
      go_wp2
      go_ret
      refine ⟨M, fun k => k = M ∨ k = b ∨ v.ownBlock = some k, rfl, ?_, ?_, HB.out⟩
      · have := HL.out
        rw [HN.out] at this
        exact this.ref Hs.out Hr.out
      · intro k hk
        rcases hk with rfl | rfl | hk
        · exact HLO.out.2.1
        · exact HLO.out.1
        · exact Nat.le_trans HLO.out.2.2 (own4_lt HL.out.own hk).1
end Go.Proofs.Ythcphabfeapjbaa
