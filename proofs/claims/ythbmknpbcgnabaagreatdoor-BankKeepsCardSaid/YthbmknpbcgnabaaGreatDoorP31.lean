/-
  OF THE WALK: MrNGA, MrNGB, MrNGC, MrNGD.
-/
import Derived.Great.BuildSlice
import Derived.Laws.IdiomCopy
import Derived.Test.YthbmknpbcgnabaaGreatDoorP26
import Derived.Test.YthbmknpbcgnabaaGreatDoorP30
namespace Go.Proofs.YthbmknpbcgnabaaGreatDoor.Mr
open Go.RowKit Go.Shelf Mk Mt
theorem own_key {w : World} {B : Nat} {v : Value} {key : Tg} (h : Own w B 5 v (key.map V8)) : (key = [] ∧ v = .slice none 0 0) ∨ ∃ KB, B ≤ KB ∧ KB < w.heap.size ∧ ∀ w2 : World, w.heap.size ≤ w2.heap.size → w2.heap[KB]? = w.heap[KB]? → Arg w2 v key := by
  obtain ⟨hl, h2⟩ := h
  rw [List.length_map] at h2
  rcases h2 with ⟨rfl, h0⟩ | ⟨g, cap, cur, rfl, hb, hg, hc, _, _, ht⟩
  · exact .inl ⟨List.eq_nil_of_length_eq_zero h0, rfl⟩
  · refine .inr ⟨g, hb, (Array.getElem?_eq_some_iff.1 hg).1, fun w2 hs hw2 => .inr ⟨g, 0, cap, rfl, Nat.lt_of_lt_of_le (Array.getElem?_eq_some_iff.1 hg).1 hs, hc, fun j u hu => ?_⟩⟩
    rw [Nat.zero_add]
    have hg2 := hw2.trans hg
    rw [Nat.mul_one] at ht
    rw [← ht] at hu
    have hu2 : cur.toList[j]? = some u := by
      rw [List.getElem?_take] at hu
      split at hu
      · exact hu
      · cases hu
    rw [cell_of_row w2 g j _ _ (0, 0) hg2]
    rw [Array.getElem?_toList] at hu2
    exact hu2
def Cl (w w' : World) (v : Value) (key : Tg) : Prop := (key = [] ∧ ∃ A, v = .slice A 0 0) ∨ ∃ KB, w.heap.size ≤ KB ∧ KB < w'.heap.size ∧ ∀ w2 : World, w'.heap.size ≤ w2.heap.size → w2.heap[KB]? = w'.heap[KB]? → Arg w2 v key
set_option maxRecDepth 100000 in
set_option maxHeartbeats 1000000 in
theorem clone_any (key : Tg) (v : Value) (w : World) (hk : key.length ≤ 1000) (hA : Arg w v key) : Calls Tryz.prog 88 #[v] w fun e w' => ∃ v', e = .returned v' ∧ Hid (Cl w w' v' key) ∧ Below w.heap.size w w' := by
  obtain ⟨A, cap, rfl⟩ := hA.form
  cases A with
  | none =>
    have hn : key = [] := by
      rcases hA with ⟨A, _, h⟩ | ⟨b, o, c, h, _⟩
      · exact h
      · injection h with h; cases h
    subst hn
    clear hA
    have he : ∀ W : World, (binOp .eql 22 (.slice none 0 cap) (.slice none 0 0)).run Tryz.prog W = .ok (.bool true) W := fun _ => rfl
    rw [List.length_nil]
    go_enter Tryz.func88, Tryz.ntmps88
    go_wp2
    go_ret
    exact ⟨_, rfl, .inl ⟨rfl, _, rfl⟩, Below.refl _ _⟩
  | some ad =>
    obtain ⟨w1, hw1⟩ : ∃ W, W = w.alloc (.cells #[] 5) := ⟨_, rfl⟩
    have HFr : Hid (From w1 (.slice (some ad) key.length cap) (key.map V8)) := by rw [hw1]; exact (arg_from hA).alloc _
    have HO : Hid (Own w1 w.heap.size 5 (.slice (some ⟨w.heap.size, 0, none⟩) 0 0) []) := by rw [hw1]; exact Own.lit w w.heap.size 5 [] (Nat.le_refl _) (Nat.zero_le _)
    have HB : Hid (Below w.heap.size w w1) := by rw [hw1]; exact (Below.refl _ _).alloc (Nat.le_refl _) _
    have HLn : Hid (([] : List Value).length + (key.map V8).length ≤ 100000000) := by show _ ≤ _; simp; omega
    have H1 := Lib.hid (oneC8 key)
    have Hsz : Hid (w.heap.size ≤ w1.heap.size) := HB.out.size
    obtain ⟨n, hn⟩ : ∃ n, n = key.length := ⟨_, rfl⟩
    rw [← hn] at HFr ⊢
    clear hA hk hn
    have he : ∀ W : World, (binOp .eql 22 (.slice (some ad) n cap) (.slice none 0 0)).run Tryz.prog W = .ok (.bool false) W := fun _ => rfl
    go_enter Tryz.func88, Tryz.ntmps88
    go_wp2_with (at_builtin; rw [← hw1]; refine wpList_app rfl (.tmp 5) (.tmp 6) 22 rfl w.heap.size 5 Tryz.underlying22 info8 rfl (by decide) _ [] rfl HO.out _ (key.map V8) rfl HFr.out H1.out HLn.out Hsz.out ?_; intro v2 w2 hown2 hg2 _; rw [List.nil_append] at hown2; have HO2 := Lib.hid hown2; have HB2 : Hid (Below w.heap.size w w2) := below_app HB.out HO.out hg2 (Nat.le_refl _) HB.out.size; clear hown2 hg2)
    go_ret
    refine ⟨v2, rfl, ?_, HB2.out⟩
    rcases own_key HO2.out with ⟨e, rfl⟩ | h
    · exact .inl ⟨e, _, rfl⟩
    · exact .inr h
theorem run_copy_big {P : Program} (k : Nat) (w : World) (dT sT ty elem : TypeId) (b o dLen dCap : Nat) (a : Addr) (sLen sCap : Nat) (cs : List Value)
    (hu : P.underlying dT = some (.slice elem)) (hs : (P.info? elem).map (·.size) = some k) (hn : cs.length = Nat.min sLen dLen * k)
    (hsrc : ∀ j v, cs[j]? = some v → w.cell? (a.add j) = some v) (hc : w.there b o cs.length) (h1 : ∀ v ∈ cs, v.oneCell' = true) :
    (Builtin.copy_ #[dT, sT] ty #[.slice (some ⟨b, o, none⟩) dLen dCap, .slice (some a) sLen sCap]).run P w = .ok (goInt (Nat.min sLen dLen)) (w.setCells b o cs) := by
  have hl := run_loadCells_list (P := P) w a cs hsrc
  have hst := run_storeCells_cells (P := P) b o cs 0 w (fun j hj => by have := (hc j hj).1; simpa using this) (fun j hj => by have := (hc j hj).2; simpa using this) h1
  cases hq : P.info? elem with
  | none => simp [hq] at hs
  | some i =>
    have hi : i.size = k := by simpa [hq] using hs
    simp [Builtin.copy_, run_underlying hu, Builtin.lenOf, Builtin.firstCells, sizeOf, typeInfo, hq, hi, ← hn, hl, hst]
theorem run_copy_op {P : Program} {w w' : World} {a : Act} {o : Oper} {t t' : TypeId} {d s : Operand} {v u x : Value} (ho : o.op = .call { callee := .builtin .copy, args := #[d, s], argTypes := #[t, t'] }) (hd : a.eval d = v) (hs : a.eval s = u) (hr : (Builtin.copy_ #[t, t'] o.type #[v, u]).run P w = .ok x w') : (execOp a.eval o).run P w = .ok (.value x) w' := by
  simp only [execOp, ho, resolve, invoke, builtin, Sem.run_bind, Sem.run_pure, Result.andThen_ok, List.map_toArray, List.map_cons, List.map_nil, hd, hs, hr]
theorem wp_val {P : Program} {o : Oper} {a : Act} {w w' : World} {v : Value} {K : Act → World → Prop} {Q : Exit → Act → World → Prop} (hr : (execOp a.eval o).run P w = .ok (.value v) w') (h : K (a.put o.dst v) w') : o.wp P a w K Q := by
  unfold Oper.wp; rw [hr]; exact h
theorem infoT9 : (Tryz.prog.info? 27).map (fun i => (i.zero, i.size, i.bytes)) = some (some (.agg Hm.Z32.toArray), 32, 32) := by kernel_rfl
theorem sizeT9 : (Tryz.prog.info? 27).map (·.size) = some 32 := by kernel_rfl
set_option maxRecDepth 100000 in
theorem madeT9 (n : Nat) (hn : n ≤ 100000) (W : World) : (Instr.makeSlice 141 (.int .i64 (n : Int)) (.int .i64 (n : Int))).run Tryz.prog W = .ok (.slice (some ⟨W.heap.size, 0, none⟩) n n) (W.alloc (.cells (cells (List.replicate n zero)).toArray 27)) := by
  obtain ⟨i, hi, hz0, hz1, hz2⟩ := info_parts infoT9
  have := run_make (P := Tryz.prog) W 141 27 i (.agg Hm.Z32.toArray) Tryz.underlying141 hi hz0 .i64 .i64 n n (by omega) (by omega) (by rw [hz2]; omega) (by omega)
  rw [Int.toNat_natCast, hz1] at this
  rw [this]
  congr 3
  unfold madeCells
  have hc : (Value.agg Hm.Z32.toArray).cells = Hm.Z32.toArray := rfl
  have hz : Hm.Z32.toArray = Array.replicate 32 (.int .u8 0) := by kernel_rfl
  have hR : (cells (List.replicate n zero)) = List.replicate (n * 32) (.int .u8 0) := by
    have h1 : (List.replicate n zero).flatten = List.replicate (n * 32) 0 := by
      rw [zero, List.flatten_replicate_replicate]
    rw [cells, h1, List.map_replicate]; rfl
  rw [hR, hc]
  apply Array.ext
  · simp
  · intro j h1 h2
    simp only [Array.getElem_map, Array.getElem_range, List.getElem_toArray, List.getElem_replicate]
    exact getB _ _ 32 hz _ (by rw [hz, Array.size_replicate]; exact Nat.mod_lt _ (by omega))
def rep (t : Tg) (n k : Nat) : List Tg := List.replicate k t ++ List.replicate (n - k) zero
theorem rep_all (t : Tg) (n : Nat) : rep t n n = List.replicate n t := by rw [rep, Nat.sub_self]; simp
theorem cells_rep_length (t : Tg) (ht : t.length = 32) (k : Nat) : (cells (List.replicate k t)).length = 32 * k := by
  rw [cells_length _ (fun u hu => by rw [List.eq_of_mem_replicate hu]; exact ht), List.length_replicate]
theorem one_cells (l : List Tg) : ∀ v ∈ cells l, v.oneCell' = true := fun v hv => by
  obtain ⟨x, _, rfl⟩ := List.mem_map.1 hv; rfl
theorem row_rep {W : World} {g : Nat} {t : Tg} (ht : t.length = 32) {n k m : Nat} (hm : k + m ≤ n) (hR : Row W g 27 (cells (rep t n k))) :
    Row (W.setCells g (k * 32) (cells (List.replicate m t))) g 27 (cells (rep t n (k + m))) ∧ W.there g (k * 32) (cells (List.replicate m t)).length := by
  have e1 : cells (rep t n k) = cells (List.replicate k t) ++ (cells (List.replicate m zero) ++ cells (List.replicate (n - (k + m)) zero)) := by
    rw [rep, cells_append, show n - k = m + (n - (k + m)) by omega, ← List.replicate_append_replicate, cells_append]
  have e2 : cells (rep t n (k + m)) = cells (List.replicate k t) ++ (cells (List.replicate m t) ++ cells (List.replicate (n - (k + m)) zero)) := by
    rw [rep, cells_append, ← List.replicate_append_replicate, cells_append, List.append_assoc]
  have hz : zero.length = 32 := rfl
  rw [e1] at hR
  rw [e2]
  refine ⟨row_mid _ _ _ _ _ _ (by rw [cells_rep_length t ht]; omega) (by rw [cells_rep_length t ht, cells_rep_length zero hz]) hR, hR.thereMid _ _ ?_⟩
  rw [List.length_append, List.length_append, cells_rep_length t ht, cells_rep_length t ht, cells_rep_length zero hz, cells_rep_length zero hz]; omega
end Go.Proofs.YthbmknpbcgnabaaGreatDoor.Mr
namespace Go.Proofs.YthbmknpbcgnabaaGreatDoor.Mr
open Go.RowKit Go.Shelf Mk Mt
set_option maxRecDepth 100000 in
set_option maxHeartbeats 1000000 in
theorem repeat_any (t : Tg) (ht : t.length = 32) (b n : Nat) (h1 : 1 ≤ n) (h2 : n ≤ 1000) (w : World) (hR : Row w b 27 (t.map V8)) : Calls Tryz.prog 141 #[.slice (some ⟨b, 0, none⟩) 1 1, I64 n] w fun e w' =>
    ∃ g, e = .returned (.slice (some ⟨g, 0, none⟩) n n) ∧ w.heap.size ≤ g ∧ Hid (Row w' g 27 (cells (List.replicate n t))) ∧ Below w.heap.size w w' := by
  have hm := Any.bits_Mul Tryz.mulLay 1 n (by omega) (by omega) w
  change Calls Tryz.prog 71 _ _ _ at hm
  rw [show 1 * n / 18446744073709551616 = 0 by omega, show 1 * n % 18446744073709551616 = n by omega] at hm
  have hmk := madeT9 n (by omega) w
  obtain ⟨g, hg⟩ : ∃ g, g = w.heap.size := ⟨_, rfl⟩
  obtain ⟨w1, hw1⟩ : ∃ W, W = w.alloc (.cells (cells (List.replicate n zero)).toArray 27) := ⟨_, rfl⟩
  have hB1 : Below w.heap.size w w1 := by rw [hw1]; exact (Below.refl _ _).alloc (Nat.le_refl _) _
  have hR1 : Row w1 g 27 (cells (rep t n 0)) := by
    rw [hw1, hg]
    exact Row.new w 27 (cells (List.replicate n zero))
  have hRb : Row w1 b 27 (t.map V8) := hR.below hB1 hR.lt
  have h11 : Nat.min 1 n = 1 := Nat.min_eq_left h1
  have hrr := row_rep ht (k := 0) (m := 1) (by omega) hR1
  rw [show List.replicate 1 t = [t] from rfl] at hrr
  have ec : cells [t] = t.map V8 := by simp [cells]
  have hcp : (Builtin.copy_ #[141, 141] 3 #[.slice (some ⟨g, 0, none⟩) n n, .slice (some ⟨b, 0, none⟩) 1 1]).run Tryz.prog w1 = .ok (goInt 1) (w1.setCells g 0 (cells [t])) := by
    have h := run_copy_big (P := Tryz.prog) 32 w1 141 141 3 27 g 0 n n ⟨b, 0, none⟩ 1 1 (cells [t]) Tryz.underlying141 sizeT9 (by rw [h11, ec, List.length_map, ht]) (fun j v hj => by rw [add_off, Nat.zero_add, hRb.cell, ← ec]; exact hj) (by have := hrr.2; rwa [Nat.zero_mul] at this) (one_cells _)
    rwa [h11] at h
  obtain ⟨w2, hw2⟩ : ∃ W, W = w1.setCells g 0 (cells [t]) := ⟨_, rfl⟩
  have HR2 : Hid (Row w2 g 27 (cells (rep t n 1))) := by
    have := hrr.1
    rw [Nat.zero_mul, Nat.zero_add] at this
    show Row _ _ _ _
    rw [hw2]; exact this
  have HB2 : Hid (Below w.heap.size w w2) := by
    show RowKit.Below _ _ _
    rw [hw2]; exact below_cells (by omega) _ 0 hB1
  have Hg : Hid (w.heap.size ≤ g) := by show _ ≤ _; omega
  have Ht := Lib.hid ht
  rw [← hw1, ← hg] at hmk
  have hwu : IntKind.u64.wrap (n : Int) = (n : Int) := by simp [IntKind.wrap, IntKind.bits, IntKind.signed]; omega
  have hwi : IntKind.i64.wrap (n : Int) = (n : Int) := by rw [IntKind.wrap_i64]; omega
  have hwn : wrap64 (n : Int) = (n : Int) := w64 _ (by omega)
  clear hR hB1 hR1 hRb hrr ec hw1 ht h11 hg
  go_enter Tryz.func141, Tryz.ntmps141
  go_wp2_with (go_at_call 71; refine hm.mono ?_; rintro e w ⟨rfl, rfl⟩; clear hm)
  try rw [← hw2]
  clear hcp hw2 hmk
  go_loopw [8] (fun i wr => ∃ k : Nat, 1 ≤ k ∧ k ≤ n ∧ i = I64 k ∧ Hid (Row wr g 27 (cells (rep t n k))) ∧ Hid (RowKit.Below w.heap.size w wr)) (fun i _ => n - (RowKit.intOf i).toNat)
  case atStart => exact ⟨1, Nat.le_refl _, h1, rfl, HR2, HB2⟩
  case round =>
    obtain ⟨k, hk1, hkn, rfl, HR, HB⟩ := hrel
    clear HR2 HB2
    by_cases hlt : k < n
    · obtain ⟨q, hq⟩ : ∃ q, n - k = q := ⟨_, rfl⟩
      obtain ⟨m, hm⟩ : ∃ m, m = Nat.min k q := ⟨_, rfl⟩
      obtain ⟨s, hs⟩ : ∃ s, s = k + m := ⟨_, rfl⟩
      have hmk1 : m ≤ k := by rw [hm]; exact Nat.min_le_left _ _
      have hmq : m ≤ q := by rw [hm]; exact Nat.min_le_right _ _
      have hm1 : 1 ≤ m := by rw [hm]; exact Nat.le_min.2 ⟨hk1, by omega⟩
      have HCp : Hid (∀ W, RowKit.Below wr.heap.size wr W → (Builtin.copy_ #[141, 141] 3 #[.slice (some ⟨g, k * 32, none⟩) q q, .slice (some ⟨g, 0, none⟩) k n]).run Tryz.prog W = .ok (.int .i64 (m : Int)) (W.setCells g (k * 32) (cells (List.replicate m t))) ∧
          Row (W.setCells g (k * 32) (cells (List.replicate m t))) g 27 (cells (rep t n s)) ∧ RowKit.Below w.heap.size w (W.setCells g (k * 32) (cells (List.replicate m t)))) := fun W hW => by
        have hRW := HR.out.below hW HR.out.lt
        have hr := row_rep Ht.out (k := k) (m := m) (by omega) hRW
        have h := run_copy_big (P := Tryz.prog) 32 W 141 141 3 27 g (k * 32) q q ⟨g, 0, none⟩ k n (cells (List.replicate m t)) Tryz.underlying141 sizeT9 (by rw [cells_rep_length t Ht.out, ← hm]; omega) (fun j v hj => by
          rw [add_off, Nat.zero_add, hRW.cell, rep, cells_append]
          have hjl := (List.getElem?_eq_some_iff.1 hj).1
          rw [cells_rep_length t Ht.out] at hjl
          rw [List.getElem?_append_left (by rw [cells_rep_length t Ht.out]; omega)]
          have e : cells (List.replicate k t) = cells (List.replicate m t) ++ cells (List.replicate (k - m) t) := by rw [← cells_append, List.replicate_append_replicate, show m + (k - m) = k by omega]
          rw [e, List.getElem?_append_left (by rw [cells_rep_length t Ht.out]; omega)]
          exact hj) hr.2 (one_cells _)
        rw [← hm] at h
        rw [hs]
        exact ⟨h, hr.1, below_cells Hg.out _ _ (HB.out.trans (hW.mono HB.out.size))⟩
      have Hb1 : Hid (k ≤ n ∧ ¬ n = k) := by show _ ∧ _; omega
      have Hb2 : Hid ((0 : Int) ≤ (k : Int) ∧ (k : Int) ≤ (n : Int)) := by show _ ∧ _; omega
      have Hsum : Hid ((k : Int) + (m : Int) = (s : Int)) := by show _ = _; omega
      have Hsw : Hid (IntKind.i64.wrap (s : Int) = (s : Int)) := by show _ = _; rw [IntKind.wrap_i64]; omega
      have Hsn : Hid (k < s ∧ s ≤ n) := by show _ ∧ _; omega
      have HKeep : Hid (∀ W, RowKit.Below wr.heap.size wr W → True) := fun _ _ => trivial
      have Hq := Lib.hid hq
      clear hm hs hmk1 hmq hm1 HR HB hq
      go_wp2
      have hC : Below wr.heap.size wr wr.drew := below_drewN (Below.refl _ _) 1
      refine wp_region_held_drew (S := (fun _ => True)) (by kernel_rfl) (HKeep.out _ hC) (fun hHeld => ?_)
      generalize wr.drew = wrd at *
      refine wpAnyH_take (i := 0) (oi := ⟨some 38, _, _, _, _, _⟩) (v := ?_) rfl (by kernel_rfl) (by kernel_rfl) (by kernel_rfl) (fun _ _ _ h => h) (Or.inl ⟨by rfl, ?_⟩) hHeld ?_
      rotate_left
      · intro w hSw
        go_simp
        with_reducible rfl
      try go_frame
      refine wpAnyH_take (i := 1) (oi := ⟨some 39, _, _, _, _, _⟩) (v := ?_) rfl (by kernel_rfl) (by kernel_rfl) (by kernel_rfl) (fun _ _ _ h => h) (Or.inl ⟨by rfl, ?_⟩) hHeld ?_
      rotate_left
      · intro w hSw
        go_simp
        with_reducible rfl
      try go_frame
      refine wpAnyH_take (i := 2) (oi := ⟨some 40, _, _, _, _, _⟩) (v := ?_) rfl (by kernel_rfl) (by kernel_rfl) (by kernel_rfl) (fun _ _ _ h => h) (Or.inl ⟨by rfl, ?_⟩) hHeld ?_
      rotate_left
      · intro w hSw
        go_simp
        with_reducible rfl
      try go_frame
      refine wpAnyH_take (i := 3) (oi := ⟨some 41, _, _, _, _, _⟩) (v := ?_) rfl (by kernel_rfl) (by kernel_rfl) (by kernel_rfl) (fun _ _ _ h => h) (Or.inl ⟨by rfl, ?_⟩) hHeld ?_
      rotate_left
      · intro w hSw
        have hb1 := Hb1.out.1
        have hb3 := Hb1.out.2
        have hq := Hq.out
        go_simp
        with_reducible rfl
      try go_frame
      refine wpAnyH_take (i := 4) (oi := ⟨some 42, _, _, _, _, _⟩) (v := ?_) rfl (by kernel_rfl) (by kernel_rfl) (by kernel_rfl) (fun _ _ _ h => h) (Or.inl ⟨by rfl, ?_⟩) hHeld ?_
      rotate_left
      · intro w hSw
        go_simp
        with_reducible rfl
      try go_frame
      refine wpAnyH_take (i := 5) (oi := ⟨some 43, _, _, _, _, _⟩) (v := ?_) rfl (by kernel_rfl) (by kernel_rfl) (by kernel_rfl) (fun _ _ _ h => h) (Or.inl ⟨by rfl, ?_⟩) hHeld ?_
      rotate_left
      · intro w hSw
        go_simp
        with_reducible rfl
      try go_frame
      refine wpAnyH_take (i := 6) (oi := ⟨some 44, _, _, _, _, _⟩) (v := ?_) rfl (by kernel_rfl) (by kernel_rfl) (by kernel_rfl) (fun _ _ _ h => h) (Or.inl ⟨by rfl, ?_⟩) hHeld ?_
      rotate_left
      · intro w hSw
        have hb2 := Hb2.out
        go_simp
        with_reducible rfl
      try go_frame
      refine wpAnyH_ready (rs := [7]) (by kernel_rfl) (by simp) ?_
      refine AllReadyH.cons (o := ⟨some 45, _, _, _, _, _⟩) rfl (fun K hK => ?_) AllReadyH.nil
      rw [if_pos (by rfl)]
      refine wp_val (run_copy_op rfl rfl rfl (HCp.out _ hC).1) ?_
      have HAf := Lib.hid (HCp.out _ hC).2
      refine hK.out _ _ trivial (fun hHeld => ?_)
      clear hK K
      generalize (wrd.setCells g (k * 32) (cells (List.replicate m t))) = wz at *
      try go_frame
      refine wpAnyH_take (i := 8) (oi := ⟨some 46, _, _, _, _, _⟩) (v := ?_) rfl (by kernel_rfl) (by kernel_rfl) (by kernel_rfl) (fun _ _ _ h => h) (Or.inl ⟨by rfl, ?_⟩) hHeld ?_
      rotate_left
      · intro w hSw
        have hsum := Hsum.out
        have hsw := Hsw.out
        go_simp
        with_reducible rfl
      try go_frame
      refine wpAnyH_take (i := 9) (oi := ⟨some 8, _, _, _, _, _⟩) (v := ?_) rfl (by kernel_rfl) (by kernel_rfl) (by kernel_rfl) (fun _ _ _ h => h) (Or.inl ⟨by rfl, ?_⟩) hHeld ?_
      rotate_left
      · intro w hSw
        go_simp
        with_reducible rfl
      try go_frame
      refine wpAnyH_done (by kernel_rfl) ?_ _
      clear hC HKeep hHeld HCp
      have hkn2 := Hsn.out
      go_wp2
      go_roundw
      case rel => exact ⟨s, by omega, by omega, rfl, HAf.out.1, HAf.out.2⟩
      case measure => rw [show RowKit.intOf (.int .i64 (s : Int)) = (s : Int) from rfl, show RowKit.intOf (.int .i64 (k : Int)) = (k : Int) from rfl]; omega
    · obtain rfl : k = n := by omega
      rw [rep_all] at HR
      go_wp2
      refine bodyPost_ret (results_tmp rfl _ _ _) rfl ?_
      exact ⟨g, rfl, Hg.out, HR, HB.out⟩
end Go.Proofs.YthbmknpbcgnabaaGreatDoor.Mr
namespace Go.Proofs.YthbmknpbcgnabaaGreatDoor.Mr
open Go.RowKit Mk Mt
def zt (key : Tg) : Nat → Tg
  | 0 => zero
  | j + 1 => node key [zt key j, zt key j, zt key j, zt key j]
theorem zt_32 (key : Tg) : ∀ j, (zt key j).length = 32
  | 0 => rfl
  | _ + 1 => node_length _ _
theorem tv_zt (key : Tg) (n : Nat) : ∀ j i, tv key (List.replicate n zero) j i = zt key j
  | 0, i => by
    rw [tv, zt, List.getD_eq_getElem?_getD, List.getElem?_replicate]; split <;> rfl
  | j + 1, i => by rw [tv, zt, tv_zt key n j, tv_zt key n j, tv_zt key n j, tv_zt key n j]
theorem infoS9 : (Tryz.prog.info? 141).map (fun i => (i.zero, i.size, i.bytes)) = some (some (.slice none 0 0), 1, 24) := by kernel_rfl
theorem wpList_appS {w : World} {ops : Array Oper} {rest : List Oper} {o : Oper} {a : Act} {Q : Exit → Act → World → Prop} (hgd : o.guard = none) (s x : Operand)
    (ho : o.op = .call { callee := .builtin .append, args := #[s, x], argTypes := #[142, 142] })
    (B : Nat) (v : Value) (ys : List Value) (hs : a.eval s = v) (hown : Own w B 141 v ys) (g : Nat) (z : Value) (hx : a.eval x = .slice (some ⟨g, 0, none⟩) 1 1) (hu : Row w g 141 [z]) (h1 : z.oneCell' = true) (hl : ys.length + 1 ≤ 100000) (hB : B ≤ w.heap.size)
    (h : ∀ v' w', Own w' B 141 v' (ys ++ [z]) → w.grownBy w' v.ownBlock → (v'.ownBlock = v.ownBlock ∨ v'.ownBlock = some w.heap.size) → wpList Tryz.prog ops Q rest (a.put o.dst v') w') : wpList Tryz.prog ops Q (o :: rest) a w := by
  refine wpList_plain hgd fun K hK => ?_
  obtain ⟨i, hi, hz0, hz1, hz2⟩ := info_parts infoS9
  obtain ⟨v', w', hr, h2, h3, _, h5⟩ := run_append_own_at w B 142 o.type 141 i _ 1 24 Tryz.underlying142 hi hz0 hz1 hz2 rfl (by omega) v ys.length ys hown ⟨g, 0, none⟩ 1 1 [z] rfl (fun j u hj => by rw [add_off, Nat.zero_add, hu.cell]; exact hj) (by simpa using h1) (by simp only [maxLen]; omega) (by omega) hB
  unfold Oper.wp execOp
  simp only [ho, resolve, invoke, builtin, Sem.run_bind, Sem.run_pure, Result.andThen_ok, List.map_toArray, List.map_cons, List.map_nil, hs, hx, hr]
  refine hK _ _ (h v' w' ?_ h3 h5)
  unfold Own
  rw [List.length_append, List.length_singleton]; exact h2
theorem own_ne {w : World} {B : Nat} {e : TypeId} {v : Value} {ys : List Value} (h : Own w B e v ys) {g : Nat} {t : TypeId} {cs : List Value} (hR : Row w g t cs) (hne : t ≠ e) : some g ≠ v.ownBlock := by
  rcases h.2 with ⟨rfl, _⟩ | ⟨g', cap, cur, rfl, _, hg, _⟩
  · simp [Value.ownBlock]
  · intro e1
    have e2 : g = g' := by simpa [Value.ownBlock] using e1
    subst e2
    have h1 := hR.symm.trans hg
    injection h1 with h1
    injection h1 with _ h1
    exact hne h1
def slv (n h : Nat) (rb : Nat → Nat) (i : Nat) : Value := .slice (some ⟨rb i, 0, none⟩) (wid n h i) (wid n h i)
structure AtZ (w0 w : World) (key : Tg) (kv : Value) (n h bt : Nat) (rb : Nat → Nat) (j : Nat) (v : Value) : Prop where
  own : Own w w0.heap.size 141 v ((List.range j).map (slv n h rb))
  row : ∀ i, i < j → Row w (rb i) 27 (cells (List.replicate (wid n h i) (zt key i)))
  tag : Row w bt 27 ((zt key j).map V8)
  inc : ∀ i k, i < k → k < j → rb i < rb k
  low : ∀ i, i < j → w0.heap.size ≤ rb i
  nbt : ∀ i, i < j → rb i ≠ bt
  tab : Hm.Tab w
  arg : Arg w kv key
  bel : Below w0.heap.size w0 w
section
variable {w0 w w' : World} {key : Tg} {kv : Value} {n h bt : Nat} {rb : Nat → Nat} {j : Nat} {v v' : Value}
theorem AtZ.below (a : AtZ w0 w key kv n h bt rb j v) (hb : Below w.heap.size w w') : AtZ w0 w' key kv n h bt rb j v :=
  ⟨a.own.below hb (Nat.le_refl _), fun i hi => (a.row i hi).below hb (a.row i hi).lt, a.tag.below hb a.tag.lt, a.inc, a.low, a.nbt, a.tab.below hb, a.arg.below hb, a.bel.trans (hb.mono a.bel.size)⟩
theorem AtZ.congr (a : AtZ w0 w key kv n h bt rb j v) (rb' : Nat → Nat) (e : ∀ i, i < j → rb' i = rb i) : AtZ w0 w key kv n h bt rb' j v := by
  refine ⟨?_, fun i hi => by rw [e i hi]; exact a.row i hi, a.tag, fun i k h1 h2 => by rw [e i (by omega), e k h2]; exact a.inc i k h1 h2, fun i hi => by rw [e i hi]; exact a.low i hi, fun i hi => by rw [e i hi]; exact a.nbt i hi, a.tab, a.arg, a.bel⟩
  have h1 : (List.range j).map (slv n h rb') = (List.range j).map (slv n h rb) := List.map_congr_left fun i hi => by
    unfold slv; rw [e i (List.mem_range.1 hi)]
  rw [h1]; exact a.own
theorem AtZ.app (a : AtZ w0 w key kv n h bt rb j v) (g : Nat) (hg : Row w g 27 (cells (List.replicate (wid n h j) (zt key j)))) (hlo : w0.heap.size ≤ g) (hgb : g ≠ bt) (hgi : ∀ i, i < j → rb i < g)
    (ho : Own w' w0.heap.size 141 v' ((List.range j).map (slv n h rb) ++ [.slice (some ⟨g, 0, none⟩) (wid n h j) (wid n h j)])) (hgr : w.grownBy w' v.ownBlock) (hts : (27 : TypeId) ≠ 141)
    (hown : ∀ k, v.ownBlock = some k → w0.heap.size ≤ k) (h0 : (0 : Nat) < w0.heap.size) (harg : Arg w' kv key) :
    Own w' w0.heap.size 141 v' ((List.range (j + 1)).map (slv n h (fun i => if i = j then g else rb i))) ∧ (∀ i, i < j + 1 → Row w' ((fun i => if i = j then g else rb i) i) 27 (cells (List.replicate (wid n h i) (zt key i)))) ∧ Row w' bt 27 ((zt key j).map V8) ∧
      (∀ i k, i < k → k < j + 1 → (fun i => if i = j then g else rb i) i < (fun i => if i = j then g else rb i) k) ∧ (∀ i, i < j + 1 → w0.heap.size ≤ (fun i => if i = j then g else rb i) i) ∧ (∀ i, i < j + 1 → (fun i => if i = j then g else rb i) i ≠ bt) ∧ Hm.Tab w' ∧ Arg w' kv key ∧ Below w0.heap.size w0 w' := by
  have hkeep : ∀ {q : Nat} {t : TypeId} {cs : List Value}, Row w q t cs → t ≠ 141 → Row w' q t cs := fun hR hne => hR.grown hgr (own_ne a.own hR hne)
  refine ⟨?_, fun i hi => ?_, hkeep a.tag hts, fun i k h1 h2 => ?_, fun i hi => ?_, fun i hi => ?_, ?_, harg, a.bel.grown hgr a.bel.size (fun k hk => hown k hk)⟩
  · rw [List.range_succ, List.map_append, List.map_singleton]
    have e1 : (List.range j).map (slv n h (fun i => if i = j then g else rb i)) = (List.range j).map (slv n h rb) := List.map_congr_left fun i hi => by
      have := List.mem_range.1 hi
      unfold slv; simp only [if_neg (show ¬ i = j by omega)]
    have e2 : slv n h (fun i => if i = j then g else rb i) j = .slice (some ⟨g, 0, none⟩) (wid n h j) (wid n h j) := by unfold slv; simp
    rw [e1, e2]; exact ho
  · show Row w' (if i = j then g else rb i) _ _
    by_cases e : i = j
    · rw [if_pos e, e]; exact hkeep hg hts
    · rw [if_neg e]; exact hkeep (a.row i (by omega)) hts
  · show (if i = j then g else rb i) < (if k = j then g else rb k)
    rw [if_neg (show ¬ i = j by omega)]
    by_cases e : k = j
    · rw [if_pos e]; exact hgi i (by omega)
    · rw [if_neg e]; exact a.inc i k h1 (by omega)
  · show _ ≤ if i = j then g else rb i
    by_cases e : i = j
    · rw [if_pos e]; exact hlo
    · rw [if_neg e]; exact a.low i (by omega)
  · show (if i = j then g else rb i) ≠ bt
    by_cases e : i = j
    · rw [if_pos e]; exact hgb
    · rw [if_neg e]; exact a.nbt i (by omega)
  · refine tab_same a.tab (hgr.block _ a.tab.1 (fun e => ?_))
    have := hown _ e.symm
    omega
end
end Go.Proofs.YthbmknpbcgnabaaGreatDoor.Mr
namespace Go.Proofs.YthbmknpbcgnabaaGreatDoor.Mr
open Go.RowKit Mk Mt
theorem run_lit1 (ts : List Value) (ht : ts.length = 32) (w : World) : (Instr.buildSlice 141 1 #[(0, .agg ts.toArray)]).run Tryz.prog w = .ok (.slice (some ⟨w.heap.size, 0, none⟩) 1 1) (w.alloc (.cells ts.toArray 27)) := by
  obtain ⟨i, hi, hz0, hz1, hz2⟩ := info_parts infoT9
  refine run_buildSlice w 141 27 1 #[(0, .agg ts.toArray)] ts.toArray i _ Tryz.underlying141 hi hz0 (by rw [hz1]; decide) (by rw [hz1]; decide) ?_
  have hv : (Value.agg ts.toArray).cells = ts.toArray := rfl
  have := Great.fill_whole (s := 32) (by decide) [.agg ts.toArray] ((Array.range (1 * i.size)).map ((Value.agg Hm.Z32.toArray).cells[· % (Value.agg Hm.Z32.toArray).cells.size]!)) (fun v hv => by simp at hv; subst hv; exact ht) (by rw [hz1]; simp)
  rw [hz1] at this ⊢
  have e1 : (#[(0, Value.agg ts.toArray)] : Array (Nat × Value)).toList = ([Value.agg ts.toArray].zipIdx 0).map fun x => (x.2, x.1) := by simp
  rw [e1, this]
  simp [hv]
theorem run_four1 (ts : List Value) (ht : ts.length = 32) (w : World) : (Instr.build 198 #[(0, .agg ts.toArray), (1, .agg ts.toArray), (2, .agg ts.toArray), (3, .agg ts.toArray)]).run Tryz.prog w = .ok (.agg (ts ++ (ts ++ (ts ++ ts))).toArray) w := by
  refine run_build w 198 _ _ ?_
  have hb : ∀ parts, Tryz.prog.built 198 parts = Instr.fill (fun i => some (i * 32, 32)) Z128.toArray parts := fun parts => by kernel_rfl
  rw [hb]
  have hv : (Value.agg ts.toArray).cells = ts.toArray := rfl
  have := Great.fill_whole (s := 32) (by decide) [.agg ts.toArray, .agg ts.toArray, .agg ts.toArray, .agg ts.toArray] Z128.toArray (fun v hv => by simp at hv; subst hv; exact ht) (by rw [List.size_toArray, Z128, List.length_replicate]; rfl)
  have e1 : (#[(0, Value.agg ts.toArray), (1, Value.agg ts.toArray), (2, Value.agg ts.toArray), (3, Value.agg ts.toArray)] : Array (Nat × Value)).toList = ([Value.agg ts.toArray, .agg ts.toArray, .agg ts.toArray, .agg ts.toArray].zipIdx 0).map fun x => (x.2, x.1) := by simp
  rw [e1, this]
  simp [hv]
end Go.Proofs.YthbmknpbcgnabaaGreatDoor.Mr
