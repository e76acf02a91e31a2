/-
  OF THE WALK: MrNGE, MrNGF, MrNZ.
-/
import Derived.Test.YthbmknpbcgnabaaGreatDoorP31
namespace Go.Proofs.YthbmknpbcgnabaaGreatDoor.Mr
open Go.RowKit Mk Mt
theorem tag_rows : (27 : TypeId) ≠ 141 := by decide
theorem run_lit_op {P : Program} {w w' : World} {a : Act} {o : Oper} {t : TypeId} {x : Operand} {v r : Value} (ho : o.op = .buildSlice t 1 #[(0, x)]) (hx : a.eval x = v) (hr : (Instr.buildSlice t 1 #[(0, v)]).run P w = .ok r w') : (execOp a.eval o).run P w = .ok (.value r) w' := by
  have hp : ((#[(0, x)] : Array (Nat × Operand)).map fun (i, x) => (i, a.eval x)) = #[(0, v)] := by simp [hx]
  unfold execOp
  simp only [ho, Sem.run_bind, Sem.run_pure, Result.andThen_ok, hp, hr]
theorem run_four_op {P : Program} {w w' : World} {a : Act} {o : Oper} {t : TypeId} {x0 x1 x2 x3 : Operand} {v r : Value} (ho : o.op = .build t #[(0, x0), (1, x1), (2, x2), (3, x3)]) (h0 : a.eval x0 = v) (h1 : a.eval x1 = v) (h2 : a.eval x2 = v) (h3 : a.eval x3 = v)
    (hr : (Instr.build t #[(0, v), (1, v), (2, v), (3, v)]).run P w = .ok r w') : (execOp a.eval o).run P w = .ok (.value r) w' := by
  have hp : ((#[(0, x0), (1, x1), (2, x2), (3, x3)] : Array (Nat × Operand)).map fun (i, x) => (i, a.eval x)) = #[(0, v), (1, v), (2, v), (3, v)] := by simp [h0, h1, h2, h3]
  unfold execOp
  simp only [ho, Sem.run_bind, Sem.run_pure, Result.andThen_ok, hp, hr]
def AtP (w0 w : World) (key : Tg) (kv : Value) (n h bt : Nat) (rb : Nat → Nat) (j : Nat) (v : Value) : Prop :=
  Own w w0.heap.size 141 v ((List.range (j + 1)).map (slv n h rb)) ∧ (∀ i, i < j + 1 → Row w (rb i) 27 (cells (List.replicate (wid n h i) (zt key i)))) ∧ Row w bt 27 ((zt key j).map V8) ∧
      (∀ i k, i < k → k < j + 1 → rb i < rb k) ∧ (∀ i, i < j + 1 → w0.heap.size ≤ rb i) ∧ (∀ i, i < j + 1 → rb i ≠ bt) ∧ Hm.Tab w ∧ Arg w kv key ∧ Below w0.heap.size w0 w
theorem AtP.tagged {w0 w w' : World} {key : Tg} {kv : Value} {n h bt : Nat} {rb : Nat → Nat} {j : Nat} {v : Value} (p : AtP w0 w key kv n h bt rb j v) (hb : Below w.heap.size w w') (hbt : w0.heap.size ≤ bt) (h0 : (0 : Nat) < w0.heap.size) (hA : Arg w0 kv key) (rs : List Value) (hr : rs = (zt key (j + 1)).map V8) :
    AtZ w0 (w'.setRow bt rs.toArray) key kv n h bt rb (j + 1) v := by
  obtain ⟨p1, p2, p3, p4, p5, p6, p7, p8, p9⟩ := p
  have hB : Below w0.heap.size w0 (w'.setRow bt rs.toArray) := below_setRow' (p9.trans (hb.mono p9.size)) hbt _
  have p1' := p1.below hb (Nat.le_refl _)
  have p3' := p3.below hb p3.lt
  refine ⟨?_, fun i hi => ((p2 i hi).below hb (p2 i hi).lt).wholeOff (p6 i hi) _, ?_, p4, p5, p6, tab_same (p7.below hb) (setRow_other w' bt _ _ (by omega)), hA.below hB, hB⟩
  · exact p1'.kept (row := some bt) (by_setRow (World.grownBy.refl w' _) (.inl rfl) _) (.inr fun e => own_ne p1' p3' tag_rows e.symm)
  · rw [← hr]; exact p3'.whole rs
structure LaidZ (w w' : World) (key : Tg) (n h RB : Nat) (rb : Nat → Nat) : Prop where
  lo : w.heap.size ≤ RB
  lt : RB < w'.heap.size
  slot : ∀ j, j ≤ h → w'.cell? ⟨RB, j, none⟩ = some (slv n h rb j)
  row : ∀ j, j ≤ h → Row w' (rb j) 27 (cells (List.replicate (wid n h j) (zt key j)))
  inc : ∀ i k, i < k → k ≤ h → rb i < rb k
  low : ∀ j, j ≤ h → w.heap.size ≤ rb j
  ne : ∀ j, j ≤ h → rb j ≠ RB
theorem AtP.laid {w0 w : World} {key : Tg} {kv : Value} {n h bt : Nat} {rb : Nat → Nat} {v : Value} (p : AtP w0 w key kv n h bt rb h v) : ∃ RB rc, v = .slice (some ⟨RB, 0, none⟩) (h + 1) rc ∧ LaidZ w0 w key n h RB rb := by
  obtain ⟨p1, p2, p3, p4, p5, p6, p7, p8, p9⟩ := p
  have hlen : ((List.range (h + 1)).map (slv n h rb)).length = h + 1 := by simp
  obtain ⟨g, cap, hv, hlo, hlt, hs⟩ := p1.form (by rw [hlen]; exact Nat.succ_pos _)
  rw [hlen] at hv
  refine ⟨g, cap, hv, hlo, hlt, fun j hj => ?_, fun j hj => p2 j (by omega), fun i k h1 h2 => p4 i k h1 (by omega), fun j hj => p5 j (by omega), fun j hj e => ?_⟩
  · have := hs j (slv n h rb j) (by rw [List.getElem?_map, List.getElem?_range (by omega)]; rfl)
    rwa [Nat.zero_add] at this
  · have h2 := own_ne p1 (p2 j (by omega)) tag_rows
    rw [hv] at h2
    exact h2 (by rw [e]; rfl)
set_option maxRecDepth 100000 in
set_option maxHeartbeats 8000000 in
theorem rowsZ_any (key : Tg) (kv : Value) (n : Nat) (w : World) (hk : key.length ≤ 1000) (hn1 : 1 ≤ n) (hn : n ≤ 100) (h : Nat) (hh : IsH n h) (hT : Hm.Tab w) (hA : Arg w kv key) : Calls Tryz.prog 121 #[kv, I64 n] w fun e w' =>
    ∃ RB rc rb, e = .returned (.slice (some ⟨RB, 0, none⟩) (h + 1) rc) ∧ Hid (LaidZ w w' key n h RB rb) ∧ Below w.heap.size w w' := by
  have hz := Hm.zeroTag
  obtain ⟨bt, hbt⟩ : ∃ b, b = w.heap.size := ⟨_, rfl⟩
  obtain ⟨w1, hw1⟩ : ∃ W, W = w.alloc (.cells Hm.Z32.toArray 27) := ⟨_, rfl⟩
  have hB1 : Below w.heap.size w w1 := by rw [hw1]; exact (Below.refl _ _).alloc (Nat.le_refl _) _
  have hR1 : Row w1 bt 27 Hm.Z32 := by rw [hw1, hbt]; exact Row.new w 27 Hm.Z32
  have hht := height_holds (n : Int) w1 (by omega)
  have HT := Lib.hid hT
  have HA := Lib.hid hA
  have HB1 := Lib.hid hB1
  have HR1 := Lib.hid hR1
  have Hh := Lib.hid hh
  have Hk := Lib.hid hk
  have Hn : Hid (1 ≤ n ∧ n ≤ 100) := ⟨hn1, hn⟩
  have Hbt := Lib.hid hbt
  clear hT hA hB1 hR1 hh hk hn1 hn hbt
  go_enter Tryz.func121, Tryz.ntmps121
  go_wp2_with (go_at_call 140; rw [← hw1]; clear hw1; refine hht.mono ?_; rintro e w2 ⟨⟨h', Hh', _, rfl⟩, hb2⟩; have HB2 := Lib.hid hb2; obtain rfl : h' = h := Hh'.out.unique Hh.out; clear hht hb2 Hh')
  rw [← Hbt.out]
  have HI0 : Hid (AtZ w w2 key kv n h' bt (fun _ => 0) 0 (.slice none 0 0)) := by
    have hB := HB1.out.trans (HB2.out.mono HB1.out.size)
    exact ⟨Own.nil _ _ _, fun i hi => absurd hi (Nat.not_lt_zero _), HR1.out.below HB2.out HR1.out.lt, fun i k _ hk => absurd hk (Nat.not_lt_zero _), fun i hi => absurd hi (Nat.not_lt_zero _), fun i hi => absurd hi (Nat.not_lt_zero _), HT.out.below hB, HA.out.below hB, hB⟩
  have h4 := (isH_four Hn.out.2 Hh.out).2
  have hn100 := Hn.out.2
  clear HR1 HB2 hz
  go_loopw [5, 7, 11] (fun v f i wr => ∃ (j u : Nat) (rb : Nat → Nat), j ≤ h' ∧ f = I64 u ∧ i = I64 j ∧ u ≤ 100 ∧ Hid (u = up n j) ∧ Hid (AtZ w wr key kv n h' bt rb j v)) (fun _ _ i _ => h' - (RowKit.intOf i).toNat)
  case atStart => exact ⟨0, n, fun _ => 0, Nat.zero_le _, rfl, rfl, hn100, rfl, HI0⟩
  case round =>
    obtain ⟨j, u, rb, hj, rfl, rfl, hu, HU, HI⟩ := hrel
    clear HI0
    obtain ⟨ts, hts⟩ : ∃ ts, ts = (zt key j).map V8 := ⟨_, rfl⟩
    have Hv : Hid (Vec 32 (zt key j) ts) := ⟨hts, zt_32 key j⟩
    have Htl : Hid (ts.length = 32) := Hv.out.len
    have Hld : Hid (wr.rangeAt bt 0 ts) := by
      have := HI.out.tag.sees
      rw [← hts] at this
      exact this
    have Hlit := Lib.hid (run_lit1 ts Hv.out.len)
    have Hfour := Lib.hid (run_four1 ts Hv.out.len)
    obtain ⟨wA, hwA⟩ : ∃ W, W = wr.alloc (.cells ts.toArray 27) := ⟨_, rfl⟩
    have HBA : Hid (Below wr.heap.size wr wA) := by show Below _ _ _; rw [hwA]; exact (Below.refl _ _).alloc (Nat.le_refl _) _
    have HRA : Hid (Row wA wr.heap.size 27 ts) := by show Row _ _ _ _; rw [hwA]; exact Row.new wr 27 ts
    have HsA : Hid (wA.heap.size = wr.heap.size + 1) := by show _ = _; rw [hwA]; simp
    by_cases hlt : j < h'
    · obtain ⟨u', hu'⟩ : ∃ u', u' = (u + 3) / 4 := ⟨_, rfl⟩
      obtain ⟨N, hN⟩ : ∃ N, N = 4 * u' := ⟨_, rfl⟩
      have HN : Hid (N = wid n h' j) := by show _ = _; rw [wid, if_pos hlt, hN, hu', HU.out]; rfl
      have HU' : Hid (u' = up n (j + 1)) := by show _ = _; rw [hu', HU.out]; rfl
      have hpos : 1 ≤ u' := by rw [HU'.out]; exact up_pos n Hn.out.1 (j + 1)
      have hrep := repeat_any (zt key j) (zt_32 key j) wr.heap.size N (by omega) (by omega) wA (by rw [← hts]; exact HRA.out)
      have hu3 : ((u : Int) + 4 - 1) / 4 = (u' : Int) := by omega
      have hu4 : (4 : Int) * (u' : Int) = (N : Int) := by omega
      have hu100 : u' ≤ 100 := by omega
      have hN400 : N ≤ 400 := by omega
      have Hts := Lib.hid hts
      clear hu' hN hts
      have H432 : Hid (∀ t ∈ [zt key j, zt key j, zt key j, zt key j], t.length = 32) := fun t ht => by
        simp only [List.mem_cons, List.not_mem_nil, or_false, or_self] at ht
        rw [ht]; exact zt_32 key j
      have Hflat : Hid (ts ++ (ts ++ (ts ++ ts)) = [zt key j, zt key j, zt key j, zt key j].flatten.map V8) := by show _ = _; rw [Hts.out]; simp
      have H0 : Hid ((0 : Nat) < w.heap.size) := HT.out.1
      have Hbtle : Hid (w.heap.size ≤ bt) := by show _ ≤ _; rw [Hbt.out]; exact Nat.le_refl _
      go_wp2_with (first
        | (refine wpList_load_mid rfl 27 (.tmp 6) rfl bt 0 rfl ts _ Hld.out Tryz.underlying27 rfl (by rw [Htl.out]; kernel_rfl) ?_)
        | (refine wpList_val rfl (run_lit_op (t := 141) (x := .tmp 18) (v := .agg ts.toArray) rfl rfl (Hlit.out _)) ?_)
        | (go_at_call 141; rw [← hwA]; clear hwA; refine hrep.mono ?_; rintro e w3 ⟨g, rfl, hlo, HRg, hb3⟩
           have HB3 : Hid (Below wr.heap.size wr w3) := HBA.out.trans (hb3.mono HBA.out.size)
           have Hlo : Hid (wr.heap.size < g) := by show _ < _; have := HsA.out; omega
           have HB4 : Hid (Below wr.heap.size wr (w3.alloc (.cells #[.slice (some ⟨g, 0, none⟩) N N] 141))) := HB3.out.alloc HB3.out.size _
           have HZ4 := Lib.hid (HI.out.below HB4.out)
           have HRg4 : Hid (Row (w3.alloc (.cells #[.slice (some ⟨g, 0, none⟩) N N] 141)) g 27 (cells (List.replicate (wid n h' j) (zt key j)))) := by show Row _ _ _ _; rw [← HN.out]; exact HRg.out.alloc _
           clear hrep hb3 hlo)
        | (at_builtin; refine wpList_appS rfl (.tmp 17) (.tmp 23) rfl w.heap.size u5 _ rfl HZ4.out.own w3.heap.size (.slice (some ⟨g, 0, none⟩) N N) rfl (Row.new w3 141 [.slice (some ⟨g, 0, none⟩) N N]) rfl (by simp; omega) HZ4.out.bel.size ?_; intro v' w5 hO hgr _
           have hown : ∀ k, Value.ownBlock u5 = some k → w.heap.size ≤ k := fun k hk => (HZ4.out.own.lt hk).1
           have hB5 : Below w.heap.size w w5 := HZ4.out.bel.grown hgr HZ4.out.bel.size (fun k hk => hown k hk)
           have HP : Hid (AtP w w5 key kv n h' bt (fun i => if i = j then g else rb i) j v') := HZ4.out.app g HRg4.out (by have := HI.out.bel.size; have := Hlo.out; omega) (by have := HI.out.tag.lt; have := Hlo.out; omega) (fun i hi => by have := (HI.out.row i hi).lt; have := Hlo.out; omega) (by rw [← HN.out]; exact hO) hgr tag_rows hown H0.out (HA.out.below hB5)
           have HldP : Hid (w5.rangeAt bt 0 ts) := by
             have := HP.out.2.2.1.sees
             rw [← Hts.out] at this
             exact this
           clear hO hgr hown hB5)
        | (refine wpList_load_mid rfl 27 (.tmp 6) rfl bt 0 rfl ts _ HldP.out Tryz.underlying27 rfl (by rw [Htl.out]; kernel_rfl) ?_)
        | (refine wpList_val rfl (run_four_op (t := 198) (x0 := .tmp 26) (x1 := .tmp 27) (x2 := .tmp 28) (x3 := .tmp 29) (v := .agg ts.toArray) rfl rfl rfl rfl rfl (Hfour.out _)) ?_)
        | (go_at_call 110; refine (node_holds key [zt key j, zt key j, zt key j, zt key j] kv (ts ++ (ts ++ (ts ++ ts))) w5 Hk.out rfl H432.out Hflat.out HP.out.2.2.2.2.2.2.1 HP.out.2.2.2.2.2.2.2.1).mono ?_; rintro e w6 ⟨⟨rs, Hrs, rfl⟩, hb6⟩
           have HB6 := Lib.hid hb6
           have HR6 : Hid (Row w6 bt 27 ((zt key j).map V8)) := HP.out.2.2.1.below hb6 HP.out.2.2.1.lt
           clear hb6)
        | (refine wpList_store_row rfl 27 (.tmp 6) (.tmp 31) rfl bt rs.toArray rfl rfl 27 _ HR6.out (by rw [Hrs.out.size]; kernel_rfl) (by rw [Hrs.out.size, List.size_toArray, List.length_map, zt_32]) Hrs.out.one ?_))
      have HN5 := Lib.hid (HP.out.tagged HB6.out Hbtle.out H0.out HA.out rs Hrs.out.1)
      go_roundw
      case rel => exact ⟨j + 1, u', _, by omega, rfl, by go_num, hu100, HU', HN5⟩
      case measure => rw [show RowKit.intOf (.int .i64 ((j : Int) + 1)) = (j : Int) + 1 from rfl, show RowKit.intOf (.int .i64 (j : Int)) = (j : Int) from rfl]; omega
    · obtain rfl : j = h' := by omega
      obtain ⟨w4, hw4⟩ : ∃ W, W = wA.alloc (.cells #[.slice (some ⟨wr.heap.size, 0, none⟩) 1 1] 141) := ⟨_, rfl⟩
      have HB4 : Hid (Below wr.heap.size wr w4) := by show Below _ _ _; rw [hw4]; exact HBA.out.alloc HBA.out.size _
      have HX4 : Hid (Row w4 (wr.heap.size + 1) 141 [.slice (some ⟨wr.heap.size, 0, none⟩) 1 1]) := by show Row _ _ _ _; rw [hw4]; exact Row.newAt 141 [.slice (some ⟨wr.heap.size, 0, none⟩) 1 1] HsA.out
      have HZ4 := Lib.hid (HI.out.below HB4.out)
      have Hwd : Hid (wid n j j = 1) := by show _ = _; rw [wid, if_neg (Nat.lt_irrefl _)]
      have HRg4 : Hid (Row w4 wr.heap.size 27 (cells (List.replicate (wid n j j) (zt key j)))) := by
        show Row _ _ _ _
        rw [Hwd.out, show cells (List.replicate 1 (zt key j)) = ts by rw [hts]; simp [cells], hw4]
        exact HRA.out.alloc _
      have H0 : Hid ((0 : Nat) < w.heap.size) := HT.out.1
      clear hts hlt
      go_wp2_with (first
        | (refine wpList_load_mid rfl 27 (.tmp 6) rfl bt 0 rfl ts _ Hld.out Tryz.underlying27 rfl (by rw [Htl.out]; kernel_rfl) ?_)
        | (refine wpList_val rfl (run_lit_op (t := 141) (x := .tmp 34) (v := .agg ts.toArray) rfl rfl (Hlit.out _)) ?_)
        | (at_builtin; rw [← hwA, ← hw4]; clear hwA hw4; refine wpList_appS rfl (.tmp 33) (.tmp 36) rfl w.heap.size u5 _ rfl HZ4.out.own (wr.heap.size + 1) (.slice (some ⟨wr.heap.size, 0, none⟩) 1 1) rfl HX4.out rfl (by simp; omega) HZ4.out.bel.size ?_; intro v' w5 hO hgr _
           have hown : ∀ k, Value.ownBlock u5 = some k → w.heap.size ≤ k := fun k hk => (HZ4.out.own.lt hk).1
           have hB5 : Below w.heap.size w w5 := HZ4.out.bel.grown hgr HZ4.out.bel.size (fun k hk => hown k hk)
           have HP : Hid (AtP w w5 key kv n j bt (fun i => if i = j then wr.heap.size else rb i) j v') := HZ4.out.app wr.heap.size HRg4.out HI.out.bel.size (fun e => by have := HI.out.tag.lt; omega) (fun i hi => (HI.out.row i hi).lt) (by rw [Hwd.out]; exact hO) hgr tag_rows hown H0.out (HA.out.below hB5)
           clear hO hgr hown hB5))
      obtain ⟨RB, rc, e, hL⟩ := HP.out.laid
      have HL := Lib.hid hL
      clear hL
      subst e
      go_wp2
      refine bodyPost_ret (results_tmp rfl _ _ _) rfl ?_
      exact ⟨RB, rc, _, rfl, HL, HP.out.2.2.2.2.2.2.2.2⟩
end Go.Proofs.YthbmknpbcgnabaaGreatDoor.Mr
namespace Go.Proofs.YthbmknpbcgnabaaGreatDoor.Mr
open Go.RowKit Mk Mt
theorem Cl.form {w w' : World} {v : Value} {key : Tg} (h : Cl w w' v key) : ∃ A n c, v = .slice A n c := by
  rcases h with ⟨_, A, e⟩ | ⟨KB, _, _, h⟩
  · exact ⟨_, _, _, e⟩
  · obtain ⟨A, c, e⟩ := (h w' (Nat.le_refl _) rfl).form
    exact ⟨_, _, _, e⟩
theorem new_bad (v : Value) (n : Int) (w : World) (hn : n < 1 ∨ 512 < n) : Calls Tryz.prog 89 #[v, .int .i64 n] w fun e w' => e = .returned (.tuple #[.pointer none, .int .i64 1]) ∧ Below w.heap.size w w' := by
  rcases hn with h1 | h1
  · go_enter Tryz.func89, Tryz.ntmps89
    go_wp2
    refine bodyPost_ret (results_tmp2 rfl _ _ _) rfl ?_
    exact ⟨rfl, Below.refl _ _⟩
  · have h2 : ¬ n < 1 := by omega
    go_enter Tryz.func89, Tryz.ntmps89
    go_wp2
    refine bodyPost_ret (results_tmp2 rfl _ _ _) rfl ?_
    exact ⟨rfl, Below.refl _ _⟩
theorem new_tree {w w1 w2 w4 : World} {key : Tg} {v' : Value} {n h RB rc : Nat} {rb : Nat → Nat} (hk : key.length ≤ 1000) (h1 : 1 ≤ n) (hn : n ≤ 100) (hh : IsH n h) (hc : Cl w w1 v' key) (hs1 : w.heap.size ≤ w1.heap.size) (hb2 : Below w1.heap.size w1 w2) (hL : LaidZ w1 w2 key n h RB rb)
    (hw4 : w4 = (w2.alloc (.map #[] 0)).alloc (.cells #[v', I64 n, .slice (some ⟨RB, 0, none⟩) (h + 1) rc, .map (some w2.heap.size), I64 0] 145)) :
    ∃ F : Nat → Prop, T9 w4 F (w2.heap.size + 1) key (List.replicate n zero) (List.replicate n false) 0 ∧ ∀ k, F k → w.heap.size ≤ k := by
  have hB4 : Below w2.heap.size w2 w4 := by rw [hw4]; exact ((Below.refl _ _).alloc (Nat.le_refl _) _).alloc (by simp) _
  have hs4 : w4.heap.size = w2.heap.size + 2 := by rw [hw4]; simp
  have hs2 := hb2.size
  have hD : Row w4 (w2.heap.size + 1) 145 [v', I64 n, .slice (some ⟨RB, 0, none⟩) (h + 1) rc, .map (some w2.heap.size), I64 0] := by
    rw [hw4]; exact Row.newAt 145 [v', I64 n, .slice (some ⟨RB, 0, none⟩) (h + 1) rc, .map (some w2.heap.size), I64 0] (by simp)
  have hM : NodesAt w4 w2.heap.size [] := by
    have hm : NodesAt (w2.alloc (.map #[] 0)) w2.heap.size [] := setAt_new Tryz.prog 148 U0 w2
    rw [hw4]
    exact hm.same (Below.heap_alloc _ _ _ (by simp))
  obtain ⟨KB, hKlo, hKlt, hKa, hKr⟩ : ∃ KB, w.heap.size ≤ KB ∧ KB < w2.heap.size ∧ (∀ w5 : World, w4.heap.size ≤ w5.heap.size → w5.heap[KB]? = w4.heap[KB]? → Arg w5 v' key) ∧ ∀ j, j ≤ h → rb j ≠ KB := by
    rcases hc with ⟨rfl, A, rfl⟩ | ⟨KB, k1, k2, k3⟩
    · exact ⟨RB, Nat.le_trans hs1 hL.lo, hL.lt, fun _ _ _ => .inl ⟨A, rfl, rfl⟩, hL.ne⟩
    · refine ⟨KB, k1, Nat.lt_of_lt_of_le k2 hs2, fun w5 h5 hb5 => k3 w5 (by omega) (hb5.trans ((hB4.block KB (Nat.lt_of_lt_of_le k2 hs2)).trans (hb2.block KB k2))), fun j hj e => ?_⟩
      have := hL.low j hj
      omega
  have hrlt : ∀ j, j ≤ h → rb j < w2.heap.size := fun j hj => (hL.row j hj).lt
  have hlen : (List.replicate n zero : List Tg).length = n := List.length_replicate
  refine ⟨fun k => k = w2.heap.size + 1 ∨ k = w2.heap.size ∨ k = RB ∨ k = KB ∨ ∃ j, j ≤ h ∧ k = rb j, ⟨h, v', KB, RB, rc, w2.heap.size, rb, fun j => List.replicate (wid n h j) (zt key j), [], ?_⟩, ?_⟩
  · refine { hh := by rw [hlen]; exact hh, hS := by rw [hlen]; exact List.length_replicate, pos := by rw [hlen]; exact h1, few := by rw [hlen]; exact hn, h32 := fun t ht => by rw [List.eq_of_mem_replicate ht]; rfl, hk := hk, tree := by rw [hlen]; exact hD, akey := fun w5 h5 hb5 => hKa w5 h5 hb5,
             rows := fun j hj => ?_, row := fun j hj => (hL.row j hj).below hB4 (hrlt j hj), len := fun j hj => by rw [hlen]; exact List.length_replicate, r32 := fun j hj t ht => by rw [List.eq_of_mem_replicate ht]; exact zt_32 key j, val := fun j i hj hi _ => ?_, map := hM, mem := fun p => ⟨fun h => (by cases h), fun h => absurd h (isK_no _ _ _)⟩,
             inj := fun i j hi hj e => ?_, rD := fun j hj => by have := hrlt j hj; omega, rR := hL.ne, rM := fun j hj => by have := hrlt j hj; omega, rK := hKr, DR := by have := hL.lt; omega, DM := by omega, DK := by omega, MR := by have := hL.lt; omega, MK := by omega,
             FD := .inl rfl, FR := .inr (.inr (.inl rfl)), FM := .inr (.inl rfl), FK := .inr (.inr (.inr (.inl rfl))), Fr := fun j hj => .inr (.inr (.inr (.inr ⟨j, hj, rfl⟩))), lt := fun k hk => ?_ }
    · rw [hlen]
      exact (hB4.cell (p := ⟨RB, j, none⟩) hL.lt).trans (hL.slot j hj)
    · rw [hlen] at hi
      rw [tv_zt, List.getD_eq_getElem?_getD, List.getElem?_replicate, if_pos hi]; rfl
    · rcases Nat.lt_trichotomy i j with h2 | h2 | h2
      · have := hL.inc i j h2 hj; omega
      · exact h2
      · have := hL.inc j i h2 hi; omega
    · rcases hk with rfl | rfl | rfl | rfl | ⟨j, hj, rfl⟩
      · omega
      · omega
      · have := hL.lt; omega
      · omega
      · have := hrlt j hj; omega
  · rintro k (rfl | rfl | rfl | rfl | ⟨j, hj, rfl⟩)
    · omega
    · omega
    · have := hL.lo; omega
    · exact hKlo
    · have := hL.low j hj; omega
set_option maxRecDepth 100000 in
set_option maxHeartbeats 1000000 in
theorem new_ok (key : Tg) (v : Value) (n : Nat) (w : World) (hk : key.length ≤ 1000) (h1 : 1 ≤ n) (hn : n ≤ 100) (hT : Hm.Tab w) (hA : Arg w v key) : Calls Tryz.prog 89 #[v, I64 n] w fun e w' =>
    ∃ D F, e = .returned (.tuple #[.pointer (some ⟨D, 0, none⟩), .int .i64 0]) ∧ T9 w' F D key (List.replicate n zero) (List.replicate n false) 0 ∧ (∀ k, F k → w.heap.size ≤ k) ∧ Below w.heap.size w w' := by
  obtain ⟨h, hh⟩ := isH_ex n hn
  have hcl := clone_any key v w hk hA
  have HR : Hid (∀ W, Below w.heap.size w W → Calls Tryz.prog 121 #[v, I64 n] W fun e w' => ∃ RB rc rb, e = .returned (.slice (some ⟨RB, 0, none⟩) (h + 1) rc) ∧ Hid (LaidZ W w' key n h RB rb) ∧ Below W.heap.size W w') := fun W hW => rowsZ_any key v n W hk h1 hn h hh (hT.below hW) (hA.below hW)
  have Hh := Lib.hid hh
  have Hk := Lib.hid hk
  have Hn : Hid (1 ≤ n ∧ n ≤ 100) := ⟨h1, hn⟩
  have hmm := @run_makeMap Tryz.prog
  clear hh hk hT hA
  go_enter Tryz.func89, Tryz.ntmps89
  go_wp2_with (first
    | (go_at_call 88; refine hcl.mono ?_; rintro e w1 ⟨v', rfl, HC, hb1⟩; have HB1 := Lib.hid hb1; obtain ⟨A', n', c', rfl⟩ := HC.out.form; clear hcl hb1)
    | (go_at_call 121; refine (HR.out w1 HB1.out).mono ?_; rintro e w2 ⟨RB, rc, rb, rfl, HL, hb2⟩; have HB2 := Lib.hid hb2; clear hb2))
  obtain ⟨w4, hw4⟩ : ∃ W, W = (w2.alloc (.map #[] 0)).alloc (.cells #[.slice A' n' c', I64 n, .slice (some ⟨RB, 0, none⟩) (h + 1) rc, .map (some w2.heap.size), I64 0] 145) := ⟨_, rfl⟩
  have hB4 : Below w2.heap.size w2 w4 := by rw [hw4]; exact ((Below.refl _ _).alloc (Nat.le_refl _) _).alloc (by simp) _
  obtain ⟨F, hT, hF⟩ := new_tree Hk.out Hn.out.1 Hn.out.2 Hh.out HC.out HB1.out.size HB2.out HL.out hw4
  have hB := (HB1.out.trans (HB2.out.mono HB1.out.size)).trans (hB4.mono (Nat.le_trans HB1.out.size HB2.out.size))
  refine bodyPost_ret (results_tmp2 rfl _ _ _) rfl ?_
  rw [hw4] at hT hB
  exact ⟨w2.heap.size + 1, F, rfl, hT, hF, hB⟩
end Go.Proofs.YthbmknpbcgnabaaGreatDoor.Mr
namespace Go.Proofs.YthbmknpbcgnabaaGreatDoor.Mr
open Go.RowKit Mk Mt
theorem treeAll : TreeC T9 where
  lt := fun ⟨_, _, _, _, _, _, _, _, _, a⟩ => a.lt
  len := fun ⟨_, _, _, _, _, _, _, _, _, a⟩ => ⟨a.hS, a.pos, a.few, a.h32⟩
  stay := fun ⟨h, kv, KB, RB, rc, MB, rb, rw, ks, a⟩ hc hn => ⟨h, kv, KB, RB, rc, MB, rb, rw, ks, a.stay hc hn⟩
  newBad := fun _ v n w _ hn _ _ => new_bad v n w hn
  newOk := fun key v n w hk h1 hn hT hA => new_ok key v n w hk h1 hn hT hA
  setOk := fun ⟨_, _, _, _, _, _, _, _, _, a⟩ i t ts hi hv => set_ok a i hi t ts hv
  setBad := fun ⟨_, _, _, _, _, _, _, _, _, a⟩ d t ts hd hv => set_bad a d hd t ts hv
  getOk := fun ⟨_, _, _, _, _, _, _, _, _, a⟩ i hi => get_ok a i hi
  getBad := fun ⟨_, _, _, _, _, _, _, _, _, a⟩ d hd => get_bad a d hd

  places := fun ⟨_, _, _, _, _, _, _, _, _, a⟩ => (places_any a).mono fun e w' ⟨he, hw⟩ => ⟨he, by rw [hw]; exact Below.refl _ _⟩
  root := fun ⟨_, _, _, _, _, _, _, _, _, a⟩ hT hF hV h hh => by
    have e := a.hh.unique hh
    subst e
    exact root_any a hT hF hV
end Go.Proofs.YthbmknpbcgnabaaGreatDoor.Mr
