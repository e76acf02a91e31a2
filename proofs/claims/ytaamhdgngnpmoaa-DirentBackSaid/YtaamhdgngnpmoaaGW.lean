/-
  THE WALKS of Find, slices.Clone of entries, Drop.
-/
import Derived.Test.YtaamhdgngnpmoaaGQ
import Derived.Test.YtaamhdgngnpmoaaGS0
import Derived.Lib.LazyBuf
import Derived.Laws.AppendOwn
namespace Go.Proofs.Ytaamhdgngnpmoaa
open Go.RowKit Dir

instance enInh : Inhabited En := ⟨⟨[], 0⟩⟩
theorem findE_hit (s : List UInt8) : ∀ (l : List En) (r : Int), Lib.idxByFrom (fun _ (y : En) => decide (y.n = s)) default l r.toNat = (if findE s l < 0 then -1 else findE s l + r.toNat)
  | [], r => rfl
  | e :: l, r => by
    have ih := findE_hit s l (r.toNat + 1 : Nat)
    rw [Lib.idxByFrom, findE]
    by_cases h : e.n = s
    · rw [if_pos h, if_pos (by simpa using h)]
      simp
    · rw [if_neg h, if_neg (by simpa using h)]
      rw [show ((r.toNat + 1 : Nat) : Int).toNat = r.toNat + 1 by omega] at ih
      rw [ih]
      by_cases h2 : findE s l < 0
      · rw [if_pos h2, if_pos h2, if_pos (by decide)]
      · rw [if_neg h2, if_neg h2, if_neg (by omega)]
        omega
theorem findE_ge (s : List UInt8) : ∀ l : List En, -1 ≤ findE s l
  | [] => by show (-1 : Int) ≤ -1; omega
  | e :: l => by
    have := findE_ge s l
    rw [findE]
    split
    · decide
    · split <;> omega
theorem idx_findE (s : List UInt8) (l : List En) : Lib.idxBy (fun _ (y : En) => decide (y.n = s)) l default = findE s l := by
  have h := findE_hit s l 0
  have h2 := findE_ge s l
  unfold Lib.idxBy
  rw [show (0 : Nat) = (0 : Int).toNat from rfl, h]
  split <;> omega
theorem pred_name (s : List UInt8) (B : Nat) (w : World) (hB : B < w.heap.size) (hcell : w.cell? ⟨B, 0, none⟩ = some (.string (strB s))) :
    PredBelow Try.prog 31 #[.pointer (some ⟨B, 0, none⟩)] (fun e : En => .agg (cE e).toArray) (fun e => decide (e.n = s)) w := fun W x hb => by
  have hc : W.cell? ⟨B, 0, none⟩ = some (.string (strB s)) := (hb.cell (p := ⟨B, 0, none⟩) hB).trans hcell
  have hBW : B < W.heap.size := Nat.lt_of_lt_of_le hB hb.size
  have hne : B ≠ W.heap.size := by omega
  obtain ⟨n, k⟩ := x
  show Calls Try.prog 31 #[.agg #[.string (strB n), .int .i64 k], .pointer (some ⟨B, 0, none⟩)] W (fun e w' => e = .returned (.bool (decide (n = s))) ∧ Below w.heap.size w w')
  have HR : Hid (((strB n).toList == (strB s).toList) = decide (n = s)) := by
    show _ = _
    rw [strB_list, strB_list, Bool.eq_iff_iff]
    simp
  generalize decide (n = s) = R at *
  generalize strB n = sn at *
  generalize strB s = ss at *
  go_enter Try.func31, Try.ntmps31
  go_wp2
  go_ret
  exact ⟨congrArg (fun x => Ending.returned (.bool x)) HR.out, hb.alloc hb.size _⟩
set_option maxRecDepth 100000 in
set_option maxHeartbeats 1000000 in
theorem IndexF_none (A : Option Addr) (cap : Nat) (f : Value) (w : World) : Calls Try.prog 30 #[.slice A 0 cap, f] w fun e w' => e = .returned (.int .i64 (-1)) ∧ Below w.heap.size w w' := by
  go_enter Try.func30, Try.ntmps30
  go_wp2
  go_loopw [8] (fun i wr => i = .int .i64 0 ∧ wr = w) (fun _ _ => 0)
  case atStart => exact ⟨rfl, rfl⟩
  case round =>
    obtain ⟨rfl, rfl⟩ := hrel
    go_wp2
    go_ret
    exact ⟨rfl, Below.refl _ _⟩
set_option maxRecDepth 100000 in
set_option maxHeartbeats 1000000 in
theorem DiFind_any (l : List En) (s : List UInt8) (hn : l.length ≤ 1000) (v : Value) (w : World) (h : EntsAt w v l) :
    Calls Try.prog 18 #[v, .string (strB s)] w fun e w' => e = .returned (.int .i64 (findE s l)) ∧ Below w.heap.size w w' := by
  have hb1 : Below w.heap.size w (w.alloc (.cells #[.string (strB s)] 9)) := (Below.refl _ _).alloc (Nat.le_refl _) _
  have HI : Hid (Calls Try.prog 30 #[v, .func (.func 31) #[] #[.pointer (some ⟨w.heap.size, 0, none⟩)]] (w.alloc (.cells #[.string (strB s)] 9)) fun e w' => e = .returned (.int .i64 (findE s l)) ∧ Below (w.alloc (.cells #[.string (strB s)] 9)).heap.size (w.alloc (.cells #[.string (strB s)] 9)) w') := by
    obtain ⟨A, cap, rfl, hs⟩ := h.below hb1
    rcases Nat.eq_zero_or_pos l.length with h0 | hp
    · rw [h0, List.eq_nil_of_length_eq_zero h0]
      exact IndexF_none A cap _ _
    · obtain ⟨b, o, rfl, hb, hsee⟩ := hs hp
      have eg : ∀ args w, (callFunc 31 args).run Try.prog w = .ok (.enter 31 args) w := enters_of Try.func31 (by kernel_rfl) rfl
      have hcon := AnyQ.slices_IndexFunc Try.indexLay 2 Try.isAgg26 Try.sizeOf26 cE (fun _ => rfl) (fun e => decide (e.n = s)) 31 #[.pointer (some ⟨w.heap.size, 0, none⟩)] eg b o l.length cap l _ (pred_name s w.heap.size _ (by simp) (by simp)) (Nat.le_refl _) (by omega) hb (fun j hj i v hi => by
        have hx := atE hsee j hj
        have e : l[j]! = l.getD j ⟨[], 0⟩ := by rw [getElem!_pos l j hj, List.getD_eq_getElem?_getD, List.getElem?_eq_getElem hj]; rfl
        rw [e] at hi
        match i, hi with
        | 0, hi => injection hi with hi; subst hi; exact hx.1
        | 1, hi => injection hi with hi; subst hi; exact hx.2
        | i + 2, hi => simp [cE] at hi)
      rw [List.take_length, idx_findE] at hcon
      exact hcon
  have hb1 : Below w.heap.size w (w.alloc (.cells #[.string (strB s)] 9)) := (Below.refl _ _).alloc (Nat.le_refl _) _
  obtain ⟨A, cap, rfl⟩ : ∃ A cap, v = .slice A l.length cap := by obtain ⟨A, cap, e, _⟩ := h; exact ⟨A, cap, e⟩
  clear h
  generalize findE s l = R at *
  generalize l.length = n at *
  generalize strB s = ss at *
  go_enter Try.func18, Try.ntmps18
  go_wp2_with (go_at_call 30; refine HI.out.mono ?_; rintro e w' ⟨rfl, hb⟩)
  go_ret
  exact ⟨rfl, hb1.trans (hb.mono (by simp))⟩

theorem infoEn : (Try.prog.info? 26).map (fun i => (i.zero, i.size, i.bytes)) = some (some (.agg #[.string ⟨#[]⟩, .int .i64 0]), 2, 24) := by kernel_rfl
theorem cEs_one (l : List En) : ∀ u ∈ cEs l, u.oneCell' = true := fun u hu => by
  obtain ⟨e, _, he⟩ := List.mem_flatMap.1 hu
  simp only [cE, SB, List.mem_cons, List.not_mem_nil, or_false] at he
  rcases he with rfl | rfl <;> rfl
set_option maxRecDepth 100000 in
set_option maxHeartbeats 1000000 in
theorem DiCloneE_any (l : List En) (hn : l.length ≤ 1000) (v : Value) (w : World) (h : EntsAt w v l) :
    Calls Try.prog 28 #[v] w fun e w' => ∃ r, e = .returned r ∧ Hid (OwnE w' w.heap.size 26 r l) ∧ Below w.heap.size w w' := by
  obtain ⟨A, cap, rfl, hs⟩ := h
  obtain ⟨i, hi, hz0, hz1, hz2⟩ := info_parts infoEn
  obtain ⟨n, hnl⟩ : ∃ n, n = l.length := ⟨_, rfl⟩
  have HNl := Lib.hid hnl
  rw [← hnl] at hn hs ⊢
  have HS := Lib.hid hs
  have Hi := Lib.hid hi
  have Hz := Lib.hid (And.intro hz0 (And.intro hz1 hz2))
  have q22 : ∀ (w : World) (a : Option Addr) (n c n' c' : Nat), (binOp .eql 22 (.slice a n c) (.slice none n' c')).run Try.prog w = .ok (.bool a.isNone) w := fun w a n c n' c' => Lib.run_eql_slice_nil w _ _ a n c n' c' Try.underlying22
  clear hs hnl hi hz0 hz1 hz2
  cases A with
  | none =>
    have hl : l = [] := by
      apply List.eq_nil_of_length_eq_zero
      rcases Nat.eq_zero_or_pos l.length with h0 | hp
      · exact h0
      · obtain ⟨b, o, hA, _⟩ := HS.out (by rw [HNl.out]; exact hp)
        cases hA
    go_enter Try.func28, Try.ntmps28
    go_wp2
    go_ret
    rw [hl]
    exact ⟨_, rfl, OwnE.nil _ _ _, Below.refl _ _⟩
  | some ad =>
    have HNw : Hid (∀ j u, (cEs l)[j]? = some u → (w.alloc (.cells #[] 26)).cell? (ad.add j) = some u) := fun j u hj => by
      have hp : 0 < n := by
        have := (List.getElem?_eq_some_iff.1 hj).1
        rw [cEs_length, ← HNl.out] at this
        omega
      obtain ⟨b, o, hA, hb, hsee⟩ := HS.out hp
      injection hA with hA
      subst hA
      rw [add_off]
      exact hsee.alloc hb _ j u hj
    go_enter Try.func28, Try.ntmps28
    go_wp2_with (at_builtin; refine wpList_append_own _ rfl (.tmp 5) (.tmp 6) 22 rfl w.heap.size 26 i _ 2 24 Try.underlying22 Hi.out Hz.out.1 Hz.out.2.1 Hz.out.2.2 rfl (by omega) _ _ _ rfl (World.ownsRow_made w #[] 0 (Nat.le_refl _) (Nat.zero_le _) (by simp)) ad n cap (cEs l) rfl (by rw [cEs_length, HNl.out]) HNw.out (cEs_one l) (by simp only [maxLen]; omega) (by omega) (by simp) ?_; intro v2 w2 hown2 hg2 _)
    go_ret
    refine ⟨v2, rfl, ?_, ((Below.refl _ w).alloc (Nat.le_refl _) _).grown hg2 (by simp) (fun k hk => by have h : some w.heap.size = some k := hk; injection h with h; omega)⟩
    show w2.ownsRow _ _ _ _ _ _
    rw [← HNl.out]
    simpa using hown2

theorem cEs_setE (x : En) : ∀ (l : List En) (i : Nat), i < l.length → ((cEs l).set (i * 2) (SB x.n)).set (i * 2 + 1) (.int .i64 x.k) = cEs (l.set i x)
  | [], _, h => by simp at h
  | e :: l, 0, _ => rfl
  | e :: l, i + 1, h => by
    have ih := cEs_setE x l i (by simpa using h)
    rw [List.set_cons_succ]
    show ((SB e.n :: .int .i64 e.k :: cEs l).set ((i + 1) * 2) _).set ((i + 1) * 2 + 1) _ = SB e.n :: .int .i64 e.k :: cEs (l.set i x)
    rw [← ih, show (i + 1) * 2 = i * 2 + 1 + 1 by omega]
    rfl
/-- An entry stored into a row of the call's own; the row's beginning then. -/
theorem own_drop {w : World} {B : Nat} {g cap : Nat} {l : List En} (h : OwnE w B 26 (.slice (some ⟨g, 0, none⟩) l.length cap) l) (i : Nat) (hi : i < l.length) (x : En) (m : Nat) (hm : m ≤ l.length) :
    B ≤ g ∧ g < w.heap.size ∧ EntsHi ((w.setCell ⟨g, i * 2, none⟩ (SB x.n)).setCell ⟨g, i * 2 + 1, none⟩ (.int .i64 x.k)) B (.slice (some ⟨g, 0, none⟩) m cap) ((l.set i x).take m) := by
  rcases h.2 with ⟨h0, _⟩ | ⟨g', cap', cur, hv, hB, hg, hc, hcm, hsz, ht⟩
  · cases h0
  · injection hv with hv _ _
    injection hv with hv
    injection hv with hv _ _
    subst hv
    have hrow : Row w g 26 cur.toList := by rw [Row, Array.toArray_toList]; exact hg
    have h1 := (hrow.set (i * 2) (SB x.n)).set (i * 2 + 1) (.int .i64 x.k)
    have hlt := hrow.lt
    have hl : ((l.set i x).take m).length = m := by rw [List.length_take, List.length_set]; omega
    refine ⟨hB, hlt, _, cap, by rw [hl], fun hp => ⟨g, 0, rfl, hB, h1.lt, fun j u hu => ?_⟩⟩
    rw [Nat.zero_add, h1.cell]
    have e1 : (cEs (l.set i x))[j]? = some u := by
      have := (List.take_append_drop m (l.set i x))
      rw [← this]
      show (cEs _)[j]? = _
      unfold cEs at hu ⊢
      rw [List.flatMap_append, List.getElem?_append_left (List.getElem?_eq_some_iff.1 hu).1]
      exact hu
    rw [← cEs_setE x l i hi] at e1
    have hj : j < l.length * 2 := by
      have := (List.getElem?_eq_some_iff.1 e1).1
      rw [List.length_set, List.length_set, cEs_length] at this
      exact this
    have hcur : ∀ q, q < l.length * 2 → cur.toList[q]? = (cEs l)[q]? := fun q hq => by rw [← ht, List.getElem?_take, if_pos hq]
    have hcl : l.length * 2 ≤ cur.toList.length := by
      have := congrArg List.length ht
      rw [List.length_take, cEs_length] at this
      omega
    rw [← e1, List.getElem?_set, List.getElem?_set, List.getElem?_set, List.getElem?_set, hcur j hj]
    have a1 : i * 2 + 1 < cur.toList.length := by omega
    have a2 : i * 2 < cur.toList.length := by omega
    have b1 : i * 2 + 1 < (cEs l).length := by rw [cEs_length]; omega
    have b2 : i * 2 < (cEs l).length := by rw [cEs_length]; omega
    simp only [List.length_set, a1, a2, b1, b2, if_true]

theorem OwnE.parts {w : World} {B : Nat} {v : Value} {l : List En} (h : OwnE w B 26 v l) (hp : 0 < l.length) : ∃ g cap cur, v = .slice (some ⟨g, 0, none⟩) l.length cap ∧ l.length ≤ cap ∧ Row w g 26 cur ∧ l.length * 2 ≤ cur.length ∧ Sees w g 0 (cEs l) := by
  rcases h.2 with ⟨_, h0⟩ | ⟨g, cap, cur, hv, hB, hg, hc, hcm, hsz, ht⟩
  · omega
  · have hrow : Row w g 26 cur.toList := by rw [Row, Array.toArray_toList]; exact hg
    refine ⟨g, cap, cur.toList, hv, hc, hrow, ?_, ?_⟩
    · have := congrArg List.length ht
      rw [List.length_take, cEs_length] at this
      omega
    · have := hrow.sees.piece 0 (l.length * 2)
      rw [List.drop_zero, ht] at this
      exact this
theorem Row.has {w : World} {g : Nat} {t : TypeId} {cs : List Value} (h : Row w g t cs) {j : Nat} (hj : j < cs.length) : w.cell? ⟨g, j, none⟩ = some cs[j] := by rw [h.cell, List.getElem?_eq_getElem hj]

set_option maxRecDepth 100000 in
set_option maxHeartbeats 1000000 in
theorem DiDrop_any (l : List En) (i : Int) (hn : l.length ≤ 1000) (hi : -9223372036854775808 ≤ i ∧ i ≤ 9223372036854775807) (v : Value) (w : World) (h : EntsAt w v l) :
    Calls Try.prog 16 #[v, .int .i64 i] w fun e w' => ∃ r, e = .returned r ∧ Hid (EntsHi w' w.heap.size r (dropE l i)) ∧ Below w.heap.size w w' := by
  have HC := Lib.hid (DiCloneE_any l hn v w h)
  obtain ⟨A, cap, rfl⟩ : ∃ A cap, v = .slice A l.length cap := by obtain ⟨A, cap, e, _⟩ := h; exact ⟨A, cap, e⟩
  obtain ⟨D, hD⟩ : ∃ D, D = dropE l i := ⟨_, rfl⟩
  rw [← hD]
  clear h
  obtain ⟨n, hnl⟩ : ∃ n, n = l.length := ⟨_, rfl⟩
  have HNl := Lib.hid hnl
  rw [← hnl] at hn HC ⊢
  by_cases h0 : i < 0
  · have HD : Hid (D = l) := by show _ = _; rw [hD, dropE, if_neg (by omega)]
    clear hnl hD
    go_enter Try.func16, Try.ntmps16
    go_wp2_with (go_at_call 28; refine HC.out.mono ?_; rintro e w1 ⟨r, rfl, HO, hb1⟩)
    go_ret
    rw [HD.out]
    exact ⟨r, rfl, HO.out.hi, hb1⟩
  · by_cases h1 : (n : Int) - 1 < i
    · have HD : Hid (D = l) := by show _ = _; rw [hD, dropE, if_neg (by omega)]
      clear hnl hD
      go_enter Try.func16, Try.ntmps16
      go_wp2_with (go_at_call 28; refine HC.out.mono ?_; rintro e w1 ⟨r, rfl, HO, hb1⟩)
      go_ret
      rw [HD.out]
      exact ⟨r, rfl, HO.out.hi, hb1⟩
    · obtain ⟨p, rfl⟩ : ∃ p : Nat, i = (p : Int) := ⟨i.toNat, by omega⟩
      have HD : Hid (D = (l.set p (l.getD (n - 1) ⟨[], 0⟩)).take (n - 1)) := by show _ = _; rw [hD, dropE, if_pos (by omega), hnl]; rfl
      obtain ⟨m, hm⟩ : ∃ m, n = m + 1 := ⟨n - 1, by omega⟩
      subst hm
      have Hx := Lib.hid (fun (w : World) b o (h : Sees w b o (cEs l)) => atE h m (by rw [← hnl]; omega))
      rw [Nat.add_sub_cancel] at HD
      clear hnl hD
      generalize l.getD m ⟨[], 0⟩ = x at *
      obtain ⟨xn, xk⟩ := x
      have e1 : ((m + 1 : Nat) : Int) - 1 = (m : Int) := by omega
      have e2 : ((m : Int) + 1) - 1 = (m : Int) := by omega
      have hpm : (p : Int) ≤ (m : Int) := by omega
      go_enter Try.func16, Try.ntmps16
      go_wp2_with (go_at_call 28; refine HC.out.mono ?_; rintro e w1 ⟨r, rfl, HO, hb1⟩; obtain ⟨g, cp, cur, rfl, hcp, hrow, hcl, hsee⟩ := HO.out.parts (by rw [← HNl.out]; omega); rw [← HNl.out] at HO hcp hcl ⊢; obtain ⟨cx, cy⟩ := Hx.out _ _ _ hsee; rw [Nat.zero_add] at cx cy; unfold SB at cx; have f0 := hrow.free (p * 2); have f1 := hrow.free (p * 2 + 1); have c0 := hrow.has (show p * 2 < cur.length by omega); have c1 := hrow.has (show p * 2 + 1 < cur.length by omega); clear hsee Hx)
      go_ret
      have hO := HO.out
      rw [HNl.out] at hO
      have hd := own_drop hO p (by rw [← HNl.out]; omega) ⟨xn, xk⟩ m (by rw [← HNl.out]; omega)
      refine ⟨_, rfl, ?_, (hb1.setCell (p := ⟨g, p * 2, none⟩) hd.1 _).setCell (p := ⟨g, p * 2 + 1, none⟩) hd.1 _⟩
      rw [HD.out]
      exact hd.2.2
end Go.Proofs.Ytaamhdgngnpmoaa
