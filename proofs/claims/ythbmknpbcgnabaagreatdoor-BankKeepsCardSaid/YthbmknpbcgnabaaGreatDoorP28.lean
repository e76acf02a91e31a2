/-
  OF THE WALK: MrNSB, MrNCA.
-/
import Derived.Test.YthbmknpbcgnabaaGreatDoorP27
namespace Go.Proofs.YthbmknpbcgnabaaGreatDoor.Mr
open Go.RowKit Mk Mt
theorem cells_off {g g2 o2 : Nat} : ∀ {w : World} (vs : List Value) (o : Nat), g ≠ g2 → (w.setCells g2 o vs).cell? ⟨g, o2, none⟩ = w.cell? ⟨g, o2, none⟩
  | _, [], _, _ => rfl
  | w, v :: r, o, h => by
    rw [World.setCells, cells_off r (o + 1) h]
    exact World.cell?_of_block (heap_setCell_other w ⟨g2, o, none⟩ g v h)
theorem size_cells {g : Nat} : ∀ {w : World} (vs : List Value) (o : Nat), (w.setCells g o vs).heap.size = w.heap.size
  | _, [], _ => rfl
  | w, v :: r, o => by
    rw [World.setCells, size_cells r (o + 1)]
    simp [World.setCell]
theorem block_off {g g2 : Nat} : ∀ {w : World} (vs : List Value) (o : Nat), g ≠ g2 → (w.setCells g2 o vs).heap[g]? = w.heap[g]?
  | _, [], _, _ => rfl
  | w, v :: r, o, h => by
    rw [World.setCells, block_off r (o + 1) h]
    exact heap_setCell_other w ⟨g2, o, none⟩ g v h
theorem run_update_op {P : Program} {w w' : World} {a : Act} {o : Oper} {t : TypeId} {m k x : Operand} {mv kv xv : Value} (ho : o.op = .mapUpdate t m k x) (hm : a.eval m = mv) (hk : a.eval k = kv) (hx : a.eval x = xv) (hr : (Instr.mapUpdate t mv kv xv).run P w = .ok () w') :
    (execOp a.eval o).run P w = .ok .skip w' := by
  simp [execOp, ho, hm, hk, hx, hr, Result.andThen]
theorem wpList_skip {P : Program} {ops : Array Oper} {Q : Exit → Act → World → Prop} {o : Oper} {rest : List Oper} {a : Act} {w w' : World} (hg : o.guard = none)
    (hr : (execOp a.eval o).run P w = .ok .skip w') (h : wpList P ops Q rest (a.put o.dst undef) w') : wpList P ops Q (o :: rest) a w :=
  wpList_plain hg fun K hK => by unfold Oper.wp; rw [hr]; exact hK _ _ h
theorem NodesAt.add {w : World} {b : Nat} {ks : List Nd} (h : NodesAt w b ks) (x : Nd) (h1 : x.1 ≤ 1000000) (h2 : x.2 ≤ 1000000) :
    ∃ w' ks', (Instr.mapUpdate 143 (.map (some b)) (.agg #[I64 x.1, I64 x.2]) (.agg #[])).run Tryz.prog w = .ok () w' ∧ Chg (fun q _ => q = b) w w' ∧ NodesAt w' b ks' ∧ ∀ p, p ∈ ks' ↔ p ∈ ks ∨ p = x := by
  obtain ⟨l, hl⟩ := node_key (x.1 : Int) (x.2 : Int) (by omega) (by omega) (by omega) (by omega)
  obtain ⟨w', hr, hc, _, ⟨_, h3⟩ | ⟨hin, h3⟩⟩ := SetAt.add node_keyed h Tryz.underlying143 hl
  · refine ⟨w', ks ++ [x], hr, hc, ?_, fun p => by rw [List.mem_append, List.mem_singleton]⟩
    unfold NodesAt
    rw [List.map_append]
    exact h3
  · refine ⟨w', ks, hr, hc, h3, fun p => ⟨.inl, ?_⟩⟩
    rintro (hp | rfl)
    · exact hp
    · obtain ⟨y, hy, hye⟩ := List.mem_map.1 hin
      rwa [← eN_inj hye]
structure AtS (w1 wr : World) (MB : Nat) (ks : List Nd) (i lv c : Nat) (ks' : List Nd) : Prop where
  map : NodesAt wr MB ks'
  mem : ∀ p, p ∈ ks' ↔ p ∈ ks ∨ (1 ≤ p.1 ∧ p.1 < lv ∧ p.2 = i / 4 ^ p.1)
  at_ : c = i / 4 ^ (lv - 1)
  chg : Chg (fun q _ => q = MB) w1 wr
section
variable {w w' : World} {F : Nat → Prop} {D : Nat} {key : Tg} {L : List Tg} {S : List Bool} {V h : Nat} {kv : Value} {KB RB rc MB : Nat} {rb : Nat → Nat} {rw : Nat → List Tg} {ks : List Nd}
theorem set_bad (a : TA w F D key L S V h kv KB RB rc MB rb rw ks) (d : Int) (hd : d < 0 ∨ (L.length : Int) ≤ d) (t : Tg) (ts : List Value) (hv : Vec 32 t ts) : Calls Tryz.prog 35 #[.pointer (some ⟨D, 0, none⟩), .int .i64 d, .agg ts.toArray] w fun e w' =>
    e = .returned (.int .i64 1) ∧ Below w.heap.size w w' := by
  have hh := has_any (a.below ((Below.refl _ _).alloc (Nat.le_refl _) (.cells ts.toArray 27))) d
  rw [decide_eq_false (fun h => by omega)] at hh
  have hs32 := hv.size
  have HB : Hid (Below w.heap.size w (w.alloc (.cells ts.toArray 27))) := (Below.refl _ _).alloc (Nat.le_refl _) _
  clear a hv
  go_enter Tryz.func35, Tryz.ntmps35
  go_wp2_with (go_at_call 72; refine hh.mono ?_; rintro e w' ⟨rfl, rfl⟩)
  go_ret
  exact ⟨rfl, HB.out⟩
set_option maxRecDepth 100000 in
set_option maxHeartbeats 1000000 in
theorem set_ok (a : TA w F D key L S V h kv KB RB rc MB rb rw ks) (i : Nat) (hi : i < L.length) (t : Tg) (ts : List Value) (hv : Vec 32 t ts) : Calls Tryz.prog 35 #[.pointer (some ⟨D, 0, none⟩), I64 i, .agg ts.toArray] w fun e w' =>
    e = .returned (.int .i64 0) ∧ AfterT T9 w F w' D key (L.set i t) (S.set i true) V := by
  have hz := Nat.zero_le h
  have hwi := a.wide
  have hlow := a.low i hi
  have HA := Lib.hid a
  have hs32 := hv.size
  obtain ⟨bt, hbt⟩ : ∃ bt, bt = w.heap.size := ⟨_, rfl⟩
  obtain ⟨wb, hwb⟩ : ∃ wb, wb = w.alloc (.cells ts.toArray 27) := ⟨_, rfl⟩
  have hB0 : Below w.heap.size w wb := by rw [hwb]; exact (Below.refl _ _).alloc (Nat.le_refl _) _
  have hRt : Row wb bt 27 ts := by rw [hwb, hbt]; exact Row.new w 27 ts
  have a0 := a.below hB0
  have hh := has_any a0 (i : Int)
  rw [decide_eq_true (show 0 ≤ (i : Int) ∧ (i : Int) < (L.length : Int) by omega)] at hh
  obtain ⟨_, _, c2, c3, _⟩ := a0.fits
  obtain ⟨wd, hwd⟩ : ∃ wd, wd = wid L.length h 0 := ⟨_, rfl⟩
  obtain ⟨r0, hr0⟩ : ∃ r0, r0 = rb 0 := ⟨_, rfl⟩
  have hrow := a0.row 0 hz
  have r00 := a0.rows 0 hz
  have h32 := a.r32 0 hz
  rw [← hr0] at hrow r00
  rw [← hwd] at r00
  have Hv := Lib.hid hv
  have Hbt := Lib.hid hbt
  have hlr : r0 < w.heap.size := by rw [hr0]; exact a.lt _ (a.Fr 0 hz)
  have HDr : Hid (D ≠ r0) := fun e => a.rD 0 hz (by rw [← hr0, ← e])
  have HRr : Hid (RB ≠ r0) := fun e => a.rR 0 hz (by rw [← hr0, ← e])
  have Hbr : Hid (bt ≠ r0) := by show _ ≠ _; omega
  have Hr0 := Lib.hid hr0
  have Hiw : Hid (0 ≤ (i : Int) ∧ (i : Int) < (wd : Int)) := by
    have hwi1 := hwi.1
    rw [← hwd] at hwi1
    show _ ∧ _
    omega
  have HKeep : Hid (∀ W, Below wb.heap.size wb W → W.cell? ⟨D, 2, none⟩ = some (.slice (some ⟨RB, 0, none⟩) (h + 1) rc) ∧ W.cell? ⟨RB, 0, none⟩ = some (.slice (some ⟨r0, 0, none⟩) wd wd) ∧ Row W bt 27 ts) := fun W hW =>
    ⟨(hW.cell (p := ⟨D, 2, none⟩) (a0.lt _ a0.FD)).trans c2, (hW.cell (p := ⟨RB, 0, none⟩) (a0.lt _ a0.FR)).trans r00, hRt.below hW hRt.lt⟩
  have HThere : Hid (∀ W, Below wb.heap.size wb W → W.there r0 (i * 32) ts.toArray.size) := fun W hW => by
    rw [hs32]; exact (row_set (hrow.below hW hrow.lt) h32 i hlow.2 t hv.2).2
  have HSt : Hid (∀ W, Below wb.heap.size wb W → Row (W.setCells r0 (i * 32) ts) r0 27 (cells ((rw 0).set i t)) ∧ NodesAt (W.setCells r0 (i * 32) ts) MB ks ∧ Chg (fun q _ => F q) w (W.setCells r0 (i * 32) ts) ∧ (∀ q, F q → q ≠ r0 → (W.setCells r0 (i * 32) ts).heap[q]? = w.heap[q]?)) := fun W hW => by
    have hr1 := row_set (hrow.below hW hrow.lt) h32 i hlow.2 t hv.2
    rw [← hv.1] at hr1
    have hBW : Below w.heap.size w W := hB0.trans (hW.mono hB0.size)
    have hlen : ts.length = 32 := hv.len
    have hb : ∀ q, q < w.heap.size → q ≠ r0 → (W.setCells r0 (i * 32) ts).heap[q]? = w.heap[q]? := fun q hq hn => (block_off ts (i * 32) hn).trans (hBW.block q hq)
    exact ⟨hr1.1, a.map.same (hb MB (a.lt _ a.FM) (fun e => a.rM 0 hz (by rw [← hr0, e]))), (Chg.below hBW _).setCells (fun _ _ _ => by show F _; rw [hr0]; exact a.Fr 0 hz) (by rw [hlen]; exact hr1.2), fun q hq hn => hb q (a.lt q hq) hn⟩
  have HMDR : Hid (MB ≠ D ∧ MB ≠ RB ∧ D < w.heap.size ∧ F MB ∧ h ≤ 4 ∧ i ≤ 100) := ⟨fun e => a.DM e.symm, a.MR, a.lt _ a.FD, a.FM, hwi.2.2, by have := a.few; omega⟩
  have Hhi := Lib.hid hi
  have Hwd := Lib.hid hwd
  have HC23 : Hid (w.cell? ⟨D, 2, none⟩ = some (.slice (some ⟨RB, 0, none⟩) (h + 1) rc) ∧ w.cell? ⟨D, 3, none⟩ = some (.map (some MB))) := ⟨a.fits.2.2.1, a.fits.2.2.2.1⟩
  clear hv hbt hB0 hRt a0 hrow r00 h32 hlow hwi hi a hr0 hwd hz c2 c3
  go_enter Tryz.func35, Tryz.ntmps35
  go_wp2_with (go_at_call 72; rw [← hwb]; clear hwb; refine hh.mono ?_; rintro e wb ⟨rfl, rfl⟩; clear hh)
  rw [← Hbt.out]
  have hC : Below wb.heap.size wb wb.drew := below_drewN (Below.refl _ _) 1
  refine wp_region_held_drew (S := (fun W => W.cell? ⟨D, 2, none⟩ = some (.slice (some ⟨RB, 0, none⟩) (h + 1) rc) ∧ W.cell? ⟨RB, 0, none⟩ = some (.slice (some ⟨r0, 0, none⟩) wd wd) ∧ Row W bt 27 ts)) (by kernel_rfl) (HKeep.out _ hC) (fun hHeld => ?_)
  generalize wb.drew = wbd at *
  refine wpAnyH_take (i := 0) (oi := ⟨some 12, _, _, _, _, _⟩) (v := ?_) rfl (by kernel_rfl) (by kernel_rfl) (by kernel_rfl) (fun _ _ _ h => h) (Or.inl ⟨by rfl, ?_⟩) hHeld ?_
  rotate_left
  · intro w hSw
    go_simp
    with_reducible rfl
  try go_frame
  refine wpAnyH_take (i := 1) (oi := ⟨some 13, _, _, _, _, _⟩) (v := ?_) rfl (by kernel_rfl) (by kernel_rfl) (by kernel_rfl) (fun _ _ _ h => h) (Or.inl ⟨by rfl, ?_⟩) hHeld ?_
  rotate_left
  · intro w hSw
    go_simp
    with_reducible rfl
  try go_frame
  refine wpAnyH_take (i := 2) (oi := ⟨some 14, _, _, _, _, _⟩) (v := ?_) rfl (by kernel_rfl) (by kernel_rfl) (by kernel_rfl) (fun _ _ _ h => h) (Or.inl ⟨by rfl, ?_⟩) hHeld ?_
  rotate_left
  · intro w hSw
    go_simp
    with_reducible rfl
  try go_frame
  refine wpAnyH_take (i := 3) (oi := ⟨some 15, _, _, _, _, _⟩) (v := ?_) rfl (by kernel_rfl) (by kernel_rfl) (by kernel_rfl) (fun _ _ _ h => h) (Or.inl ⟨by rfl, ?_⟩) hHeld ?_
  rotate_left
  · intro w hSw
    have s1 := hSw.1
    go_simp
    with_reducible rfl
  try go_frame
  refine wpAnyH_take (i := 4) (oi := ⟨some 16, _, _, _, _, _⟩) (v := ?_) rfl (by kernel_rfl) (by kernel_rfl) (by kernel_rfl) (fun _ _ _ h => h) (Or.inl ⟨by rfl, ?_⟩) hHeld ?_
  rotate_left
  · intro w hSw
    go_simp
    with_reducible rfl
  try go_frame
  refine wpAnyH_take (i := 5) (oi := ⟨some 17, _, _, _, _, _⟩) (v := ?_) rfl (by kernel_rfl) (by kernel_rfl) (by kernel_rfl) (fun _ _ _ h => h) (Or.inl ⟨by rfl, ?_⟩) hHeld ?_
  rotate_left
  · intro w hSw
    have s2 := hSw.2.1
    go_simp
    with_reducible rfl
  try go_frame
  refine wpAnyH_take (i := 6) (oi := ⟨some 18, _, _, _, _, _⟩) (v := ?_) rfl (by kernel_rfl) (by kernel_rfl) (by kernel_rfl) (fun _ _ _ h => h) (Or.inl ⟨by rfl, ?_⟩) hHeld ?_
  rotate_left
  · intro w hSw
    go_simp
    with_reducible rfl
  try go_frame
  refine wpAnyH_take (i := 7) (oi := ⟨some 19, _, _, _, _, _⟩) (v := .agg (ts).toArray) rfl (by kernel_rfl) (by kernel_rfl) (by kernel_rfl) (fun _ _ _ h => h) (yieldsIf_load_mid (by rfl) 27 (.tmp 5) rfl (bt) (0) rfl (ts) _ (fun W h => h.2.2.sees) Tryz.underlying27 rfl (by rw [Hv.out.len]; kernel_rfl)) hHeld ?_
  try go_frame
  refine wpAnyH_take (i := 8) (oi := ⟨some 20, _, _, _, _, _⟩) (v := ?_) rfl (by kernel_rfl) (by kernel_rfl) (by kernel_rfl) (fun _ _ _ h => h) (Or.inl ⟨by rfl, ?_⟩) hHeld ?_
  rotate_left
  · intro w hSw
    have hiw := Hiw.out
    go_simp
    with_reducible rfl
  try go_frame
  refine wpAnyH_ready (rs := [9]) (by kernel_rfl) (by simp) ?_
  refine AllReadyH.cons (o := ⟨none, _, _, _, _, _⟩) rfl (fun K hK => ?_) AllReadyH.nil
  rw [if_pos (by rfl)]
  refine Go.wp_store_mid 27 (.tmp 20) (.tmp 19) rfl (r0) (i * 32) ts.toArray rfl rfl (HThere.out _ hC) (by rw [Hv.out.size]; kernel_rfl) Hv.out.one ?_
  rw [List.toList_toArray]
  have HAf := Lib.hid (HSt.out _ hC)
  have hX := HKeep.out _ hC
  refine hK.out _ _ ⟨(cells_off ts (i * 32) HDr.out).trans hX.1, (cells_off ts (i * 32) HRr.out).trans hX.2.1, row_apart hX.2.2 Hbr.out ts (i * 32)⟩ (fun hHeld => ?_)
  clear hK K hX
  generalize (wbd.setCells r0 (i * 32) ts) = w1 at *
  try go_frame
  refine wpAnyH_done (by kernel_rfl) ?_ _
  clear hC HKeep hHeld HSt HThere
  go_wp2
  have HS0 : Hid (AtS w1 w1 MB ks i 1 i ks) := ⟨HAf.out.2.1, fun p => ⟨.inl, fun h => h.elim id (fun x => absurd x.2.1 (by omega))⟩, by simp, Chg.refl _ _⟩
  have HD1 : Hid (D < w1.heap.size) := by show _ < _; have h1 := HMDR.out.2.2.1; have h2 := HAf.out.2.2.1.size; omega
  have HCw : Hid (w1.cell? ⟨D, 2, none⟩ = some (.slice (some ⟨RB, 0, none⟩) (h + 1) rc) ∧ w1.cell? ⟨D, 3, none⟩ = some (.map (some MB))) := by
    have hb := HAf.out.2.2.2 D HA.out.FD HDr.out
    exact ⟨(World.cell?_of_block hb).trans HC23.out.1, (World.cell?_of_block hb).trans HC23.out.2⟩
  have h1 : 1 ≤ h := HA.out.wide.2.1
  go_loopw [1, 7] (fun p q wr => ∃ (lv c : Nat) (ks' : List Nd), 1 ≤ lv ∧ lv ≤ h + 1 ∧ p = I64 c ∧ q = I64 lv ∧ c ≤ 100 ∧ Hid (AtS w1 wr MB ks i lv c ks')) (fun _ q _ => h + 1 - (RowKit.intOf q).toNat)
  case atStart => exact ⟨1, i, ks, by omega, by omega, rfl, rfl, HMDR.out.2.2.2.2.2, HS0⟩
  case round =>
    obtain ⟨lv, c, ks', hl1, hlh, rfl, rfl, hc100, HR⟩ := hrel
    clear HS0
    have c2 : wr.cell? ⟨D, 2, none⟩ = some (.slice (some ⟨RB, 0, none⟩) (h + 1) rc) := (HR.out.chg.cell D 2 HD1.out (fun e => HMDR.out.1 e.symm)).trans HCw.out.1
    have c3 : wr.cell? ⟨D, 3, none⟩ = some (.map (some MB)) := (HR.out.chg.cell D 3 HD1.out (fun e => HMDR.out.1 e.symm)).trans HCw.out.2
    have h4 : h ≤ 4 := HMDR.out.2.2.2.2.1
    by_cases hlt : lv < h + 1
    · obtain ⟨c', hc'⟩ : ∃ c', c' = c / 4 := ⟨_, rfl⟩
      have hcq : (c : Int) / 4 = (c' : Int) := by omega
      obtain ⟨w3, ks3, hr, hch, hmap, hmem⟩ := HR.out.map.add (lv, c') (by show lv ≤ _; omega) (by show c' ≤ _; omega)
      have HN : Hid (AtS w1 w3 MB ks i (lv + 1) c' ks3) := by
        refine ⟨hmap, fun p => ?_, ?_, HR.out.chg.then hch⟩
        · rw [hmem, HR.out.mem]
          have e1 : i / 4 ^ lv = c' := by
            rw [hc', HR.out.at_, Nat.div_div_eq_div_mul, ← Nat.pow_succ, show (lv - 1).succ = lv by omega]
          constructor
          · rintro ((x | ⟨x, y, z⟩) | rfl)
            · exact .inl x
            · exact .inr ⟨x, by omega, z⟩
            · exact .inr ⟨hl1, Nat.lt_succ_self _, e1.symm⟩
          · rintro (x | ⟨x, y, z⟩)
            · exact .inl (.inl x)
            · by_cases e : p.1 = lv
              · right
                exact Prod.ext e (by rw [z, e, e1])
              · exact .inl (.inr ⟨x, by omega, z⟩)
        · rw [hc', HR.out.at_, Nat.div_div_eq_div_mul, ← Nat.pow_succ, show (lv - 1).succ = lv + 1 - 1 by omega]
      have hc2 : c' ≤ 100 := by omega
      clear hc' hch hmap hmem HR
      go_wp2_with (refine wpList_skip rfl (run_update_op rfl rfl rfl rfl hr) ?_)
      go_roundw
      case rel => exact ⟨lv + 1, c', ks3, by omega, by omega, rfl, by go_num, hc2, HN⟩
      case measure => rw [show RowKit.intOf (.int .i64 ((lv : Int) + 1)) = (lv : Int) + 1 from rfl, show RowKit.intOf (.int .i64 (lv : Int)) = (lv : Int) from rfl]; omega
    · obtain rfl : lv = h + 1 := by omega
      clear hc100
      go_wp2
      refine bodyPost_ret (results_tmp rfl _ _ _) rfl ?_
      refine ⟨rfl, F, ⟨h, kv, KB, RB, rc, MB, rb, rwS rw i t, ks', ?_⟩, fun k hk => .inl hk, ?_⟩
      · have hx := HAf.out
        refine HA.out.setRow i Hhi.out t Hv.out.2 (Nat.le_trans hx.2.2.1.size HR.out.chg.size) (fun k hk h0 hm => ?_) ?_ ks' HR.out.map (fun p => ?_)
        · exact (HR.out.chg.block k (Nat.lt_of_lt_of_le (HA.out.lt k hk) hx.2.2.1.size) (fun _ e => hm e)).trans (hx.2.2.2 k hk (by rw [Hr0.out]; exact h0))
        · rw [← Hr0.out]
          exact hx.1.same (HR.out.chg.block r0 hx.1.lt (fun _ e => HA.out.rM 0 (Nat.zero_le _) (by rw [← Hr0.out, e])))
        · rw [HR.out.mem]
          constructor
          · rintro (x | ⟨x, y, z⟩)
            · exact .inl x
            · exact .inr ⟨x, by omega, z⟩
          · rintro (x | ⟨x, y, z⟩)
            · exact .inl x
            · exact .inr ⟨x, by omega, z⟩
      · exact HAf.out.2.2.1.trans HR.out.chg fun b _ _ e => by rw [e]; exact HA.out.FM
end
end Go.Proofs.YthbmknpbcgnabaaGreatDoor.Mr
namespace Go.Proofs.YthbmknpbcgnabaaGreatDoor.Mr
open Go.RowKit Mk Mt
structure AtR (w0 w : World) (F : Nat → Prop) (D : Nat) (key : Tg) (L : List Tg) (h : Nat) (kv : Value) (RB rc MB : Nat) (rb : Nat → Nat) (rw : Nat → List Tg) (V : Nat) (todo : List Nd) : Prop where
  tree : Row w D 145 [kv, I64 L.length, .slice (some ⟨RB, 0, none⟩) (h + 1) rc, .map (some MB), I64 V]
  row : ∀ j, j ≤ h → Row w (rb j) 27 (cells (rw j))
  len : ∀ j, j ≤ h → (rw j).length = wid L.length h j
  r32 : ∀ j, j ≤ h → ∀ t ∈ rw j, t.length = 32
  val : ∀ j i, j ≤ h → i < wid L.length h j → (j = 0 ∨ (j, i) ∉ todo) → (rw j).getD i [] = tv key L j i
  same : ∀ k, F k → k ≠ D → (∀ j, j ≤ h → k ≠ rb j) → w.heap[k]? = w0.heap[k]?
  chg : Chg (fun k _ => F k) w0 w
section
variable {w0 w w' : World} {F : Nat → Prop} {D : Nat} {key : Tg} {L : List Tg} {S : List Bool} {V V0 h : Nat} {kv : Value} {KB RB rc MB : Nat} {rb : Nat → Nat} {rw rw0 : Nat → List Tg} {ks todo : List Nd}
theorem AtR.below (a : TA w0 F D key L S V0 h kv KB RB rc MB rb rw0 ks) (r : AtR w0 w F D key L h kv RB rc MB rb rw V todo) (hb : Below w.heap.size w w') : AtR w0 w' F D key L h kv RB rc MB rb rw V todo where
  tree := r.tree.below hb r.tree.lt
  row := fun j hj => (r.row j hj).below hb (r.row j hj).lt
  len := r.len
  r32 := r.r32
  val := r.val
  same := fun k hk h1 h2 => (hb.block k (Nat.lt_of_lt_of_le (a.lt k hk) r.chg.size)).trans (r.same k hk h1 h2)
  chg := r.chg.then (Chg.below hb _)
theorem AtR.begin (a : TA w F D key L S V h kv KB RB rc MB rb rw ks) : AtR w w F D key L h kv RB rc MB rb rw V ks :=
  ⟨a.tree, a.row, a.len, a.r32, a.val, fun _ _ _ _ => rfl, Chg.refl _ _⟩
theorem AtR.more {todo' : List Nd} (r : AtR w0 w F D key L h kv RB rc MB rb rw V todo) (ht : ∀ p, p ∈ todo → p ∈ todo') : AtR w0 w F D key L h kv RB rc MB rb rw V todo' :=
  { r with val := fun j i hj hi hn => r.val j i hj hi (hn.imp id fun h1 h2 => h1 (ht _ h2)) }
theorem AtR.akey (a : TA w0 F D key L S V0 h kv KB RB rc MB rb rw0 ks) (r : AtR w0 w F D key L h kv RB rc MB rb rw V todo) : Arg w kv key :=
  a.akey w r.chg.size (r.same KB a.FK (fun e => a.DK e.symm) (fun j hj e => a.rK j hj e.symm))
theorem AtR.slot (a : TA w0 F D key L S V0 h kv KB RB rc MB rb rw0 ks) (r : AtR w0 w F D key L h kv RB rc MB rb rw V todo) (j : Nat) (hj : j ≤ h) : w.cell? ⟨RB, j, none⟩ = some (.slice (some ⟨rb j, 0, none⟩) (wid L.length h j) (wid L.length h j)) :=
  (World.cell?_of_block (r.same RB a.FR (fun e => a.DR e.symm) (fun j hj e => a.rR j hj e.symm))).trans (a.rows j hj)
theorem AtR.fits (r : AtR w0 w F D key L h kv RB rc MB rb rw V todo) : w.cell? ⟨D, 0, none⟩ = some kv ∧ w.cell? ⟨D, 2, none⟩ = some (.slice (some ⟨RB, 0, none⟩) (h + 1) rc) ∧ w.cell? ⟨D, 3, none⟩ = some (.map (some MB)) ∧ w.cell? ⟨D, 4, none⟩ = some (I64 V) := by
  have h1 := r.tree.cell
  exact ⟨by rw [h1]; rfl, by rw [h1]; rfl, by rw [h1]; rfl, by rw [h1]; rfl⟩
theorem AtR.map (a : TA w0 F D key L S V0 h kv KB RB rc MB rb rw0 ks) (r : AtR w0 w F D key L h kv RB rc MB rb rw V todo) : NodesAt w MB ks :=
  a.map.same (r.same MB a.FM (fun e => a.DM e.symm) (fun j hj e => a.rM j hj e.symm))
def four (key : Tg) (L : List Tg) (j i : Nat) : List Tg := [tv key L j (4 * i), tv key L j (4 * i + 1), tv key L j (4 * i + 2), tv key L j (4 * i + 3)]
theorem AtR.kids (a : TA w0 F D key L S V0 h kv KB RB rc MB rb rw0 ks) (r : AtR w0 w F D key L h kv RB rc MB rb rw V todo) (jm i : Nat) (hx : (jm + 1, i) ∈ ks) (hlo : ∀ p ∈ todo, jm + 1 ≤ p.1) :
    jm + 1 ≤ h ∧ i < wid L.length h (jm + 1) ∧ 4 * i + 4 ≤ wid L.length h jm ∧ w.rangeAt (rb jm) (4 * i * 32) (cells (four key L jm i)) ∧ (∀ t ∈ four key L jm i, t.length = 32) := by
  have hk := (a.mem _).1 hx
  have hlt := isK_lt hk
  have hjh : jm + 1 ≤ h := hk.2.1
  rw [a.hS] at hlt
  have hw : wid L.length h jm = 4 * up L.length (jm + 1) := by rw [wid, if_pos (by omega)]
  have hi4 : 4 * i + 4 ≤ wid L.length h jm := by rw [hw]; simp only at hlt; omega
  have hi1 : i < wid L.length h (jm + 1) := by
    rw [wid]
    split
    · have := up_pos L.length a.pos (jm + 2)
      rw [show jm + 1 + 1 = jm + 2 by omega]
      have e : up L.length (jm + 2) = (up L.length (jm + 1) + 3) / 4 := rfl
      simp only at hlt
      omega
    · have e : jm + 1 = h := by omega
      have := up_top a.pos a.hh
      rw [← e] at this
      simp only at hlt
      omega
  have hjm : jm ≤ h := by omega
  have hv : ∀ c, c < 4 → (rw jm).getD (4 * i + c) [] = tv key L jm (4 * i + c) := fun c hc => r.val jm _ hjm (by omega) (.inr fun hin => by have := hlo _ hin; simp only at this; omega)
  have e4 := four_of ([] : Tg) (rw jm) (4 * i) (by rw [r.len jm hjm]; exact hi4)
  have h0 := hv 0 (by omega)
  rw [Nat.add_zero] at h0
  rw [h0, hv 1 (by omega), hv 2 (by omega), hv 3 (by omega)] at e4
  have hp := cells_piece (rw jm) (r.r32 jm hjm) (4 * i) 4 (by rw [r.len jm hjm]; exact hi4)
  rw [e4, Nat.mul_comm 32 (4 * i)] at hp
  refine ⟨hjh, hi1, hi4, (r.row jm hjm).piece (4 * i * 32) _ hp, fun t ht => ?_⟩
  have : t ∈ rw jm := by
    have h2 : t ∈ ((rw jm).drop (4 * i)).take 4 := by rw [e4]; exact ht
    exact List.mem_of_mem_drop (List.mem_of_mem_take h2)
  exact r.r32 jm hjm t this
theorem node_four (key : Tg) (L : List Tg) (j i : Nat) : node key (four key L j i) = tv key L (j + 1) i := rfl
def rwN (rw : Nat → List Tg) (key : Tg) (L : List Tg) (x : Nd) (j : Nat) : List Tg := if j = x.1 then (rw x.1).set x.2 (tv key L x.1 x.2) else rw j
theorem AtR.step (a : TA w0 F D key L S V0 h kv KB RB rc MB rb rw0 ks) (r : AtR w0 w F D key L h kv RB rc MB rb rw V (todo)) (x : Nd) (rest : List Nd) (ht : ∀ p, p ∈ todo → p = x ∨ p ∈ rest) (hxh : x.1 ≤ h) (hxi : x.2 < wid L.length h x.1) (V' : Nat)
    (hR : Row w' (rb x.1) 27 (cells ((rw x.1).set x.2 (tv key L x.1 x.2)))) (hD : Row w' D 145 [kv, I64 L.length, .slice (some ⟨RB, 0, none⟩) (h + 1) rc, .map (some MB), I64 V'])
    (hb : ∀ k, k < w.heap.size → k ≠ D → k ≠ rb x.1 → w'.heap[k]? = w.heap[k]?) (hc : Chg (fun k _ => F k) w w') : AtR w0 w' F D key L h kv RB rc MB rb (rwN rw key L x) V' rest := by
  have hl := r.len x.1 hxh
  refine ⟨hD, fun j hj => ?_, fun j hj => ?_, fun j hj => ?_, fun j i hj hi hn => ?_, fun k hk h1 h2 => ?_, r.chg.then hc⟩
  · unfold rwN
    by_cases e : j = x.1
    · rw [if_pos e, e]; exact hR
    · rw [if_neg e]
      exact (r.row j hj).same (hb _ (r.row j hj).lt (a.rD j hj) (fun e2 => e (a.inj j x.1 hj hxh e2)))
  · unfold rwN
    by_cases e : j = x.1
    · rw [if_pos e, List.length_set, e]; exact hl
    · rw [if_neg e]; exact r.len j hj
  · unfold rwN
    by_cases e : j = x.1
    · rw [if_pos e]; exact set_32 (r.r32 x.1 hxh) x.2 (tv_32 key L a.h32 _ _)
    · rw [if_neg e]; exact r.r32 j hj
  · unfold rwN
    by_cases e : j = x.1
    · subst e
      rw [if_pos rfl, getD_set _ _ _ _ _ (by rw [hl]; exact hxi)]
      by_cases e2 : i = x.2
      · rw [if_pos e2, e2]
      · rw [if_neg e2]
        refine r.val _ i hj hi (hn.imp id fun h1 h2 => ?_)
        rcases ht _ h2 with h3 | h3
        · exact e2 (congrArg Prod.snd h3)
        · exact h1 h3
    · rw [if_neg e]
      refine r.val j i hj hi (hn.imp id fun h1 h2 => ?_)
      rcases ht _ h2 with h3 | h3
      · exact e (congrArg Prod.fst h3)
      · exact h1 h3
  · have hkw : k < w.heap.size := Nat.lt_of_lt_of_le (a.lt k hk) r.chg.size
    exact (hb k hkw h1 (h2 _ hxh)).trans (r.same k hk h1 h2)
end
end Go.Proofs.YthbmknpbcgnabaaGreatDoor.Mr
