/-
  THE WALK of Open.
-/
import Derived.Test.YtfodblgoamkgmaaDoorSE
import Derived.Laws.StructEq
namespace Go.Proofs.YtfodblgoamkgmaaDoor
open Go.RowKit Aes Ctr Sl

theorem arr_eq (t : TypeId) (n : Nat) (ht : Tryd.prog.underlying t = some (.array n 5)) (a b : List UInt8) (rs ss : List Value) (ha : Vec n a rs) (hb : Vec n b ss) (w : World) :
    (Op.equalIn 10000 t (.agg rs.toArray) (.agg ss.toArray)).run Tryd.prog w = .ok (decide (a = b)) w := by
  have hs : (sizeOf 5).run Tryd.prog w = .ok 1 w := by kernel_rfl
  have hag : (isAgg 5).run Tryd.prog w = .ok false w := by kernel_rfl
  rw [show (10000 : Nat) = 9999 + 1 from rfl, Op.equalIn]
  simp only [Sem.run_bind, run_underlying ht, Result.andThen_ok, hs]
  simp only [Std.Legacy.Range.forIn_eq_forIn_range', Std.Legacy.Range.size, Nat.sub_zero, Nat.add_sub_cancel, Nat.div_one]
  have key : ∀ L : List Nat, (∀ i ∈ L, i < n) → (forIn (m := Sem) L ((none, ()) : Option Bool × Unit) fun i _ => do
            let a ← part 5 rs.toArray (i * 1)
            let b ← part 5 ss.toArray (i * 1)
            let c ← Op.equalIn 9999 5 a b
            if (!c) = true then pure (ForInStep.done ((some false, ()) : Option Bool × Unit)) else pure (ForInStep.yield (none, ()))).run Tryd.prog w = .ok (if ∀ i ∈ L, a.getD i 0 = b.getD i 0 then (none, ()) else (some false, ())) w := by
    intro L
    induction L with
    | nil => intro _; simp
    | cons i r ih =>
      intro hL
      have hi : i < n := hL i (by simp)
      have hp : (part 5 rs.toArray (i * 1)).run Tryd.prog w = .ok (.int .u8 (a.getD i 0).toNat) w := by
        have hx := ha.at_ i hi
        simp only [part, Sem.run_bind, hag, Result.andThen_ok]
        simp [hx]
      have hq : (part 5 ss.toArray (i * 1)).run Tryd.prog w = .ok (.int .u8 (b.getD i 0).toNat) w := by
        have hx := hb.at_ i hi
        simp only [part, Sem.run_bind, hag, Result.andThen_ok]
        simp [hx]
      have he : (Op.equalIn 9999 5 (.int .u8 ((a.getD i 0).toNat : Int)) (.int .u8 ((b.getD i 0).toNat : Int))).run Tryd.prog w = .ok (((a.getD i 0).toNat : Int) == ((b.getD i 0).toNat : Int)) w := by
        rw [show (9999 : Nat) = 9998 + 1 from rfl, run_equalIn_int w 9998 5 .u8 .u8 _ _ Tryd.underlying5]
      rw [List.forIn_cons]
      by_cases hxy : a.getD i 0 = b.getD i 0
      · have hbb : (((a.getD i 0).toNat : Int) == ((b.getD i 0).toNat : Int)) = true := by rw [hxy]; simp
        rw [hbb] at he
        simp only [Sem.run_bind, hp, hq, Result.andThen_ok, he, Bool.not_true, Bool.false_eq_true, if_false, Sem.run_pure]
        rw [ih (fun j hj => hL j (by simp [hj]))]
        simp only [List.mem_cons, forall_eq_or_imp, hxy, true_and]
      · have hbb : (((a.getD i 0).toNat : Int) == ((b.getD i 0).toNat : Int)) = false := by
          rw [beq_eq_false_iff_ne]
          intro hh
          exact hxy (UInt8.toNat_inj.1 (by omega))
        rw [hbb] at he
        simp only [Sem.run_bind, hp, hq, Result.andThen_ok, he, Bool.not_false, if_true, Sem.run_pure]
        simp only [List.mem_cons, forall_eq_or_imp, hxy, false_and, if_false]
  rw [key _ (fun i hi => by simpa using (List.mem_range'_1.1 hi).2)]
  by_cases hab : a = b
  · rw [if_pos (fun i _ => by rw [hab])]
    simp [hab]
  · have hne : ¬ ∀ i ∈ List.range' 0 n 1, a.getD i 0 = b.getD i 0 := by
      intro hh
      apply hab
      apply List.ext_getElem (by rw [ha.2, hb.2])
      intro i h1 h2
      have h3 := hh i (by rw [List.mem_range'_1]; have := ha.2; omega)
      simpa [List.getD_eq_getElem?_getD, h1, h2] using h3
    rw [if_neg hne]
    simp [hab]

theorem cut8 (b o cap : Nat) (hc : 72 ≤ cap) (W : World) : (Instr.slice 22 (.slice (some ⟨b, o, none⟩) 72 cap) (some (.int .i64 8)) none none).run Tryd.prog W = .ok (.slice (some ⟨b, o + 8, none⟩) 64 (cap - 8)) W := by
  have hu : Tryd.prog.underlying 22 = some (.slice (Tryd.prog.elem 22)) := by kernel_rfl
  have hs : (sizeOf (Tryd.prog.elem 22)).run Tryd.prog W = .ok 1 W := by kernel_rfl
  rw [run_slice_l W _ (some ⟨b, o, none⟩) 72 cap hu .i64 8 (by omega) (by omega), hs]
  have h8 : (8 : Int).toNat = 8 := rfl
  simp only [Result.andThen_ok, sliced, h8]
  rw [if_neg (by omega), Option.map_some, add_off]
theorem cut8At (b o cap : Nat) (hc : 72 ≤ cap) (W : World) : (Instr.sliceAt 22 (.slice (some ⟨b, o, none⟩) 72 cap) (some (.int .i64 8)) none none).run Tryd.prog W = .ok (.slice (some ⟨b, o + 8, none⟩) 64 (cap - 8)) W := by
  have hu : Tryd.prog.underlying 22 = some (.slice (Tryd.prog.elem 22)) := by kernel_rfl
  rw [run_sliceAt_slice W _ _ _ _ _ hu, cut8 b o cap hc W]
theorem Arg.take8 {w : World} {b o c n : Nat} {bs : List UInt8} (h : Arg w (.slice (some ⟨b, o, none⟩) n c) bs) (hl : 8 ≤ bs.length) : Arg w (.slice (some ⟨b, o, none⟩) 8 c) (bs.take 8) := by
  rcases h with ⟨A, e, hn⟩ | ⟨b', o', c', e, hb, hc, hs⟩
  · rw [hn] at hl; exact absurd hl (by decide)
  · injection e with e1 e2 e3
    injection e1 with e1
    injection e1 with e1 e4 _
    subst e1 e2 e3 e4
    have hl8 : (bs.take 8).length = 8 := by rw [List.length_take]; omega
    refine .inr ⟨b, o, c, by rw [hl8], hb, by rw [hl8]; omega, ?_⟩
    have := hs.piece 0 8
    rwa [List.drop_zero, Nat.add_zero, ← List.map_take] at this
theorem Arg.drop8 {w : World} {b o c n : Nat} {bs : List UInt8} (h : Arg w (.slice (some ⟨b, o, none⟩) n c) bs) (hl : bs.length = 72) : Arg w (.slice (some ⟨b, o + 8, none⟩) 64 (c - 8)) (bs.drop 8) := by
  rcases h with ⟨A, e, hn⟩ | ⟨b', o', c', e, hb, hc, hs⟩
  · rw [hn] at hl; exact absurd hl (by decide)
  · injection e with e1 e2 e3
    injection e1 with e1
    injection e1 with e1 e4 _
    subst e1 e2 e3 e4
    have hl8 : (bs.drop 8).length = 64 := by rw [List.length_drop]; omega
    refine .inr ⟨b, o + 8, c - 8, by rw [hl8], hb, by rw [hl8]; omega, ?_⟩
    have := hs.tail 8
    rwa [← List.map_drop] at this

set_option maxRecDepth 100000 in
set_option maxHeartbeats 1000000 in
theorem SOpen_arg (ek mk : List UInt8) (ks : List Value) (hk : KeysV ek mk ks) (d : Int) (raw : List UInt8) (hp : raw.length ≠ 72) (x : Value) (tb : List UInt8) (ts : List Value) (hts : Vec 32 tb ts) (w : World) (h : Arg w x raw) :
    Calls Tryd.prog 14 #[.agg ks.toArray, .int .i64 d, x, .agg ts.toArray] w fun e w' => e = .returned (.tuple #[.slice none 0 0, .int .u64 0, .int .i64 1]) ∧ Below w.heap.size w w' := by
  have HK := Lib.hid hk
  have HV := Lib.hid hts
  have Hzk : Hid (ks.toArray.size = 48) := hk.size
  have Hzt : Hid (ts.toArray.size = 32) := hts.size
  obtain ⟨w0, hw0⟩ : ∃ w0, w0 = (w.alloc (.cells ks.toArray 29)).alloc (.cells ts.toArray 27) := ⟨_, rfl⟩
  have HBL : Hid (Below w.heap.size w w0) := by rw [hw0]; exact ((Below.refl _ _).alloc (Nat.le_refl _) _).alloc (by simp) _
  have HBX : Hid (Row w0 w.heap.size 29 ks) := by rw [hw0]; exact (Row.new w 29 ks).alloc _
  have HBT : Hid (Row w0 (w.heap.size + 1) 27 ts) := by rw [hw0]; exact Row.newAt 27 ts (by simp)
  have HSZ : Hid (w0.heap.size = w.heap.size + 1 + 1) := by show _ = _; rw [hw0]; simp
  obtain ⟨A, cap0, rfl⟩ := h.form
  obtain ⟨n, hnl⟩ : ∃ n, n = raw.length := ⟨_, rfl⟩
  rw [← hnl] at hp ⊢
  clear h hk hnl HBX HBT HK hts HV
  rw [hw0] at HBL
  go_enter Tryd.func14, Tryd.ntmps14
  go_wp2
  go_ret3
  exact ⟨rfl, HBL.out⟩

set_option maxRecDepth 100000 in
set_option maxHeartbeats 1000000 in
theorem SOpen_diff (ek mk : List UInt8) (ks : List Value) (hk : KeysV ek mk ks) (d : Int) (raw : List UInt8) (hp : raw.length = 72) (x : Value) (tb : List UInt8) (ts : List Value) (hts : Vec 32 tb ts) (hne : tg mk (nm d) raw ≠ tb) (w : World) (hT : Hm.Tab w) (h : Arg w x raw) :
    Calls Tryd.prog 14 #[.agg ks.toArray, .int .i64 d, x, .agg ts.toArray] w fun e w' => e = .returned (.tuple #[.slice none 0 0, .int .u64 0, .int .i64 10]) ∧ Below w.heap.size w w' := by
  have HK := Lib.hid hk
  have HV := Lib.hid hts
  have Hzk : Hid (ks.toArray.size = 48) := hk.size
  have Hzt : Hid (ts.toArray.size = 32) := hts.size
  obtain ⟨w0, hw0⟩ : ∃ w0, w0 = (w.alloc (.cells ks.toArray 29)).alloc (.cells ts.toArray 27) := ⟨_, rfl⟩
  have HBL : Hid (Below w.heap.size w w0) := by rw [hw0]; exact ((Below.refl _ _).alloc (Nat.le_refl _) _).alloc (by simp) _
  have HBX : Hid (Row w0 w.heap.size 29 ks) := by rw [hw0]; exact (Row.new w 29 ks).alloc _
  have HBT : Hid (Row w0 (w.heap.size + 1) 27 ts) := by rw [hw0]; exact Row.newAt 27 ts (by simp)
  have HSZ : Hid (w0.heap.size = w.heap.size + 1 + 1) := by show _ = _; rw [hw0]; simp
  have HNE : Hid (∀ rs, Hid (Vec 32 (tg mk (nm d) raw) rs) → ∀ W, (Op.equalIn 10000 27 (.agg rs.toArray) (.agg ts.toArray)).run Tryd.prog W = .ok false W) := fun rs hrs W => by
    rw [arr_eq 27 32 Tryd.underlying27 _ _ rs ts hrs.out HV.out W, decide_eq_false hne]
  clear hne
  have HP := Lib.hid hp
  have HT : Hid (Hm.Tab w0) := hT.below HBL.out
  obtain ⟨b, o, cap, rfl, hcap⟩ : ∃ b o cap, x = .slice (some ⟨b, o, none⟩) 72 cap ∧ 72 ≤ cap := by
    rcases h with ⟨A, e, hn⟩ | ⟨b, o, c, e, _, hc, _⟩
    · rw [hn] at hp; exact absurd hp (by decide)
    · exact ⟨b, o, c, by rw [e, hp], by omega⟩
  have HA : Hid (Arg w0 (.slice (some ⟨b, o, none⟩) 72 cap) raw) := h.below HBL.out
  have HKeep : Hid (∀ W, Below w0.heap.size w0 W → W.rangeAt w.heap.size 0 ks ∧ W.rangeAt (w.heap.size + 1) 0 ts) := fun W hW => ⟨range_row (HBX.out.below hW HBX.out.lt), range_row (HBT.out.below hW HBT.out.lt)⟩
  have hi1 : (Tryd.prog.info? 29).map (·.size) = some ks.length := by rw [HK.out.vec.len]; kernel_rfl
  have hi2 : (Tryd.prog.info? 27).map (·.size) = some ts.length := by rw [HV.out.len]; kernel_rfl
  clear h hk hp hT hts
  go_enter Tryd.func14, Tryd.ntmps14
  go_wp2
  rw [← hw0]
  clear hw0
  have hC : Below w0.heap.size w0 w0.drew := below_drewN (Below.refl _ _) 1
  refine wp_region_held_drew (S := (fun W => W.rangeAt w.heap.size 0 ks ∧ W.rangeAt (w.heap.size + 1) 0 ts)) (by kernel_rfl) (HKeep.out _ hC) (fun hHeld => ?_)
  generalize w0.drew = w0d at *
  refine wpAnyH_take (i := 0) (oi := ⟨some 15, _, _, _, _, _⟩) (v := .agg (ks).toArray) rfl (by kernel_rfl) (by kernel_rfl) (by kernel_rfl) (fun _ _ _ h => h) (yieldsIf_load_mid (by rfl) 29 (.tmp 4) rfl (w.heap.size) 0 rfl (ks) _ (fun W h => h.1) Tryd.underlying29 rfl hi1) hHeld ?_
  try go_frame
  refine wpAnyH_take (i := 1) (oi := ⟨some 16, _, _, _, _, _⟩) (v := ?_) rfl (by kernel_rfl) (by kernel_rfl) (by kernel_rfl) (fun _ _ _ h => h) (Or.inl ⟨by rfl, ?_⟩) hHeld ?_
  rotate_left
  · intro w hSw
    go_simp
    with_reducible rfl
  try go_frame
  refine wpAnyH_take (i := 2) (oi := ⟨some 17, _, _, _, _, _⟩) (v := ?_) rfl (by kernel_rfl) (by kernel_rfl) (by kernel_rfl) (fun _ _ _ h => h) (Or.inl ⟨by rfl, ?_⟩) hHeld ?_
  rotate_left
  · intro w hSw
    go_simp
    with_reducible rfl
  try go_frame
  refine wpAnyH_take (i := 4) (oi := ⟨some 19, _, _, _, _, _⟩) (v := .agg (ts).toArray) rfl (by kernel_rfl) (by kernel_rfl) (by kernel_rfl) (fun _ _ _ h => h) (yieldsIf_load_mid (by rfl) 27 (.tmp 7) rfl (w.heap.size + 1) 0 rfl (ts) _ (fun W h => h.2) Tryd.underlying27 rfl hi2) hHeld ?_
  try go_frame
  refine wpAnyH_ready (rs := [3]) (by kernel_rfl) (by simp) ?_
  refine AllReadyH.cons (o := ⟨some 18, _, _, _, _, _⟩) rfl (fun K hK => ?_) AllReadyH.nil
  go_simp
  go_at_call 9
  refine (STag_any ek mk ks HK.out d raw (by rw [HP.out]; omega) _ w0d (HT.out.below hC) (HA.out.below hC)).mono ?_
  rintro e w0d_tg ⟨rs, Hrs, rfl, hb⟩
  replace hC := hC.trans (hb.mono hC.size)
  refine hK.out _ _ (HKeep.out _ hC) (fun hHeld => ?_)
  clear hK K hb 
  have hte := fun W => HNE.out rs Hrs W
  try go_frame
  refine wpAnyH_take (i := 5) (oi := ⟨some 20, _, _, _, _, _⟩) (v := ?_) rfl (by kernel_rfl) (by kernel_rfl) (by kernel_rfl) (fun _ _ _ h => h) (Or.inl ⟨by rfl, ?_⟩) hHeld ?_
  rotate_left
  · intro w hSw
    go_simp
    with_reducible rfl
  try go_frame
  refine wpAnyH_done (by kernel_rfl) ?_ _
  have HC := Lib.hid (HBL.out.trans (hC.mono HBL.out.size))
  clear hC HKeep hHeld hte HBX HBT
  go_wp2
  go_ret3
  exact ⟨rfl, HC.out⟩

set_option maxRecDepth 100000 in
set_option maxHeartbeats 1000000 in
theorem SOpen_ok (ek mk : List UInt8) (ks : List Value) (hk : KeysV ek mk ks) (d : Int) (raw : List UInt8) (hp : raw.length = 72) (x : Value) (tb : List UInt8) (ts : List Value) (hts : Vec 32 tb ts) (heq : tg mk (nm d) raw = tb) (w : World) (hT : Hm.Tab w) (h : Arg w x raw) :
    Calls Tryd.prog 14 #[.agg ks.toArray, .int .i64 d, x, .agg ts.toArray] w fun e w' => ∃ g, e = .returned (.tuple #[.slice (some ⟨g, 0, none⟩) 64 64, .int .u64 ((ver raw : Nat) : Int), .int .i64 0]) ∧ w.heap.size ≤ g ∧ Hid (Row w' g 5 ((pl ek (nm d) raw).map V8)) ∧ Below w.heap.size w w' := by
  have HK := Lib.hid hk
  have HV := Lib.hid hts
  have Hzk : Hid (ks.toArray.size = 48) := hk.size
  have Hzt : Hid (ts.toArray.size = 32) := hts.size
  obtain ⟨w0, hw0⟩ : ∃ w0, w0 = (w.alloc (.cells ks.toArray 29)).alloc (.cells ts.toArray 27) := ⟨_, rfl⟩
  have HBL : Hid (Below w.heap.size w w0) := by rw [hw0]; exact ((Below.refl _ _).alloc (Nat.le_refl _) _).alloc (by simp) _
  have HBX : Hid (Row w0 w.heap.size 29 ks) := by rw [hw0]; exact (Row.new w 29 ks).alloc _
  have HBT : Hid (Row w0 (w.heap.size + 1) 27 ts) := by rw [hw0]; exact Row.newAt 27 ts (by simp)
  have HSZ : Hid (w0.heap.size = w.heap.size + 1 + 1) := by show _ = _; rw [hw0]; simp
  have HEQ : Hid (∀ rs, Hid (Vec 32 (tg mk (nm d) raw) rs) → ∀ W, (Op.equalIn 10000 27 (.agg rs.toArray) (.agg ts.toArray)).run Tryd.prog W = .ok true W) := fun rs hrs W => by
    rw [arr_eq 27 32 Tryd.underlying27 _ _ rs ts hrs.out HV.out W, decide_eq_true heq]
  clear heq
  have HP := Lib.hid hp
  have HT : Hid (Hm.Tab w0) := hT.below HBL.out
  obtain ⟨b, o, cap, rfl, hcap⟩ : ∃ b o cap, x = .slice (some ⟨b, o, none⟩) 72 cap ∧ 72 ≤ cap := by
    rcases h with ⟨A, e, hn⟩ | ⟨b, o, c, e, _, hc, _⟩
    · rw [hn] at hp; exact absurd hp (by decide)
    · exact ⟨b, o, c, by rw [e, hp], by omega⟩
  have HA : Hid (Arg w0 (.slice (some ⟨b, o, none⟩) 72 cap) raw) := h.below HBL.out
  have HKeep : Hid (∀ W, Below w0.heap.size w0 W → W.rangeAt w.heap.size 0 ks ∧ W.rangeAt (w.heap.size + 1) 0 ts) := fun W hW => ⟨range_row (HBX.out.below hW HBX.out.lt), range_row (HBT.out.below hW HBT.out.lt)⟩
  have hi1 : (Tryd.prog.info? 29).map (·.size) = some ks.length := by rw [HK.out.vec.len]; kernel_rfl
  have hi2 : (Tryd.prog.info? 27).map (·.size) = some ts.length := by rw [HV.out.len]; kernel_rfl
  clear h hk hp hT hts
  go_enter Tryd.func14, Tryd.ntmps14
  go_wp2
  rw [← hw0]
  clear hw0
  have hC : Below w0.heap.size w0 w0.drew := below_drewN (Below.refl _ _) 1
  refine wp_region_held_drew (S := (fun W => W.rangeAt w.heap.size 0 ks ∧ W.rangeAt (w.heap.size + 1) 0 ts)) (by kernel_rfl) (HKeep.out _ hC) (fun hHeld => ?_)
  generalize w0.drew = w0d at *
  refine wpAnyH_take (i := 0) (oi := ⟨some 15, _, _, _, _, _⟩) (v := .agg (ks).toArray) rfl (by kernel_rfl) (by kernel_rfl) (by kernel_rfl) (fun _ _ _ h => h) (yieldsIf_load_mid (by rfl) 29 (.tmp 4) rfl (w.heap.size) 0 rfl (ks) _ (fun W h => h.1) Tryd.underlying29 rfl hi1) hHeld ?_
  try go_frame
  refine wpAnyH_take (i := 1) (oi := ⟨some 16, _, _, _, _, _⟩) (v := ?_) rfl (by kernel_rfl) (by kernel_rfl) (by kernel_rfl) (fun _ _ _ h => h) (Or.inl ⟨by rfl, ?_⟩) hHeld ?_
  rotate_left
  · intro w hSw
    go_simp
    with_reducible rfl
  try go_frame
  refine wpAnyH_take (i := 2) (oi := ⟨some 17, _, _, _, _, _⟩) (v := ?_) rfl (by kernel_rfl) (by kernel_rfl) (by kernel_rfl) (fun _ _ _ h => h) (Or.inl ⟨by rfl, ?_⟩) hHeld ?_
  rotate_left
  · intro w hSw
    go_simp
    with_reducible rfl
  try go_frame
  refine wpAnyH_take (i := 4) (oi := ⟨some 19, _, _, _, _, _⟩) (v := .agg (ts).toArray) rfl (by kernel_rfl) (by kernel_rfl) (by kernel_rfl) (fun _ _ _ h => h) (yieldsIf_load_mid (by rfl) 27 (.tmp 7) rfl (w.heap.size + 1) 0 rfl (ts) _ (fun W h => h.2) Tryd.underlying27 rfl hi2) hHeld ?_
  try go_frame
  refine wpAnyH_ready (rs := [3]) (by kernel_rfl) (by simp) ?_
  refine AllReadyH.cons (o := ⟨some 18, _, _, _, _, _⟩) rfl (fun K hK => ?_) AllReadyH.nil
  go_simp
  go_at_call 9
  refine (STag_any ek mk ks HK.out d raw (by rw [HP.out]; omega) _ w0d (HT.out.below hC) (HA.out.below hC)).mono ?_
  rintro e w0d_tg ⟨rs, Hrs, rfl, hb⟩
  replace hC := hC.trans (hb.mono hC.size)
  refine hK.out _ _ (HKeep.out _ hC) (fun hHeld => ?_)
  clear hK K hb 
  have hte := fun W => HEQ.out rs Hrs W
  try go_frame
  refine wpAnyH_take (i := 5) (oi := ⟨some 20, _, _, _, _, _⟩) (v := ?_) rfl (by kernel_rfl) (by kernel_rfl) (by kernel_rfl) (fun _ _ _ h => h) (Or.inl ⟨by rfl, ?_⟩) hHeld ?_
  rotate_left
  · intro w hSw
    go_simp
    with_reducible rfl
  try go_frame
  refine wpAnyH_done (by kernel_rfl) ?_ _
  have HC := Lib.hid (HBL.out.trans (hC.mono HBL.out.size))
  have HB2 := Lib.hid (HBX.out.below hC HBX.out.lt)
  have HT2 := Lib.hid (HBT.out.below hC HBT.out.lt)
  have HA2 := Lib.hid (HA.out.below hC)
  clear hC HKeep hHeld hte HBX HBT HA HT Hrs HBL
  generalize w0d_tg = w1 at *
  have HA7 : Hid (Arg w1 (.slice (some ⟨b, o, none⟩) 8 cap) (raw.take 8)) := HA2.out.take8 (by rw [HP.out]; omega)
  go_wp2_with fail
  refine (SgetN_any (raw.take 8) (by rw [List.length_take]; omega) _ w1 HA7.out).mono ?_
  rintro e w2 ⟨rfl, hb2⟩
  rw [show num (raw.take 8) = ver raw from rfl]
  have HA8 : Hid (Arg w2 (.slice (some ⟨b, o + 8, none⟩) 64 (cap - 8)) (raw.drop 8)) := (HA2.out.below hb2).drop8 HP.out
  obtain ⟨V, HV1⟩ : ∃ V, Hid (V = ver raw) := ⟨_, rfl⟩
  obtain ⟨D8, HD8⟩ : ∃ D, Hid (D = raw.drop 8) := ⟨_, rfl⟩
  have hV64 : V < 2 ^ 64 := by rw [HV1.out]; exact ver_lt raw
  have HLd : Hid (D8.length = 64) := by show _ = _; rw [HD8.out, List.length_drop, HP.out]
  rw [← HV1.out]
  rw [← HD8.out] at HA8
  replace HC := Lib.hid (HC.out.trans (hb2.mono HC.out.size))
  replace HB2 := Lib.hid (HB2.out.below hb2 HB2.out.lt)
  replace HT2 := Lib.hid (HT2.out.below hb2 HT2.out.lt)
  have HKeep : Hid (∀ W, Below w2.heap.size w2 W → W.rangeAt w.heap.size 0 ks ∧ W.rangeAt (w.heap.size + 1) 0 ts) := fun W hW => ⟨range_row (HB2.out.below hW HB2.out.lt), range_row (HT2.out.below hW HT2.out.lt)⟩
  have hs3 := HC.out.size
  clear HA7 HA2 hb2
  go_wp2
  have hC : Below w2.heap.size w2 w2.drew := below_drewN (Below.refl _ _) 1
  refine wp_region_held_drew (S := (fun W => W.rangeAt w.heap.size 0 ks ∧ W.rangeAt (w.heap.size + 1) 0 ts)) (by kernel_rfl) (HKeep.out _ hC) (fun hHeld => ?_)
  generalize w2.drew = w2d at *
  refine wpAnyH_take (i := 0) (oi := ⟨some 24, _, _, _, _, _⟩) (v := .agg (ks).toArray) rfl (by kernel_rfl) (by kernel_rfl) (by kernel_rfl) (fun _ _ _ h => h) (yieldsIf_load_mid (by rfl) 29 (.tmp 4) rfl (w.heap.size) 0 rfl (ks) _ (fun W h => h.1) Tryd.underlying29 rfl hi1) hHeld ?_
  try go_frame
  refine wpAnyH_take (i := 1) (oi := ⟨some 25, _, _, _, _, _⟩) (v := ?_) rfl (by kernel_rfl) (by kernel_rfl) (by kernel_rfl) (fun _ _ _ h => h) (Or.inl ⟨by rfl, ?_⟩) hHeld ?_
  rotate_left
  · intro w hSw
    go_simp
    with_reducible rfl
  try go_frame
  refine wpAnyH_take (i := 2) (oi := ⟨some 26, _, _, _, _, _⟩) (v := ?_) rfl (by kernel_rfl) (by kernel_rfl) (by kernel_rfl) (fun _ _ _ h => h) (Or.inl ⟨by rfl, ?_⟩) hHeld ?_
  rotate_left
  · intro w hSw
    go_simp
    with_reducible rfl
  try go_frame
  refine wpAnyH_take (i := 3) (oi := ⟨some 27, _, _, _, _, _⟩) (v := ?_) rfl (by kernel_rfl) (by kernel_rfl) (by kernel_rfl) (fun _ _ _ h => h) (Or.inl ⟨by rfl, ?_⟩) hHeld ?_
  rotate_left
  · intro w hSw
    go_simp
    with_reducible rfl
  try go_frame
  refine wpAnyH_take (i := 4) (oi := ⟨some 28, _, _, _, _, _⟩) (v := ?_) rfl (by kernel_rfl) (by kernel_rfl) (by kernel_rfl) (fun _ _ _ h => h) (Or.inl ⟨by rfl, ?_⟩) hHeld ?_
  rotate_left
  · intro w hSw
    have hsl := cut8 b o cap hcap w
    have hsl2 := cut8At b o cap hcap w
    go_simp
    with_reducible rfl
  try go_frame
  refine wpAnyH_take (i := 6) (oi := ⟨some 30, _, _, _, _, _⟩) (v := ?_) rfl (by kernel_rfl) (by kernel_rfl) (by kernel_rfl) (fun _ _ _ h => h) (Or.inl ⟨by rfl, ?_⟩) hHeld ?_
  rotate_left
  · intro w hSw
    go_simp
    with_reducible rfl
  try go_frame
  refine wpAnyH_ready (rs := [5]) (by kernel_rfl) (by simp) ?_
  refine AllReadyH.cons (o := ⟨some 29, _, _, _, _, _⟩) rfl (fun K hK => ?_) AllReadyH.nil
  go_simp
  go_at_call 21
  have hs4 := hC.size
  refine (Scode_any ek mk ks HK.out d V hV64 D8 _ (by rw [HLd.out]; omega) w2d (HA8.out.below hC)).mono ?_
  rintro e w2d_cd ⟨g, rfl, hg, R_cd, hb⟩
  replace hC := hC.trans (hb.mono hC.size)
  refine hK.out _ _ (HKeep.out _ hC) (fun hHeld => ?_)
  clear hK K hb 
  rw [HLd.out]
  try go_frame
  refine wpAnyH_take (i := 7) (oi := ⟨some 8, _, _, _, _, _⟩) (v := ?_) rfl (by kernel_rfl) (by kernel_rfl) (by kernel_rfl) (fun _ _ _ h => h) (Or.inl ⟨by rfl, ?_⟩) hHeld ?_
  rotate_left
  · intro w hSw
    go_simp
    with_reducible rfl
  try go_frame
  refine wpAnyH_take (i := 8) (oi := ⟨some 9, _, _, _, _, _⟩) (v := ?_) rfl (by kernel_rfl) (by kernel_rfl) (by kernel_rfl) (fun _ _ _ h => h) (Or.inl ⟨by rfl, ?_⟩) hHeld ?_
  rotate_left
  · intro w hSw
    go_simp
    with_reducible rfl
  try go_frame
  refine wpAnyH_take (i := 9) (oi := ⟨some 10, _, _, _, _, _⟩) (v := ?_) rfl (by kernel_rfl) (by kernel_rfl) (by kernel_rfl) (fun _ _ _ h => h) (Or.inl ⟨by rfl, ?_⟩) hHeld ?_
  rotate_left
  · intro w hSw
    go_simp
    with_reducible rfl
  try go_frame
  refine wpAnyH_done (by kernel_rfl) ?_ _
  have HC2 := Lib.hid (HC.out.trans (hC.mono HC.out.size))
  rw [HD8.out, HV1.out] at R_cd
  clear hHeld HKeep hC
  go_wp2
  go_ret3
  exact ⟨g, by rw [HV1.out]; rfl, by omega, R_cd, HC2.out⟩
end Go.Proofs.YtfodblgoamkgmaaDoor
