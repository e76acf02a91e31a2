/-
  OF THE WALK: SF, VB.
-/
import Derived.Laws.StructEq
import Derived.Test.YthbmknpbcgnabaaGreatDoorP16
import Derived.Test.YthbmknpbcgnabaaGreatDoorP18
namespace Go.Proofs.YthbmknpbcgnabaaGreatDoor
open Go.RowKit Aes Ctr Sl
theorem arr_eq (t : TypeId) (n : Nat) (ht : Tryz.prog.underlying t = some (.array n 5)) (a b : List UInt8) (rs ss : List Value) (ha : Vec n a rs) (hb : Vec n b ss) (w : World) :
    (Op.equalIn 10000 t (.agg rs.toArray) (.agg ss.toArray)).run Tryz.prog w = .ok (decide (a = b)) w := by
  have hs : (sizeOf 5).run Tryz.prog w = .ok 1 w := by kernel_rfl
  have hag : (isAgg 5).run Tryz.prog w = .ok false w := by kernel_rfl
  rw [show (10000 : Nat) = 9999 + 1 from rfl, Op.equalIn]
  simp only [Sem.run_bind, run_underlying ht, Result.andThen_ok, hs]
  simp only [Std.Legacy.Range.forIn_eq_forIn_range', Std.Legacy.Range.size, Nat.sub_zero, Nat.add_sub_cancel, Nat.div_one]
  have key : ∀ L : List Nat, (∀ i ∈ L, i < n) → (forIn (m := Sem) L ((none, ()) : Option Bool × Unit) fun i _ => do
            let a ← part 5 rs.toArray (i * 1)
            let b ← part 5 ss.toArray (i * 1)
            let c ← Op.equalIn 9999 5 a b
            if (!c) = true then pure (ForInStep.done ((some false, ()) : Option Bool × Unit)) else pure (ForInStep.yield (none, ()))).run Tryz.prog w = .ok (if ∀ i ∈ L, a.getD i 0 = b.getD i 0 then (none, ()) else (some false, ())) w := by
    intro L
    induction L with
    | nil => intro _; simp
    | cons i r ih =>
      intro hL
      have hi : i < n := hL i (by simp)
      have hp : (part 5 rs.toArray (i * 1)).run Tryz.prog w = .ok (.int .u8 (a.getD i 0).toNat) w := by
        have hx := ha.at_ i hi
        simp only [part, Sem.run_bind, hag, Result.andThen_ok]
        simp [hx]
      have hq : (part 5 ss.toArray (i * 1)).run Tryz.prog w = .ok (.int .u8 (b.getD i 0).toNat) w := by
        have hx := hb.at_ i hi
        simp only [part, Sem.run_bind, hag, Result.andThen_ok]
        simp [hx]
      have he : (Op.equalIn 9999 5 (.int .u8 ((a.getD i 0).toNat : Int)) (.int .u8 ((b.getD i 0).toNat : Int))).run Tryz.prog w = .ok (((a.getD i 0).toNat : Int) == ((b.getD i 0).toNat : Int)) w := by
        rw [show (9999 : Nat) = 9998 + 1 from rfl, run_equalIn_int w 9998 5 .u8 .u8 _ _ Tryz.underlying5]
      rw [List.forIn_cons]
      by_cases hxy : a.getD i 0 = b.getD i 0
      · have hbb : (((a.getD i 0).toNat : Int) == ((b.getD i 0).toNat : Int)) = true := by rw [hxy]; simp
        rw [hbb] at he
        simp only [Sem.run_bind, hp, hq, Result.andThen_ok, he, Bool.not_true, Bool.false_eq_true, if_false, Sem.run_pure]
        rw [ih (fun j hj => hL j (by simp [hj]))]
        simp only [List.mem_cons, forall_eq_or_imp, hxy, true_and]
      · have hbb : (((a.getD i 0).toNat : Int) == ((b.getD i 0).toNat : Int)) = false := by
          rw [beq_eq_false_iff_ne]
          intro hh
          exact hxy (UInt8.toNat_inj.1 (by omega))
        rw [hbb] at he
        simp only [Sem.run_bind, hp, hq, Result.andThen_ok, he, Bool.not_false, if_true, Sem.run_pure]
        simp only [List.mem_cons, forall_eq_or_imp, hxy, false_and, if_false]
  rw [key _ (fun i hi => by simpa using (List.mem_range'_1.1 hi).2)]
  by_cases hab : a = b
  · rw [if_pos (fun i _ => by rw [hab])]
    simp [hab]
  · have hne : ¬ ∀ i ∈ List.range' 0 n 1, a.getD i 0 = b.getD i 0 := by
      intro hh
      apply hab
      apply List.ext_getElem (by rw [ha.2, hb.2])
      intro i h1 h2
      have h3 := hh i (by rw [List.mem_range'_1]; have := ha.2; omega)
      simpa [List.getD_eq_getElem?_getD, h1, h2] using h3
    rw [if_neg hne]
    simp [hab]
theorem cut8 (b o cap : Nat) (hc : 72 ≤ cap) (W : World) : (Instr.slice 22 (.slice (some ⟨b, o, none⟩) 72 cap) (some (.int .i64 8)) none none).run Tryz.prog W = .ok (.slice (some ⟨b, o + 8, none⟩) 64 (cap - 8)) W := by
  have hu : Tryz.prog.underlying 22 = some (.slice (Tryz.prog.elem 22)) := by kernel_rfl
  have hs : (sizeOf (Tryz.prog.elem 22)).run Tryz.prog W = .ok 1 W := by kernel_rfl
  rw [run_slice_l W _ (some ⟨b, o, none⟩) 72 cap hu .i64 8 (by omega) (by omega), hs]
  have h8 : (8 : Int).toNat = 8 := rfl
  simp only [Result.andThen_ok, sliced, h8]
  rw [if_neg (by omega), Option.map_some, add_off]
theorem cut8At (b o cap : Nat) (hc : 72 ≤ cap) (W : World) : (Instr.sliceAt 22 (.slice (some ⟨b, o, none⟩) 72 cap) (some (.int .i64 8)) none none).run Tryz.prog W = .ok (.slice (some ⟨b, o + 8, none⟩) 64 (cap - 8)) W := by
  have hu : Tryz.prog.underlying 22 = some (.slice (Tryz.prog.elem 22)) := by kernel_rfl
  rw [run_sliceAt_slice W _ _ _ _ _ hu, cut8 b o cap hc W]
theorem Arg.take8 {w : World} {b o c n : Nat} {bs : List UInt8} (h : Arg w (.slice (some ⟨b, o, none⟩) n c) bs) (hl : 8 ≤ bs.length) : Arg w (.slice (some ⟨b, o, none⟩) 8 c) (bs.take 8) := by
  rcases h with ⟨A, e, hn⟩ | ⟨b', o', c', e, hb, hc, hs⟩
  · rw [hn] at hl; exact absurd hl (by decide)
  · injection e with e1 e2 e3
    injection e1 with e1
    injection e1 with e1 e4 _
    subst e1 e2 e3 e4
    have hl8 : (bs.take 8).length = 8 := by rw [List.length_take]; omega
    refine .inr ⟨b, o, c, by rw [hl8], hb, by rw [hl8]; omega, ?_⟩
    have := hs.piece 0 8
    rwa [List.drop_zero, Nat.add_zero, ← List.map_take] at this
theorem Arg.drop8 {w : World} {b o c n : Nat} {bs : List UInt8} (h : Arg w (.slice (some ⟨b, o, none⟩) n c) bs) (hl : bs.length = 72) : Arg w (.slice (some ⟨b, o + 8, none⟩) 64 (c - 8)) (bs.drop 8) := by
  rcases h with ⟨A, e, hn⟩ | ⟨b', o', c', e, hb, hc, hs⟩
  · rw [hn] at hl; exact absurd hl (by decide)
  · injection e with e1 e2 e3
    injection e1 with e1
    injection e1 with e1 e4 _
    subst e1 e2 e3 e4
    have hl8 : (bs.drop 8).length = 64 := by rw [List.length_drop]; omega
    refine .inr ⟨b, o + 8, c - 8, by rw [hl8], hb, by rw [hl8]; omega, ?_⟩
    have := hs.tail 8
    rwa [← List.map_drop] at this
set_option maxRecDepth 100000 in
set_option maxHeartbeats 1000000 in
theorem SOpen_diff (ek mk : List UInt8) (ks : List Value) (hk : KeysV ek mk ks) (d : Int) (raw : List UInt8) (hp : raw.length = 72) (x : Value) (tb : List UInt8) (ts : List Value) (hts : Vec 32 tb ts) (hne : tg mk (nm d) raw ≠ tb) (w : World) (hT : Hm.Tab w) (h : Arg w x raw) :
    Calls Tryz.prog 53 #[.agg ks.toArray, .int .i64 d, x, .agg ts.toArray] w fun e w' => e = .returned (.tuple #[.slice none 0 0, .int .u64 0, .int .i64 10]) ∧ Below w.heap.size w w' := by
  have HK := Lib.hid hk
  have HV := Lib.hid hts
  have Hzk : Hid (ks.toArray.size = 48) := hk.size
  have Hzt : Hid (ts.toArray.size = 32) := hts.size
  obtain ⟨w0, hw0⟩ : ∃ w0, w0 = (w.alloc (.cells ks.toArray 29)).alloc (.cells ts.toArray 27) := ⟨_, rfl⟩
  have HBL : Hid (Below w.heap.size w w0) := by rw [hw0]; exact ((Below.refl _ _).alloc (Nat.le_refl _) _).alloc (by simp) _
  have HBX : Hid (Row w0 w.heap.size 29 ks) := by rw [hw0]; exact (Row.new w 29 ks).alloc _
  have HBT : Hid (Row w0 (w.heap.size + 1) 27 ts) := by rw [hw0]; exact Row.newAt 27 ts (by simp)
  have HSZ : Hid (w0.heap.size = w.heap.size + 1 + 1) := by show _ = _; rw [hw0]; simp
  have HNE : Hid (∀ rs, Hid (Vec 32 (tg mk (nm d) raw) rs) → ∀ W, (Op.equalIn 10000 27 (.agg rs.toArray) (.agg ts.toArray)).run Tryz.prog W = .ok false W) := fun rs hrs W => by
    rw [arr_eq 27 32 Tryz.underlying27 _ _ rs ts hrs.out HV.out W, decide_eq_false hne]
  clear hne
  have HP := Lib.hid hp
  have HT : Hid (Hm.Tab w0) := hT.below HBL.out
  obtain ⟨b, o, cap, rfl, hcap⟩ : ∃ b o cap, x = .slice (some ⟨b, o, none⟩) 72 cap ∧ 72 ≤ cap := by
    rcases h with ⟨A, e, hn⟩ | ⟨b, o, c, e, _, hc, _⟩
    · rw [hn] at hp; exact absurd hp (by decide)
    · exact ⟨b, o, c, by rw [e, hp], by omega⟩
  have HA : Hid (Arg w0 (.slice (some ⟨b, o, none⟩) 72 cap) raw) := h.below HBL.out
  have HKeep : Hid (∀ W, Below w0.heap.size w0 W → W.rangeAt w.heap.size 0 ks ∧ W.rangeAt (w.heap.size + 1) 0 ts) := fun W hW => ⟨range_row (HBX.out.below hW HBX.out.lt), range_row (HBT.out.below hW HBT.out.lt)⟩
  have hi1 : (Tryz.prog.info? 29).map (·.size) = some ks.length := by rw [HK.out.vec.len]; kernel_rfl
  have hi2 : (Tryz.prog.info? 27).map (·.size) = some ts.length := by rw [HV.out.len]; kernel_rfl
  clear h hk hp hT hts
  go_enter Tryz.func53, Tryz.ntmps53
  go_wp2
  rw [← hw0]
  clear hw0
  have hC : Below w0.heap.size w0 w0.drew := below_drewN (Below.refl _ _) 1
  refine wp_region_held_drew (S := (fun W => W.rangeAt w.heap.size 0 ks ∧ W.rangeAt (w.heap.size + 1) 0 ts)) (by kernel_rfl) (HKeep.out _ hC) (fun hHeld => ?_)
  generalize w0.drew = w0d at *
  refine wpAnyH_take (i := 0) (oi := ⟨some 15, _, _, _, _, _⟩) (v := .agg (ks).toArray) rfl (by kernel_rfl) (by kernel_rfl) (by kernel_rfl) (fun _ _ _ h => h) (yieldsIf_load_mid (by rfl) 29 (.tmp 4) rfl (w.heap.size) 0 rfl (ks) _ (fun W h => h.1) Tryz.underlying29 rfl hi1) hHeld ?_
  try go_frame
  refine wpAnyH_take (i := 1) (oi := ⟨some 16, _, _, _, _, _⟩) (v := ?_) rfl (by kernel_rfl) (by kernel_rfl) (by kernel_rfl) (fun _ _ _ h => h) (Or.inl ⟨by rfl, ?_⟩) hHeld ?_
  rotate_left
  · intro w hSw
    go_simp
    with_reducible rfl
  try go_frame
  refine wpAnyH_take (i := 2) (oi := ⟨some 17, _, _, _, _, _⟩) (v := ?_) rfl (by kernel_rfl) (by kernel_rfl) (by kernel_rfl) (fun _ _ _ h => h) (Or.inl ⟨by rfl, ?_⟩) hHeld ?_
  rotate_left
  · intro w hSw
    go_simp
    with_reducible rfl
  try go_frame
  refine wpAnyH_take (i := 4) (oi := ⟨some 19, _, _, _, _, _⟩) (v := .agg (ts).toArray) rfl (by kernel_rfl) (by kernel_rfl) (by kernel_rfl) (fun _ _ _ h => h) (yieldsIf_load_mid (by rfl) 27 (.tmp 7) rfl (w.heap.size + 1) 0 rfl (ts) _ (fun W h => h.2) Tryz.underlying27 rfl hi2) hHeld ?_
  try go_frame
  refine wpAnyH_ready (rs := [3]) (by kernel_rfl) (by simp) ?_
  refine AllReadyH.cons (o := ⟨some 18, _, _, _, _, _⟩) rfl (fun K hK => ?_) AllReadyH.nil
  go_simp
  go_at_call 36
  refine (STag_any ek mk ks HK.out d raw (by rw [HP.out]; omega) _ w0d (HT.out.below hC) (HA.out.below hC)).mono ?_
  rintro e w0d_tg ⟨rs, Hrs, rfl, hb⟩
  replace hC := hC.trans (hb.mono hC.size)
  refine hK.out _ _ (HKeep.out _ hC) (fun hHeld => ?_)
  clear hK K hb 
  have hte := fun W => HNE.out rs Hrs W
  try go_frame
  refine wpAnyH_take (i := 5) (oi := ⟨some 20, _, _, _, _, _⟩) (v := ?_) rfl (by kernel_rfl) (by kernel_rfl) (by kernel_rfl) (fun _ _ _ h => h) (Or.inl ⟨by rfl, ?_⟩) hHeld ?_
  rotate_left
  · intro w hSw
    go_simp
    with_reducible rfl
  try go_frame
  refine wpAnyH_done (by kernel_rfl) ?_ _
  have HC := Lib.hid (HBL.out.trans (hC.mono HBL.out.size))
  clear hC HKeep hHeld hte HBX HBT
  go_wp2
  go_ret3
  exact ⟨rfl, HC.out⟩
set_option maxRecDepth 100000 in
set_option maxHeartbeats 1000000 in
theorem SOpen_ok (ek mk : List UInt8) (ks : List Value) (hk : KeysV ek mk ks) (d : Int) (raw : List UInt8) (hp : raw.length = 72) (x : Value) (tb : List UInt8) (ts : List Value) (hts : Vec 32 tb ts) (heq : tg mk (nm d) raw = tb) (w : World) (hT : Hm.Tab w) (h : Arg w x raw) :
    Calls Tryz.prog 53 #[.agg ks.toArray, .int .i64 d, x, .agg ts.toArray] w fun e w' => ∃ g, e = .returned (.tuple #[.slice (some ⟨g, 0, none⟩) 64 64, .int .u64 ((ver raw : Nat) : Int), .int .i64 0]) ∧ w.heap.size ≤ g ∧ Hid (Row w' g 5 ((pl ek (nm d) raw).map V8)) ∧ Below w.heap.size w w' := by
  have HK := Lib.hid hk
  have HV := Lib.hid hts
  have Hzk : Hid (ks.toArray.size = 48) := hk.size
  have Hzt : Hid (ts.toArray.size = 32) := hts.size
  obtain ⟨w0, hw0⟩ : ∃ w0, w0 = (w.alloc (.cells ks.toArray 29)).alloc (.cells ts.toArray 27) := ⟨_, rfl⟩
  have HBL : Hid (Below w.heap.size w w0) := by rw [hw0]; exact ((Below.refl _ _).alloc (Nat.le_refl _) _).alloc (by simp) _
  have HBX : Hid (Row w0 w.heap.size 29 ks) := by rw [hw0]; exact (Row.new w 29 ks).alloc _
  have HBT : Hid (Row w0 (w.heap.size + 1) 27 ts) := by rw [hw0]; exact Row.newAt 27 ts (by simp)
  have HSZ : Hid (w0.heap.size = w.heap.size + 1 + 1) := by show _ = _; rw [hw0]; simp
  have HEQ : Hid (∀ rs, Hid (Vec 32 (tg mk (nm d) raw) rs) → ∀ W, (Op.equalIn 10000 27 (.agg rs.toArray) (.agg ts.toArray)).run Tryz.prog W = .ok true W) := fun rs hrs W => by
    rw [arr_eq 27 32 Tryz.underlying27 _ _ rs ts hrs.out HV.out W, decide_eq_true heq]
  clear heq
  have HP := Lib.hid hp
  have HT : Hid (Hm.Tab w0) := hT.below HBL.out
  obtain ⟨b, o, cap, rfl, hcap⟩ : ∃ b o cap, x = .slice (some ⟨b, o, none⟩) 72 cap ∧ 72 ≤ cap := by
    rcases h with ⟨A, e, hn⟩ | ⟨b, o, c, e, _, hc, _⟩
    · rw [hn] at hp; exact absurd hp (by decide)
    · exact ⟨b, o, c, by rw [e, hp], by omega⟩
  have HA : Hid (Arg w0 (.slice (some ⟨b, o, none⟩) 72 cap) raw) := h.below HBL.out
  have HKeep : Hid (∀ W, Below w0.heap.size w0 W → W.rangeAt w.heap.size 0 ks ∧ W.rangeAt (w.heap.size + 1) 0 ts) := fun W hW => ⟨range_row (HBX.out.below hW HBX.out.lt), range_row (HBT.out.below hW HBT.out.lt)⟩
  have hi1 : (Tryz.prog.info? 29).map (·.size) = some ks.length := by rw [HK.out.vec.len]; kernel_rfl
  have hi2 : (Tryz.prog.info? 27).map (·.size) = some ts.length := by rw [HV.out.len]; kernel_rfl
  clear h hk hp hT hts
  go_enter Tryz.func53, Tryz.ntmps53
  go_wp2
  rw [← hw0]
  clear hw0
  have hC : Below w0.heap.size w0 w0.drew := below_drewN (Below.refl _ _) 1
  refine wp_region_held_drew (S := (fun W => W.rangeAt w.heap.size 0 ks ∧ W.rangeAt (w.heap.size + 1) 0 ts)) (by kernel_rfl) (HKeep.out _ hC) (fun hHeld => ?_)
  generalize w0.drew = w0d at *
  refine wpAnyH_take (i := 0) (oi := ⟨some 15, _, _, _, _, _⟩) (v := .agg (ks).toArray) rfl (by kernel_rfl) (by kernel_rfl) (by kernel_rfl) (fun _ _ _ h => h) (yieldsIf_load_mid (by rfl) 29 (.tmp 4) rfl (w.heap.size) 0 rfl (ks) _ (fun W h => h.1) Tryz.underlying29 rfl hi1) hHeld ?_
  try go_frame
  refine wpAnyH_take (i := 1) (oi := ⟨some 16, _, _, _, _, _⟩) (v := ?_) rfl (by kernel_rfl) (by kernel_rfl) (by kernel_rfl) (fun _ _ _ h => h) (Or.inl ⟨by rfl, ?_⟩) hHeld ?_
  rotate_left
  · intro w hSw
    go_simp
    with_reducible rfl
  try go_frame
  refine wpAnyH_take (i := 2) (oi := ⟨some 17, _, _, _, _, _⟩) (v := ?_) rfl (by kernel_rfl) (by kernel_rfl) (by kernel_rfl) (fun _ _ _ h => h) (Or.inl ⟨by rfl, ?_⟩) hHeld ?_
  rotate_left
  · intro w hSw
    go_simp
    with_reducible rfl
  try go_frame
  refine wpAnyH_take (i := 4) (oi := ⟨some 19, _, _, _, _, _⟩) (v := .agg (ts).toArray) rfl (by kernel_rfl) (by kernel_rfl) (by kernel_rfl) (fun _ _ _ h => h) (yieldsIf_load_mid (by rfl) 27 (.tmp 7) rfl (w.heap.size + 1) 0 rfl (ts) _ (fun W h => h.2) Tryz.underlying27 rfl hi2) hHeld ?_
  try go_frame
  refine wpAnyH_ready (rs := [3]) (by kernel_rfl) (by simp) ?_
  refine AllReadyH.cons (o := ⟨some 18, _, _, _, _, _⟩) rfl (fun K hK => ?_) AllReadyH.nil
  go_simp
  go_at_call 36
  refine (STag_any ek mk ks HK.out d raw (by rw [HP.out]; omega) _ w0d (HT.out.below hC) (HA.out.below hC)).mono ?_
  rintro e w0d_tg ⟨rs, Hrs, rfl, hb⟩
  replace hC := hC.trans (hb.mono hC.size)
  refine hK.out _ _ (HKeep.out _ hC) (fun hHeld => ?_)
  clear hK K hb 
  have hte := fun W => HEQ.out rs Hrs W
  try go_frame
  refine wpAnyH_take (i := 5) (oi := ⟨some 20, _, _, _, _, _⟩) (v := ?_) rfl (by kernel_rfl) (by kernel_rfl) (by kernel_rfl) (fun _ _ _ h => h) (Or.inl ⟨by rfl, ?_⟩) hHeld ?_
  rotate_left
  · intro w hSw
    go_simp
    with_reducible rfl
  try go_frame
  refine wpAnyH_done (by kernel_rfl) ?_ _
  have HC := Lib.hid (HBL.out.trans (hC.mono HBL.out.size))
  have HB2 := Lib.hid (HBX.out.below hC HBX.out.lt)
  have HT2 := Lib.hid (HBT.out.below hC HBT.out.lt)
  have HA2 := Lib.hid (HA.out.below hC)
  clear hC HKeep hHeld hte HBX HBT HA HT Hrs HBL
  generalize w0d_tg = w1 at *
  have HA7 : Hid (Arg w1 (.slice (some ⟨b, o, none⟩) 8 cap) (raw.take 8)) := HA2.out.take8 (by rw [HP.out]; omega)
  go_wp2_with fail
  refine (SgetN_any (raw.take 8) (by rw [List.length_take]; omega) _ w1 HA7.out).mono ?_
  rintro e w2 ⟨rfl, hb2⟩
  rw [show num (raw.take 8) = ver raw from rfl]
  have HA8 : Hid (Arg w2 (.slice (some ⟨b, o + 8, none⟩) 64 (cap - 8)) (raw.drop 8)) := (HA2.out.below hb2).drop8 HP.out
  obtain ⟨V, HV1⟩ : ∃ V, Hid (V = ver raw) := ⟨_, rfl⟩
  obtain ⟨D8, HD8⟩ : ∃ D, Hid (D = raw.drop 8) := ⟨_, rfl⟩
  have hV64 : V < 2 ^ 64 := by rw [HV1.out]; exact ver_lt raw
  have HLd : Hid (D8.length = 64) := by show _ = _; rw [HD8.out, List.length_drop, HP.out]
  rw [← HV1.out]
  rw [← HD8.out] at HA8
  replace HC := Lib.hid (HC.out.trans (hb2.mono HC.out.size))
  replace HB2 := Lib.hid (HB2.out.below hb2 HB2.out.lt)
  replace HT2 := Lib.hid (HT2.out.below hb2 HT2.out.lt)
  have HKeep : Hid (∀ W, Below w2.heap.size w2 W → W.rangeAt w.heap.size 0 ks ∧ W.rangeAt (w.heap.size + 1) 0 ts) := fun W hW => ⟨range_row (HB2.out.below hW HB2.out.lt), range_row (HT2.out.below hW HT2.out.lt)⟩
  have hs3 := HC.out.size
  clear HA7 HA2 hb2
  go_wp2
  have hC : Below w2.heap.size w2 w2.drew := below_drewN (Below.refl _ _) 1
  refine wp_region_held_drew (S := (fun W => W.rangeAt w.heap.size 0 ks ∧ W.rangeAt (w.heap.size + 1) 0 ts)) (by kernel_rfl) (HKeep.out _ hC) (fun hHeld => ?_)
  generalize w2.drew = w2d at *
  refine wpAnyH_take (i := 0) (oi := ⟨some 24, _, _, _, _, _⟩) (v := .agg (ks).toArray) rfl (by kernel_rfl) (by kernel_rfl) (by kernel_rfl) (fun _ _ _ h => h) (yieldsIf_load_mid (by rfl) 29 (.tmp 4) rfl (w.heap.size) 0 rfl (ks) _ (fun W h => h.1) Tryz.underlying29 rfl hi1) hHeld ?_
  try go_frame
  refine wpAnyH_take (i := 1) (oi := ⟨some 25, _, _, _, _, _⟩) (v := ?_) rfl (by kernel_rfl) (by kernel_rfl) (by kernel_rfl) (fun _ _ _ h => h) (Or.inl ⟨by rfl, ?_⟩) hHeld ?_
  rotate_left
  · intro w hSw
    go_simp
    with_reducible rfl
  try go_frame
  refine wpAnyH_take (i := 2) (oi := ⟨some 26, _, _, _, _, _⟩) (v := ?_) rfl (by kernel_rfl) (by kernel_rfl) (by kernel_rfl) (fun _ _ _ h => h) (Or.inl ⟨by rfl, ?_⟩) hHeld ?_
  rotate_left
  · intro w hSw
    go_simp
    with_reducible rfl
  try go_frame
  refine wpAnyH_take (i := 3) (oi := ⟨some 27, _, _, _, _, _⟩) (v := ?_) rfl (by kernel_rfl) (by kernel_rfl) (by kernel_rfl) (fun _ _ _ h => h) (Or.inl ⟨by rfl, ?_⟩) hHeld ?_
  rotate_left
  · intro w hSw
    go_simp
    with_reducible rfl
  try go_frame
  refine wpAnyH_take (i := 4) (oi := ⟨some 28, _, _, _, _, _⟩) (v := ?_) rfl (by kernel_rfl) (by kernel_rfl) (by kernel_rfl) (fun _ _ _ h => h) (Or.inl ⟨by rfl, ?_⟩) hHeld ?_
  rotate_left
  · intro w hSw
    have hsl := cut8 b o cap hcap w
    have hsl2 := cut8At b o cap hcap w
    go_simp
    with_reducible rfl
  try go_frame
  refine wpAnyH_take (i := 6) (oi := ⟨some 30, _, _, _, _, _⟩) (v := ?_) rfl (by kernel_rfl) (by kernel_rfl) (by kernel_rfl) (fun _ _ _ h => h) (Or.inl ⟨by rfl, ?_⟩) hHeld ?_
  rotate_left
  · intro w hSw
    go_simp
    with_reducible rfl
  try go_frame
  refine wpAnyH_ready (rs := [5]) (by kernel_rfl) (by simp) ?_
  refine AllReadyH.cons (o := ⟨some 29, _, _, _, _, _⟩) rfl (fun K hK => ?_) AllReadyH.nil
  go_simp
  go_at_call 94
  have hs4 := hC.size
  refine (Scode_any ek mk ks HK.out d V hV64 D8 _ (by rw [HLd.out]; omega) w2d (HA8.out.below hC)).mono ?_
  rintro e w2d_cd ⟨g, rfl, hg, R_cd, hb⟩
  replace hC := hC.trans (hb.mono hC.size)
  refine hK.out _ _ (HKeep.out _ hC) (fun hHeld => ?_)
  clear hK K hb 
  rw [HLd.out]
  try go_frame
  refine wpAnyH_take (i := 7) (oi := ⟨some 8, _, _, _, _, _⟩) (v := ?_) rfl (by kernel_rfl) (by kernel_rfl) (by kernel_rfl) (fun _ _ _ h => h) (Or.inl ⟨by rfl, ?_⟩) hHeld ?_
  rotate_left
  · intro w hSw
    go_simp
    with_reducible rfl
  try go_frame
  refine wpAnyH_take (i := 8) (oi := ⟨some 9, _, _, _, _, _⟩) (v := ?_) rfl (by kernel_rfl) (by kernel_rfl) (by kernel_rfl) (fun _ _ _ h => h) (Or.inl ⟨by rfl, ?_⟩) hHeld ?_
  rotate_left
  · intro w hSw
    go_simp
    with_reducible rfl
  try go_frame
  refine wpAnyH_take (i := 9) (oi := ⟨some 10, _, _, _, _, _⟩) (v := ?_) rfl (by kernel_rfl) (by kernel_rfl) (by kernel_rfl) (fun _ _ _ h => h) (Or.inl ⟨by rfl, ?_⟩) hHeld ?_
  rotate_left
  · intro w hSw
    go_simp
    with_reducible rfl
  try go_frame
  refine wpAnyH_done (by kernel_rfl) ?_ _
  have HC2 := Lib.hid (HC.out.trans (hC.mono HC.out.size))
  rw [HD8.out, HV1.out] at R_cd
  clear hHeld HKeep hC
  go_wp2
  go_ret3
  exact ⟨g, by rw [HV1.out]; rfl, by omega, R_cd, HC2.out⟩
end Go.Proofs.YthbmknpbcgnabaaGreatDoor
namespace Go.Proofs.YthbmknpbcgnabaaGreatDoor
open Go.RowKit Aes Ctr Sl
theorem sees_chgV {w w' : World} {b o : Nat} {vs : List Value} {S : Nat → Nat → Prop} (h : Sees w b o vs) (hc : Chg S w w') (hb : b < w.heap.size) (hn : ∀ o, ¬ S b o) : Sees w' b o vs := fun j v hv => by
  rw [World.cell?_of_block (hc.block b hb hn)]; exact h j v hv
def ArgOn (w : World) (K : Nat → Prop) (v : Value) (bs : List UInt8) : Prop :=
  (∃ A, v = .slice A 0 0 ∧ bs = []) ∨ ∃ b o cap, v = .slice (some ⟨b, o, none⟩) bs.length cap ∧ (b < w.heap.size ∧ K b) ∧ bs.length ≤ cap ∧ Sees w b o (bs.map V8)
def KeyOnC (w : World) (K : Nat → Prop) (p : Nat) (key : List UInt8) : Prop :=
  ∃ ug uc xg xc vs, (K p ∧ K ug ∧ K xg) ∧ p < w.heap.size ∧ Sees w p 0 [.slice (some ⟨ug, 0, none⟩) 44 uc, .slice (some ⟨xg, 0, none⟩) 256 xc] ∧ ug < w.heap.size ∧ Sees w ug 0 vs
    ∧ (vs.length = (wkK key 44).length ∧ ∀ (j : Nat) v q, vs[j]? = some v → (wkK key 44)[j]? = some q → ArgOn w K v q) ∧ xg < w.heap.size ∧ Sees w xg 0 (SBL.map V8)
def KeyOnH (w : World) (K : Nat → Prop) (p : Value) (key : List UInt8) : Prop :=
  ∃ g kb kc rb rc cb cc, p = .pointer (some ⟨g, 0, none⟩) ∧ (g < w.heap.size ∧ Hm.Sees w g 0 [.slice (some ⟨kb, 0, none⟩) 64 kc, .slice (some ⟨rb, 0, none⟩) 8 rc, .slice (some ⟨cb, 0, none⟩) 64 cc]
    ∧ kb < w.heap.size ∧ 64 ≤ kc ∧ Hm.Sees w kb 0 ((Hm.fullK key).map Hm.V8) ∧ rb < w.heap.size ∧ Hm.Sees w rb 0 (Hm.Sha.R0.list.map Hm.V32) ∧ cb < w.heap.size ∧ Hm.Sees w cb 0 (Hm.Sha.K0.map Hm.V32)) ∧ K g ∧ K kb ∧ K rb ∧ K cb
def MKeyOn (w : World) (K : Nat → Prop) (p : Nat) (ek mk : List UInt8) : Prop :=
  ∃ va vb pe pm, K p ∧ p < w.heap.size ∧ Sees w p 0 [va, vb, .pointer (some ⟨pe, 0, none⟩), pm] ∧ ArgOn w K va ek ∧ ArgOn w K vb mk ∧ KeyOnC w K pe ek ∧ KeyOnH w K pm mk
section
variable {w w' : World} {K K' : Nat → Prop} {S : Nat → Nat → Prop} {v : Value} {bs : List UInt8} {p : Nat} {key ek mk : List UInt8}
theorem ArgOn.arg (h : ArgOn w K v bs) : Arg w v bs := by
  rcases h with h | ⟨b, o, cap, e, hb, hl, hs⟩
  · exact .inl h
  · exact .inr ⟨b, o, cap, e, hb.1, hl, hs⟩
theorem ArgOn.of (h : Arg w v bs) (hk : ∀ b o n c, v = .slice (some ⟨b, o, none⟩) n c → K b) : ArgOn w K v bs := by
  rcases h with h | ⟨b, o, cap, e, hb, hl, hs⟩
  · exact .inl h
  · exact .inr ⟨b, o, cap, e, ⟨hb, hk _ _ _ _ e⟩, hl, hs⟩
theorem ArgOn.chg (h : ArgOn w K v bs) (hc : Chg S w w') (hn : ∀ k o, K k → ¬ S k o) : ArgOn w' K v bs := by
  rcases h with h | ⟨b, o, cap, e, hb, hl, hs⟩
  · exact .inl h
  · exact .inr ⟨b, o, cap, e, ⟨Nat.lt_of_lt_of_le hb.1 hc.size, hb.2⟩, hl, sees_chgV hs hc hb.1 fun o' => hn b o' hb.2⟩
theorem ArgOn.below (h : ArgOn w K v bs) (hb : Below w.heap.size w w') : ArgOn w' K v bs := h.chg (Chg.below hb fun _ _ => False) fun _ _ _ x => x
theorem ArgOn.imp (h : ArgOn w K v bs) (hk : ∀ k, K k → k < w.heap.size → K' k) : ArgOn w K' v bs := by
  rcases h with h | ⟨b, o, cap, e, hb, hl, hs⟩
  · exact .inl h
  · exact .inr ⟨b, o, cap, e, ⟨hb.1, hk b hb.2 hb.1⟩, hl, hs⟩
theorem KeyOnC.at (h : KeyOnC w K p key) : KeyAt w p key := by
  obtain ⟨ug, uc, xg, xc, vs, _, h1, h2, h3, h4, h5, h6, h7⟩ := h
  exact ⟨ug, uc, xg, xc, vs, h1, h2, h3, h4, ⟨h5.1, fun j v q hv hq => (h5.2 j v q hv hq).arg⟩, h6, h7⟩
theorem KeyOnC.chg (h : KeyOnC w K p key) (hc : Chg S w w') (hn : ∀ k o, K k → ¬ S k o) : KeyOnC w' K p key := by
  obtain ⟨ug, uc, xg, xc, vs, ⟨k1, k2, k3⟩, h1, h2, h3, h4, h5, h6, h7⟩ := h
  have hs := hc.size
  exact ⟨ug, uc, xg, xc, vs, ⟨k1, k2, k3⟩, by omega, sees_chgV h2 hc h1 fun o => hn _ o k1, by omega, sees_chgV h4 hc h3 fun o => hn _ o k2, ⟨h5.1, fun j v q hv hq => (h5.2 j v q hv hq).chg hc hn⟩, by omega, sees_chgV h7 hc h6 fun o => hn _ o k3⟩
theorem KeyOnC.imp (h : KeyOnC w K p key) (hk : ∀ k, K k → k < w.heap.size → K' k) : KeyOnC w K' p key := by
  obtain ⟨ug, uc, xg, xc, vs, ⟨k1, k2, k3⟩, h1, h2, h3, h4, h5, h6, h7⟩ := h
  exact ⟨ug, uc, xg, xc, vs, ⟨hk _ k1 h1, hk _ k2 h3, hk _ k3 h6⟩, h1, h2, h3, h4, ⟨h5.1, fun j v q hv hq => (h5.2 j v q hv hq).imp hk⟩, h6, h7⟩
theorem KeyOnH.at {p : Value} (h : KeyOnH w K p key) : Hm.KeyAt w p key := by
  obtain ⟨g, kb, kc, rb, rc, cb, cc, e, hh, _⟩ := h
  exact ⟨g, kb, kc, rb, rc, cb, cc, e, hh⟩
theorem KeyOnH.chg {p : Value} (h : KeyOnH w K p key) (hc : Chg S w w') (hn : ∀ k o, K k → ¬ S k o) : KeyOnH w' K p key := by
  obtain ⟨g, kb, kc, rb, rc, cb, cc, e, ⟨h1, h2, h3, h4, h5, h6, h7, h8, h9⟩, k1, k2, k3, k4⟩ := h
  have hs := hc.size
  exact ⟨g, kb, kc, rb, rc, cb, cc, e, ⟨by omega, sees_chgV h2 hc h1 fun o => hn _ o k1, by omega, h4, sees_chgV h5 hc h3 fun o => hn _ o k2, by omega, sees_chgV h7 hc h6 fun o => hn _ o k3, by omega, sees_chgV h9 hc h8 fun o => hn _ o k4⟩, k1, k2, k3, k4⟩
theorem KeyOnH.imp {p : Value} (h : KeyOnH w K p key) (hk : ∀ k, K k → k < w.heap.size → K' k) : KeyOnH w K' p key := by
  obtain ⟨g, kb, kc, rb, rc, cb, cc, e, ⟨h1, h2, h3, h4, h5, h6, h7, h8, h9⟩, k1, k2, k3, k4⟩ := h
  exact ⟨g, kb, kc, rb, rc, cb, cc, e, ⟨h1, h2, h3, h4, h5, h6, h7, h8, h9⟩, hk _ k1 h1, hk _ k2 h3, hk _ k3 h6, hk _ k4 h8⟩
theorem KeyOnH.of {B : Nat} {p : Value} (h : Hm.KeyFrom w B p key) (hk : ∀ k, B ≤ k → K k) : KeyOnH w K p key := by
  obtain ⟨g, kb, kc, rb, rc, cb, cc, e, hh, b1, b2, b3, b4⟩ := h
  exact ⟨g, kb, kc, rb, rc, cb, cc, e, hh, hk _ b1, hk _ b2, hk _ b3, hk _ b4⟩
theorem MKeyOn.at (h : MKeyOn w K p ek mk) : MKeyAt w p ek mk := by
  obtain ⟨va, vb, pe, pm, _, h1, h2, h3, h4, h5, h6⟩ := h
  exact ⟨va, vb, pe, pm, h1, h2, h3.arg, h4.arg, h5.at, h6.at⟩
theorem MKeyOn.chg (h : MKeyOn w K p ek mk) (hc : Chg S w w') (hn : ∀ k o, K k → ¬ S k o) : MKeyOn w' K p ek mk := by
  obtain ⟨va, vb, pe, pm, k1, h1, h2, h3, h4, h5, h6⟩ := h
  exact ⟨va, vb, pe, pm, k1, Nat.lt_of_lt_of_le h1 hc.size, sees_chgV h2 hc h1 fun o => hn _ o k1, h3.chg hc hn, h4.chg hc hn, h5.chg hc hn, h6.chg hc hn⟩
theorem MKeyOn.below (h : MKeyOn w K p ek mk) (hb : Below w.heap.size w w') : MKeyOn w' K p ek mk := h.chg (Chg.below hb fun _ _ => False) fun _ _ _ x => x
theorem MKeyOn.imp (h : MKeyOn w K p ek mk) (hk : ∀ k, K k → k < w.heap.size → K' k) : MKeyOn w K' p ek mk := by
  obtain ⟨va, vb, pe, pm, k1, h1, h2, h3, h4, h5, h6⟩ := h
  exact ⟨va, vb, pe, pm, hk _ k1 h1, h1, h2, h3.imp hk, h4.imp hk, h5.imp hk, h6.imp hk⟩
theorem Rowed.valsOn {Lo B : Nat} {W : World} {v : Value} {ps : List (List UInt8)} (h : Rowed Lo B W v ps) (hp : 0 < ps.length) (hLo : Lo ≤ B) :
    ∃ g cap vs, v = .slice (some ⟨g, 0, none⟩) ps.length cap ∧ (g < W.heap.size ∧ Lo ≤ g) ∧ Sees W g 0 vs ∧ vs.length = ps.length ∧ ∀ (j : Nat) v q, vs[j]? = some v → ps[j]? = some q → ArgOn W (fun k => Lo ≤ k) v q := by
  obtain ⟨vs, ho, hl, hw⟩ := h
  obtain ⟨g, cap, e, hB, hg, hs⟩ := ho.form (by omega)
  refine ⟨g, cap, vs, by rw [e, hl], ⟨hg, by omega⟩, hs, hl, fun j u p hu hq => ?_⟩
  obtain ⟨b, o, c, e1, hc, hlt, _, hs1⟩ := hw j u p hu hq
  exact .inr ⟨b, o, c, e1, hlt, hc, hs1⟩
end
end Go.Proofs.YthbmknpbcgnabaaGreatDoor
