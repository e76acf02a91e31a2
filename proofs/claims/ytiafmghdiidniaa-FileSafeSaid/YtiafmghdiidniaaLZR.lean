/-
  THE WALKS of the landed Resize and Write.
-/
import Derived.Test.YtiafmghdiidniaaLZQ
namespace Go.Proofs.Ytiafmghdiidniaa
set_option maxRecDepth 100000
set_option maxHeartbeats 1000000
open Go.RowKit Cdc Inn Fil

/-- What Resize hands back, and leaves. -/
def ResP (g : Geo) (x : Ino) (z : Int) (bl : List (List UInt8)) (r : Ino) (h : Int) (bl' : List (List UInt8)) : Prop :=
  if gmay g = false ∨ odd x = true ∨ z < 0 then r = zero ∧ h = 1 ∧ bl' = bl
  else if 2304 < z then r = zero ∧ h = 9 ∧ bl' = bl
  else EditP x bl ((draft0 x bl).resize bl g z) r h bl'
/-- What Write hands back, and leaves. -/
def WriP (g : Geo) (x : Ino) (off : Int) (b : List UInt8) (bl : List (List UInt8)) (r : Ino) (h : Int) (bl' : List (List UInt8)) : Prop :=
  if gmay g = false ∨ odd x = true ∨ off < 0 then r = zero ∧ h = 1 ∧ bl' = bl
  else if b = [] then r = x ∧ h = 0 ∧ bl' = bl
  else if 2304 < off + b.length then r = zero ∧ h = 9 ∧ bl' = bl
  else EditP x bl ((draft0 x bl).write bl g off.toNat b) r h bl'
theorem draft_ok {x : Ino} {bl : List (List UInt8)} (hx : odd x = false) (h0 : numsE x bl = 0) (hl : ∀ i, i < bl.length → (Fil.blk bl i).length = 64) : (draft0 x bl).Ok ∧ (draft0 x bl).nums.length = need (draft0 x bl).z := by
  have hb := may_bounds (odd_no hx).1
  have hd := data_le hb.2.2.2.1
  unfold numsE at h0
  by_cases h4 : 4 < data x.b
  · rw [if_pos h4] at h0
    by_cases hdl : x.d.toNat < bl.length
    · rw [if_pos hdl] at h0
      by_cases hall : (further x bl).all numOk = true
      · have hfl : (further x bl).length = data x.b - 4 := by
          unfold further
          rw [if_pos h4, List.length_map, List.length_take, hl _ hdl]
          omega
        have hnl : (allOf x bl).length = need x.b := by
          rw [allOf_many h4, List.length_append, hfl]
          unfold need
          rw [if_pos h4]
          show 5 + _ = _
          omega
        refine ⟨⟨fun n hn => ?_, ?_, hb.2.2.1, hb.2.2.2.1⟩, hnl⟩
        · have hn' : n ∈ allOf x bl := hn
          rw [allOf_many h4, List.mem_append] at hn'
          rcases hn' with hn' | hn'
          · simp only [five, List.mem_cons, List.not_mem_nil, or_false] at hn'
            omega
          · rw [List.all_eq_true] at hall
            have := hall n hn'
            unfold numOk at this
            simp only [Bool.and_eq_true, decide_eq_true_eq] at this
            omega
        · show (allOf x bl).length ≤ 37
          rw [hnl]; unfold need; rw [if_pos h4]; omega
      · rw [if_neg hall] at h0; cases h0
    · rw [if_neg hdl] at h0; cases h0
  · have hnl : (allOf x bl).length = need x.b := by
      rw [allOf_few h4, List.length_take]
      have : need x.b ≤ 4 := by unfold need; rw [if_neg h4]; omega
      show min _ 5 = _
      omega
    refine ⟨⟨fun n hn => ?_, ?_, hb.2.2.1, hb.2.2.2.1⟩, hnl⟩
    · have hn' : n ∈ allOf x bl := hn
      rw [allOf_few h4] at hn'
      have hn2 := List.mem_of_mem_take hn'
      simp only [five, List.mem_cons, List.not_mem_nil, or_false] at hn2
      omega
    · show (allOf x bl).length ≤ 37
      rw [hnl]
      unfold need; rw [if_neg h4]; omega
section
variable {w : World} {F : Nat → Prop} {m R cap : Nat} {bl : List (List UInt8)} {vs : Nat → Value} {gs : Nat → Nat}
theorem FiResF_any {B D : Nat} {g : Geo} {kd : Int} {d : Dr} {nv : Value} {vd : Nat → Value} {gd : Nat → Nat} (h : DrL w B D m g kd d nv vd gd) (hs : StB w B m bl) (hB : B ≤ w.heap.size) (hgm : gmay g = true) (hd : d.Ok) (hlen : d.nums.length = need d.z) (z : Nat) (hz : z ≤ 2304) {q : Nat} (hq : w.cell? ⟨q, 0, none⟩ = some (.int .i64 (z : Int))) :
    Calls Try.prog 29 #[.pointer (some ⟨D, 0, none⟩), .pointer (some ⟨q, 0, none⟩)] w fun e w' => Turns B D m g kd w (d.resize bl g z) e w' := by
  have HR := Lib.hid (FiDResize_run h hs hB hgm hd hlen z hz _ rfl)
  clear h hs hd hlen
  go_enter Try.func29, Try.ntmps29
  go_wp2_with fail
  refine HR.out.mono ?_
  rintro e w1 ⟨hB1, hm⟩
  rcases hr : d.resize bl g z with er | d'
  · rw [hr] at hm
    simp only at hm
    subst hm
    go_wp2
    go_ret
    refine ⟨hB1, ?_⟩
    rw [hr]
    rfl
  · rw [hr] at hm
    simp only at hm
    obtain ⟨rfl, ha⟩ := hm
    have HA := Lib.hid ha
    have HBx := Lib.hid hB1
    clear ha hB1
    go_wp2
    go_ret
    refine ⟨HBx.out, ?_⟩
    rw [hr]
    exact ⟨rfl, HA.out⟩
theorem FiResize_run (h : MemL w F m bl R cap vs gs) (g : Geo) (x : Ino) (z : Int) (hg : geoIn g) (hf : x.fits) (hz : In64 z) :
    Calls Try.prog 13 #[sto m, .agg #[.int .i64 g.n, .int .i64 g.k], .agg (inoC x), .int .i64 z] w fun e w' =>
      ∃ r h bl', e = .returned (.tuple #[.agg (inoC r), .int .i64 h]) ∧ ResP g x z bl r h bl' ∧ MemL w' F m bl' R cap vs gs ∧ Chg (fun k _ => F k) w w' := by
  have HN := Lib.hid (FiNil_no m)
  have HM := Lib.hid (fun W => FiMay_any g W hg)
  have HI := Lib.hid (fun W => FiIsFile_any x hf W)
  have hF := h.lt
  obtain ⟨hz1, hz2⟩ := hz
  have HQ0 : Hid (gmay g = false ∨ odd x = true ∨ z < 0 → ResP g x z bl zero 1 bl) := fun hh => by unfold ResP; rw [if_pos hh]; exact ⟨rfl, rfl, rfl⟩
  have HQ9 : Hid (¬ (gmay g = false ∨ odd x = true ∨ z < 0) → 2304 < z → ResP g x z bl zero 9 bl) := fun hh hb => by unfold ResP; rw [if_neg hh, if_pos hb]; exact ⟨rfl, rfl, rfl⟩
  have HQe : Hid (¬ (gmay g = false ∨ odd x = true ∨ z < 0) → ¬ 2304 < z → ∀ r h bl', EditP x bl ((draft0 x bl).resize bl g z) r h bl' → ResP g x z bl r h bl') := fun hh hb r h bl' he => by unfold ResP; rw [if_neg hh, if_neg hb]; exact he
  have HEd : Hid (gmay g = true → odd x = false → 0 ≤ z → z ≤ 2304 → ∀ W, Below w.heap.size w W → W.cell? ⟨w.heap.size + 1 + 1, 0, none⟩ = some (.int .i64 z) → w.heap.size + 4 ≤ W.heap.size → Calls Try.prog 28 #[sto m, .agg #[.int .i64 g.n, .int .i64 g.k], .agg (inoC x), .func (.func 29) #[] #[.pointer (some ⟨w.heap.size + 1 + 1, 0, none⟩)]] W fun e w' =>
      ∃ r h bl', e = .returned (.tuple #[.agg (inoC r), .int .i64 h]) ∧ EditP x bl ((draft0 x bl).resize bl g z) r h bl' ∧ MemL w' F m bl' R cap vs gs ∧ Chg (fun k _ => F k) W w') := fun hgm hx h0 h1 W hW hc hsz => by
    have hW2 := h.below hW
    obtain ⟨Z, rfl⟩ : ∃ Z : Nat, z = (Z : Int) := ⟨z.toNat, by omega⟩
    have hlen : ∀ i, i < bl.length → (Fil.blk bl i).length = 64 := fun i hi => (h.blk i hi).len
    refine FiEdit_any hW2 g x hf hx 29 _ _ (fun _ _ => rfl) (fun B W' D nv vd gd he hB hB2 hWW hL => ?_) (fun he d hd => ?_) (fun er he => ?_) (fun k hk => Nat.lt_of_lt_of_le (hF k hk) hW.size)
    · obtain ⟨hO, hl⟩ := draft_ok hx he hlen
      refine FiResF_any hL ⟨F, R, cap, vs, gs, hW2.below hWW, fun k hk => ?_⟩ hB2 hgm hO hl Z (by omega) ?_
      · have := hF k hk; have := hW.size; omega
      · rw [hWW.cell (by show w.heap.size + 1 + 1 < W.heap.size; omega)]; exact hc
    · obtain ⟨hO, hl⟩ := draft_ok hx he hlen
      exact (resize_ok hgm hO (by omega) (by omega) hd).1
    · rcases resize_err he with e | e <;> omega
  obtain ⟨w0, hw0⟩ : ∃ w0, w0 = (((w.alloc (.cells #[.int .i64 g.n, .int .i64 g.k] 23)).alloc (.cells (inoC x) 40)).alloc (.cells #[.int .i64 z] 3)).alloc (.cells #[.int .i64 0, .int .i64 0, .int .i64 0, .int .i64 0, .int .i64 0, .int .i64 0, .int .i64 0] 40) := ⟨_, rfl⟩
  have s0 : w0.heap.size = w.heap.size + 4 := by rw [hw0]; simp
  have HB0 : Hid (Below w.heap.size w w0) := by rw [hw0]; exact ((((Below.refl _ _).alloc (Nat.le_refl _) _).alloc (by simp) _).alloc (by simp; omega) _).alloc (by simp; omega) _
  have HG0 : Hid (Row w0 w.heap.size 23 [.int .i64 g.n, .int .i64 g.k]) := by rw [hw0]; exact (((Row.new w 23 _).alloc _).alloc _).alloc _
  have HI0 : Hid (Row w0 (w.heap.size + 1) 40 (x.l.map VI)) := by rw [hw0]; exact Row.alloc (Row.alloc (Row.newAt 40 (x.l.map VI) (by simp)) _) _
  have HV0 : Hid (Row w0 (w.heap.size + 1 + 1) 3 [.int .i64 z]) := by rw [hw0]; exact Row.alloc (Row.newAt 3 _ (by simp)) _
  have HZ0 : Hid (Row w0 (w.heap.size + 1 + 1 + 1) 40 Z7) := by rw [hw0]; exact Row.newAt 40 Z7 (by simp)
  obtain ⟨r1, hr1⟩ : ∃ r, r = gmay g := ⟨_, rfl⟩
  obtain ⟨r2, hr2⟩ : ∃ r, r = odd x := ⟨_, rfl⟩
  rw [← hr1] at HM HQ0 HQ9 HQe HEd
  rw [← hr2] at HI HQ0 HQ9 HQe HEd
  obtain ⟨gn, gk⟩ := g
  have HIc := Lib.hid (inoC_l x)
  obtain ⟨xk, xb, b0, b1, b2, b3, d⟩ := x
  simp only [inoC, Ino.l] at HI HEd HI0 hw0 ⊢
  clear hr1 hr2 hF hg hf
  go_enter Try.func13, Try.ntmps13
  go_wp2_with fail
  rw [← hw0]
  clear hw0
  refine (HN.out _).mono ?_
  rintro e w1 ⟨rfl, rfl⟩
  have cg0 := HG0.out.cell 0
  have cg1 := HG0.out.cell 1
  simp only [List.getElem?_cons_zero, List.getElem?_cons_succ] at cg0 cg1
  go_wp2_with fail
  refine (HM.out _).mono ?_
  rintro e w2 ⟨rfl, hB2⟩
  have HB2 := Lib.hid (HB0.out.trans (hB2.mono HB0.out.size))
  have HG2 := Lib.hid (HG0.out.below hB2 HG0.out.lt)
  have HI2 := Lib.hid (HI0.out.below hB2 HI0.out.lt)
  have HV2 := Lib.hid (HV0.out.below hB2 HV0.out.lt)
  have HZ2 := Lib.hid (HZ0.out.below hB2 HZ0.out.lt)
  have s2 : w.heap.size + 4 ≤ w2.heap.size := by have := hB2.size; omega
  clear hB2 HB0 HG0 HI0 HV0 HZ0 HM HN cg0 cg1 s0
  cases r1 with
  | false =>
    have HP : Hid (ResP ⟨gn, gk⟩ ⟨xk, xb, b0, b1, b2, b3, d⟩ z bl zero 1 bl) := HQ0.out (.inl rfl)
    clear HQ0 HQ9 HQe HEd HI
    go_wp2_with (refine wpList_store_row rfl 40 (.tmp 8) (.tmp 26) rfl (w.heap.size + 1 + 1 + 1) #[.int .i64 0, .int .i64 0, .int .i64 0, .int .i64 0, .int .i64 0, .int .i64 0, .int .i64 0] rfl rfl 40 _ HZ2.out z7size z7len z7one ?_)
    have hlast : (w2.setRow (w.heap.size + 1 + 1 + 1) #[.int .i64 0, .int .i64 0, .int .i64 0, .int .i64 0, .int .i64 0, .int .i64 0, .int .i64 0]).heap[w.heap.size + 1 + 1 + 1]? = some (.cells #[.int .i64 0, .int .i64 0, .int .i64 0, .int .i64 0, .int .i64 0, .int .i64 0, .int .i64 0] 40 (0, 0)) := HZ2.out.whole Z7
    have HBy := below_setRow' HB2.out (k := w.heap.size + 1 + 1 + 1) (by omega) #[.int .i64 0, .int .i64 0, .int .i64 0, .int .i64 0, .int .i64 0, .int .i64 0, .int .i64 0]
    (try simp only [Exit.inBlock, Exit.then])
    refine bodyPost_ret (v := .tuple #[.agg #[.int .i64 0, .int .i64 0, .int .i64 0, .int .i64 0, .int .i64 0, .int .i64 0, .int .i64 0], .int .i64 1]) (results_row_tmpF (p := 8) (u := 9) rfl _ _ (w.heap.size + 1 + 1 + 1) 40 _ (0, 0) _ rfl hlast Try.underlying40 rfl (by kernel_rfl)) rfl ?_
    exact ⟨zero, 1, bl, rfl, HP.out, h.below HBy, Chg.below HBy _⟩
  | true =>
    have ci0 := HI2.out.cell 0
    have ci1 := HI2.out.cell 1
    have ci2 := HI2.out.cell 2
    have ci3 := HI2.out.cell 3
    have ci4 := HI2.out.cell 4
    have ci5 := HI2.out.cell 5
    have ci6 := HI2.out.cell 6
    simp only [VI, List.map_cons, List.map_nil, List.getElem?_cons_zero, List.getElem?_cons_succ] at ci0 ci1 ci2 ci3 ci4 ci5 ci6
    go_wp2_with fail
    refine (HI.out _).mono ?_
    rintro e w3 ⟨rfl, hB3⟩
    have HB3 := Lib.hid (HB2.out.trans (hB3.mono HB2.out.size))
    have HG3 := Lib.hid (HG2.out.below hB3 HG2.out.lt)
    have HI3 := Lib.hid (HI2.out.below hB3 HI2.out.lt)
    have HV3 := Lib.hid (HV2.out.below hB3 HV2.out.lt)
    have HZ3 := Lib.hid (HZ2.out.below hB3 HZ2.out.lt)
    have s3 : w.heap.size + 4 ≤ w3.heap.size := by have := hB3.size; omega
    clear hB3 HB2 HG2 HI2 HV2 HZ2 HI ci0 ci1 ci2 ci3 ci4 ci5 ci6 s2
    cases r2 with
    | true =>
      have HP : Hid (ResP ⟨gn, gk⟩ ⟨xk, xb, b0, b1, b2, b3, d⟩ z bl zero 1 bl) := HQ0.out (.inr (.inl rfl))
      clear HQ0 HQ9 HQe HEd
      go_wp2_with (refine wpList_store_row rfl 40 (.tmp 8) (.tmp 26) rfl (w.heap.size + 1 + 1 + 1) #[.int .i64 0, .int .i64 0, .int .i64 0, .int .i64 0, .int .i64 0, .int .i64 0, .int .i64 0] rfl rfl 40 _ HZ3.out z7size z7len z7one ?_)
      have hlast : (w3.setRow (w.heap.size + 1 + 1 + 1) #[.int .i64 0, .int .i64 0, .int .i64 0, .int .i64 0, .int .i64 0, .int .i64 0, .int .i64 0]).heap[w.heap.size + 1 + 1 + 1]? = some (.cells #[.int .i64 0, .int .i64 0, .int .i64 0, .int .i64 0, .int .i64 0, .int .i64 0, .int .i64 0] 40 (0, 0)) := HZ3.out.whole Z7
      have HBy := below_setRow' HB3.out (k := w.heap.size + 1 + 1 + 1) (by omega) #[.int .i64 0, .int .i64 0, .int .i64 0, .int .i64 0, .int .i64 0, .int .i64 0, .int .i64 0]
      (try simp only [Exit.inBlock, Exit.then])
      refine bodyPost_ret (v := .tuple #[.agg #[.int .i64 0, .int .i64 0, .int .i64 0, .int .i64 0, .int .i64 0, .int .i64 0, .int .i64 0], .int .i64 1]) (results_row_tmpF (p := 8) (u := 9) rfl _ _ (w.heap.size + 1 + 1 + 1) 40 _ (0, 0) _ rfl hlast Try.underlying40 rfl (by kernel_rfl)) rfl ?_
      exact ⟨zero, 1, bl, rfl, HP.out, h.below HBy, Chg.below HBy _⟩
    | false =>
      have cv := HV3.out.cell 0
      simp only [List.getElem?_cons_zero] at cv
      by_cases hz0 : z < 0
      · have HP : Hid (ResP ⟨gn, gk⟩ ⟨xk, xb, b0, b1, b2, b3, d⟩ z bl zero 1 bl) := HQ0.out (.inr (.inr hz0))
        clear HQ0 HQ9 HQe HEd
        go_wp2_with (refine wpList_store_row rfl 40 (.tmp 8) (.tmp 26) rfl (w.heap.size + 1 + 1 + 1) #[.int .i64 0, .int .i64 0, .int .i64 0, .int .i64 0, .int .i64 0, .int .i64 0, .int .i64 0] rfl rfl 40 _ HZ3.out z7size z7len z7one ?_)
        have hlast : (w3.setRow (w.heap.size + 1 + 1 + 1) #[.int .i64 0, .int .i64 0, .int .i64 0, .int .i64 0, .int .i64 0, .int .i64 0, .int .i64 0]).heap[w.heap.size + 1 + 1 + 1]? = some (.cells #[.int .i64 0, .int .i64 0, .int .i64 0, .int .i64 0, .int .i64 0, .int .i64 0, .int .i64 0] 40 (0, 0)) := HZ3.out.whole Z7
        have HBy := below_setRow' HB3.out (k := w.heap.size + 1 + 1 + 1) (by omega) #[.int .i64 0, .int .i64 0, .int .i64 0, .int .i64 0, .int .i64 0, .int .i64 0, .int .i64 0]
        (try simp only [Exit.inBlock, Exit.then])
        refine bodyPost_ret (v := .tuple #[.agg #[.int .i64 0, .int .i64 0, .int .i64 0, .int .i64 0, .int .i64 0, .int .i64 0, .int .i64 0], .int .i64 1]) (results_row_tmpF (p := 8) (u := 9) rfl _ _ (w.heap.size + 1 + 1 + 1) 40 _ (0, 0) _ rfl hlast Try.underlying40 rfl (by kernel_rfl)) rfl ?_
        exact ⟨zero, 1, bl, rfl, HP.out, h.below HBy, Chg.below HBy _⟩
      · have hno : ¬ (true = false ∨ false = true ∨ z < 0) := by rintro (h | h | h) <;> first | cases h | exact hz0 h
        by_cases hbig : 2304 < z
        · have HP : Hid (ResP ⟨gn, gk⟩ ⟨xk, xb, b0, b1, b2, b3, d⟩ z bl zero 9 bl) := HQ9.out hno hbig
          clear HQ0 HQ9 HQe HEd hno
          go_wp2_with (refine wpList_store_row rfl 40 (.tmp 8) (.tmp 29) rfl (w.heap.size + 1 + 1 + 1) #[.int .i64 0, .int .i64 0, .int .i64 0, .int .i64 0, .int .i64 0, .int .i64 0, .int .i64 0] rfl rfl 40 _ HZ3.out z7size z7len z7one ?_)
          have hlast : (w3.setRow (w.heap.size + 1 + 1 + 1) #[.int .i64 0, .int .i64 0, .int .i64 0, .int .i64 0, .int .i64 0, .int .i64 0, .int .i64 0]).heap[w.heap.size + 1 + 1 + 1]? = some (.cells #[.int .i64 0, .int .i64 0, .int .i64 0, .int .i64 0, .int .i64 0, .int .i64 0, .int .i64 0] 40 (0, 0)) := HZ3.out.whole Z7
          have HBy := below_setRow' HB3.out (k := w.heap.size + 1 + 1 + 1) (by omega) #[.int .i64 0, .int .i64 0, .int .i64 0, .int .i64 0, .int .i64 0, .int .i64 0, .int .i64 0]
          (try simp only [Exit.inBlock, Exit.then])
          refine bodyPost_ret (v := .tuple #[.agg #[.int .i64 0, .int .i64 0, .int .i64 0, .int .i64 0, .int .i64 0, .int .i64 0, .int .i64 0], .int .i64 9]) (results_row_tmpF (p := 8) (u := 9) rfl _ _ (w.heap.size + 1 + 1 + 1) 40 _ (0, 0) _ rfl hlast Try.underlying40 rfl (by kernel_rfl)) rfl ?_
          exact ⟨zero, 9, bl, rfl, HP.out, h.below HBy, Chg.below HBy _⟩
        · have HQ : Hid (∀ r h bl', EditP ⟨xk, xb, b0, b1, b2, b3, d⟩ bl ((draft0 ⟨xk, xb, b0, b1, b2, b3, d⟩ bl).resize bl ⟨gn, gk⟩ z) r h bl' → ResP ⟨gn, gk⟩ ⟨xk, xb, b0, b1, b2, b3, d⟩ z bl r h bl') := by first | exact HQe.out hno hbig | exact HQe.out hno (by omega)
          have HE := Lib.hid (HEd.out (by first | trivial | rfl) (by first | trivial | rfl) (by omega) (by omega) w3 HB3.out cv s3)
          have cg0 := HG3.out.cell 0
          have cg1 := HG3.out.cell 1
          have ci0 := HI3.out.cell 0
          have ci1 := HI3.out.cell 1
          have ci2 := HI3.out.cell 2
          have ci3 := HI3.out.cell 3
          have ci4 := HI3.out.cell 4
          have ci5 := HI3.out.cell 5
          have ci6 := HI3.out.cell 6
          simp only [VI, List.map_cons, List.map_nil, List.getElem?_cons_zero, List.getElem?_cons_succ] at cg0 cg1 ci0 ci1 ci2 ci3 ci4 ci5 ci6
          clear HQ0 HQ9 HQe HEd hno
          go_wp2_with fail
          refine HE.out.mono ?_
          rintro e w4 ⟨rr, hh, bl', rfl, hEp, hM4, hC4⟩
          have HP := Lib.hid (HQ.out _ _ _ hEp)
          have HM4 := Lib.hid hM4
          have hCb : Chg (fun k _ => F k) w w4 := (Chg.below HB3.out _).then hC4
          have HC4 := Lib.hid hCb
          have hFn : ∀ k, F k → k < w.heap.size := h.lt
          have HZ4 : Hid (Row w4 (w.heap.size + 1 + 1 + 1) 40 Z7) := HZ3.out.same (hC4.block _ HZ3.out.lt fun o hf => by have := hFn _ hf; omega)
          obtain ⟨cs, HCs⟩ : ∃ cs, Hid (cs = inoC rr) := ⟨_, rfl⟩
          have Hsz : Hid ((Try.prog.info? 40).map (·.size) = some cs.size) := by show _ = _; rw [HCs.out]; kernel_rfl
          have Hln : Hid (Z7.toArray.size = cs.size) := by show _ = _; rw [HCs.out]; rfl
          have Hone : Hid (cs.all (·.oneCell') = true) := by show _ = _; rw [HCs.out, inoC_l]; exact oneIs _
          have e9 : (#[.int .i64 rr.k, .int .i64 rr.b, .int .i64 rr.b0, .int .i64 rr.b1, .int .i64 rr.b2, .int .i64 rr.b3, .int .i64 rr.d] : Array Value) = cs := HCs.out.symm
          rw [e9]
          clear e9 hEp hM4 hC4 hCb HE HQ
          go_wp2_with (refine wpList_store_row rfl 40 (.tmp 8) (.tmp 35) rfl (w.heap.size + 1 + 1 + 1) cs rfl rfl 40 _ HZ4.out Hsz.out Hln.out Hone.out ?_)
          have hlast : (w4.setRow (w.heap.size + 1 + 1 + 1) cs).heap[w.heap.size + 1 + 1 + 1]? = some (.cells cs 40 (0, 0)) := by
            rw [HCs.out, inoC_l]; exact HZ4.out.whole _
          (try simp only [Exit.inBlock, Exit.then])
          refine bodyPost_ret (v := .tuple #[.agg cs, .int .i64 hh]) (results_row_tmpF (p := 8) (u := 9) rfl _ _ (w.heap.size + 1 + 1 + 1) 40 _ (0, 0) _ rfl hlast Try.underlying40 rfl Hsz.out) rfl ?_
          exact ⟨rr, hh, bl', by rw [HCs.out]; rfl, HP.out, HM4.out.block (fun k hk => setRow_other w4 _ k cs (by have := hFn k hk; omega)), setRow_chg HC4.out (by omega) _⟩
end
end Go.Proofs.Ytiafmghdiidniaa
