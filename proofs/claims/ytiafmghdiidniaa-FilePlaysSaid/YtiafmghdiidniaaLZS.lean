/-
  THE WALK of the landed Write.
-/
import Derived.Test.YtiafmghdiidniaaLZR
namespace Go.Proofs.Ytiafmghdiidniaa
set_option maxRecDepth 100000
set_option maxHeartbeats 1000000
open Go.RowKit Cdc Inn Fil

namespace Fil
theorem fill_same {bl : List (List UInt8)} : ∀ (n : Nat) {d e : Dr} {off : Nat} {b : List UInt8}, d.fill bl n off b = some e → e.nums = d.nums ∧ e.z = d.z
  | 0, d, e, off, b, h => by rw [Dr.fill] at h; injection h with h; subst h; exact ⟨rfl, rfl⟩
  | n + 1, d, e, off, b, h => by
    rw [Dr.fill] at h
    split at h
    · injection h with h; subst h; exact ⟨rfl, rfl⟩
    · rw [Option.bind_eq_some_iff] at h
      obtain ⟨f, hf, he⟩ := h
      obtain ⟨l1, l2, _⟩ := load_nums hf
      obtain ⟨f1, f2⟩ := fill_same n he
      exact ⟨f1.trans l1, f2.trans l2⟩
theorem write_ok {bl : List (List UInt8)} {g : Geo} (hg : gmay g = true) {d e : Dr} (hd : d.Ok) {off : Nat} {b : List UInt8} (hz : off + b.length ≤ 2304) (h : d.write bl g off b = .ok e) : e.Ok ∧ e.z = max d.z (off + b.length) := by
  unfold Dr.write at h
  rcases hr : d.resize bl g (max d.z ((off : Int) + b.length)) with er | f
  · rw [hr] at h; cases h
  · rw [hr] at h
    simp only at h
    obtain ⟨o1, o2, o3⟩ := resize_ok hg hd (by have := hd.z0; omega) (by have := hd.z1; omega) hr
    rcases hf : f.fill bl b.length off b with _ | e'
    · rw [hf] at h; cases h
    · rw [hf] at h
      injection h with h
      subst h
      obtain ⟨f1, f2⟩ := fill_same _ hf
      exact ⟨o1.same f1 f2, by rw [f2, o3]⟩
theorem write_err {bl : List (List UInt8)} {g : Geo} {d : Dr} {off : Nat} {b : List UInt8} {er : Int} (h : d.write bl g off b = .error er) : er = 1 ∨ er = 7 := by
  unfold Dr.write at h
  split at h
  · rename_i e hr
    injection h with h
    subst h
    exact resize_err hr
  · split at h
    · injection h with h; exact .inl h.symm
    · cases h
end Fil
section
variable {w : World} {F : Nat → Prop} {m R cap : Nat} {bl : List (List UInt8)} {vs : Nat → Value} {gs : Nat → Nat}
theorem FiWrF_any {B D : Nat} {g : Geo} {kd : Int} {d : Dr} {nv : Value} {vd : Nat → Value} {gd : Nat → Nat} (h : DrL w B D m g kd d nv vd gd) (hs : StB w B m bl) (hB : B ≤ w.heap.size) (hgm : gmay g = true) (hd : d.Ok) (hlen : d.nums.length = need d.z) (off : Nat) (b : List UInt8) (hoff : off + b.length ≤ 2304)
    {bb o c : Nat} (hbc : b.length ≤ c) (hbb : bb < B) (hsee : Sees w bb o (b.map V8)) {q q2 : Nat} (hq : w.cell? ⟨q, 0, none⟩ = some (.int .i64 (off : Int))) (hq2 : w.cell? ⟨q2, 0, none⟩ = some (.slice (some ⟨bb, o, none⟩) b.length c)) :
    Calls Try.prog 33 #[.pointer (some ⟨D, 0, none⟩), .pointer (some ⟨q, 0, none⟩), .pointer (some ⟨q2, 0, none⟩)] w fun e w' => Turns B D m g kd w (d.write bl g off b) e w' := by
  have HR := Lib.hid (FiDWrite_run h hs hB hgm hd hlen off b hoff hbc hbb hsee _ rfl)
  clear h hs hd hlen hsee hbc hoff
  go_enter Try.func33, Try.ntmps33
  go_wp2_with fail
  refine HR.out.mono ?_
  rintro e w1 ⟨hB1, hm⟩
  rcases hr : d.write bl g off b with er | d'
  · rw [hr] at hm
    simp only at hm
    subst hm
    go_wp2
    go_ret
    refine ⟨hB1, ?_⟩
    rw [hr]
    rfl
  · rw [hr] at hm
    simp only at hm
    obtain ⟨rfl, ha⟩ := hm
    have HA := Lib.hid ha
    have HBx := Lib.hid hB1
    clear ha hB1
    go_wp2
    go_ret
    refine ⟨HBx.out, ?_⟩
    rw [hr]
    exact ⟨rfl, HA.out⟩
theorem FiWrite_run (h : MemL w F m bl R cap vs gs) (g : Geo) (x : Ino) (z : Int) (v : Value) (b : List UInt8) (hg : geoIn g) (hf : x.fits) (hz : In64 z) (hbl : b.length ≤ 1000) (hv : Arg w v b) :
    Calls Try.prog 15 #[sto m, .agg #[.int .i64 g.n, .int .i64 g.k], .agg (inoC x), .int .i64 z, v] w fun e w' =>
      ∃ r h bl', e = .returned (.tuple #[.agg (inoC r), .int .i64 h]) ∧ WriP g x z b bl r h bl' ∧ MemL w' F m bl' R cap vs gs ∧ Chg (fun k _ => F k) w w' := by
  have HN := Lib.hid (FiNil_no m)
  have HM := Lib.hid (fun W => FiMay_any g W hg)
  have HI := Lib.hid (fun W => FiIsFile_any x hf W)
  have hF := h.lt
  obtain ⟨hz1, hz2⟩ := hz
  have HQ0 : Hid (gmay g = false ∨ odd x = true ∨ z < 0 → WriP g x z b bl zero 1 bl) := fun hh => by unfold WriP; rw [if_pos hh]; exact ⟨rfl, rfl, rfl⟩
  have HQx : Hid (¬ (gmay g = false ∨ odd x = true ∨ z < 0) → b = [] → WriP g x z b bl x 0 bl) := fun hh hb => by unfold WriP; rw [if_neg hh, if_pos hb]; exact ⟨rfl, rfl, rfl⟩
  have HQ9 : Hid (¬ (gmay g = false ∨ odd x = true ∨ z < 0) → b ≠ [] → 2304 < z + b.length → WriP g x z b bl zero 9 bl) := fun hh hb h2 => by unfold WriP; rw [if_neg hh, if_neg hb, if_pos h2]; exact ⟨rfl, rfl, rfl⟩
  have HQe : Hid (¬ (gmay g = false ∨ odd x = true ∨ z < 0) → b ≠ [] → ¬ 2304 < z + b.length → ∀ r h bl', EditP x bl ((draft0 x bl).write bl g z.toNat b) r h bl' → WriP g x z b bl r h bl') := fun hh hb h2 r h bl' he => by unfold WriP; rw [if_neg hh, if_neg hb, if_neg h2]; exact he
  have HEd : Hid (gmay g = true → odd x = false → 0 ≤ z → b ≠ [] → z + b.length ≤ 2304 → ∀ W, Below w.heap.size w W → W.cell? ⟨w.heap.size + 1 + 1, 0, none⟩ = some (.int .i64 z) → W.cell? ⟨w.heap.size + 1 + 1 + 1, 0, none⟩ = some v → w.heap.size + 5 ≤ W.heap.size → Calls Try.prog 28 #[sto m, .agg #[.int .i64 g.n, .int .i64 g.k], .agg (inoC x), .func (.func 33) #[] #[.pointer (some ⟨w.heap.size + 1 + 1, 0, none⟩), .pointer (some ⟨w.heap.size + 1 + 1 + 1, 0, none⟩)]] W fun e w' =>
      ∃ r h bl', e = .returned (.tuple #[.agg (inoC r), .int .i64 h]) ∧ EditP x bl ((draft0 x bl).write bl g z.toNat b) r h bl' ∧ MemL w' F m bl' R cap vs gs ∧ Chg (fun k _ => F k) W w') := fun hgm hx h0 hb0 h1 W hW hc hc2 hsz => by
    have hW2 := h.below hW
    obtain ⟨Z, rfl⟩ : ∃ Z : Nat, z = (Z : Int) := ⟨z.toNat, by omega⟩
    have hlen : ∀ i, i < bl.length → (Fil.blk bl i).length = 64 := fun i hi => (h.blk i hi).len
    have hbp : 0 < b.length := List.length_pos_iff.2 hb0
    rcases hv with ⟨A, rfl, rfl⟩ | ⟨bb, o, c, rfl, hbl', hbc, hsee⟩
    · exact absurd rfl hb0
    rw [Int.toNat_natCast]
    refine FiEdit_any hW2 g x hf hx 33 _ _ (fun _ _ => rfl) (fun B W' D nv vd gd he hB hB2 hWW hL => ?_) (fun he d hd => ?_) (fun er he => ?_) (fun k hk => Nat.lt_of_lt_of_le (hF k hk) hW.size)
    · obtain ⟨hO, hl⟩ := draft_ok hx he hlen
      refine FiWrF_any hL ⟨F, R, cap, vs, gs, hW2.below hWW, fun k hk => ?_⟩ hB2 hgm hO hl Z b (by omega) hbc ?_ ((hsee.belowB hW hbl').belowB hWW ?_) ?_ ?_
      · have := hF k hk; have := hW.size; omega
      · have := hW.size; omega
      · have := hW.size; omega
      · rw [hWW.cell (by show w.heap.size + 1 + 1 < W.heap.size; omega)]; exact hc
      · rw [hWW.cell (by show w.heap.size + 1 + 1 + 1 < W.heap.size; omega)]; exact hc2
    · obtain ⟨hO, hl⟩ := draft_ok hx he hlen
      exact (write_ok hgm hO (by omega) hd).1
    · rcases write_err he with e | e <;> omega
  obtain ⟨A, c, hvf⟩ := hv.form
  rw [hvf] at HEd ⊢
  obtain ⟨w0, hw0⟩ : ∃ w0, w0 = ((((w.alloc (.cells #[.int .i64 g.n, .int .i64 g.k] 23)).alloc (.cells (inoC x) 40)).alloc (.cells #[.int .i64 z] 3)).alloc (.cells #[.slice A b.length c] 41)).alloc (.cells #[.int .i64 0, .int .i64 0, .int .i64 0, .int .i64 0, .int .i64 0, .int .i64 0, .int .i64 0] 40) := ⟨_, rfl⟩
  have s0 : w0.heap.size = w.heap.size + 5 := by rw [hw0]; simp
  have HB0 : Hid (Below w.heap.size w w0) := by rw [hw0]; exact (((((Below.refl _ _).alloc (Nat.le_refl _) _).alloc (by simp) _).alloc (by simp; omega) _).alloc (by simp; omega) _).alloc (by simp; omega) _
  have HG0 : Hid (Row w0 w.heap.size 23 [.int .i64 g.n, .int .i64 g.k]) := by rw [hw0]; exact ((((Row.new w 23 _).alloc _).alloc _).alloc _).alloc _
  have HI0 : Hid (Row w0 (w.heap.size + 1) 40 (x.l.map VI)) := by rw [hw0]; exact Row.alloc (Row.alloc (Row.alloc (Row.newAt 40 (x.l.map VI) (by simp)) _) _) _
  have HV0 : Hid (Row w0 (w.heap.size + 1 + 1) 3 [.int .i64 z]) := by rw [hw0]; exact Row.alloc (Row.alloc (Row.newAt 3 _ (by simp)) _) _
  have HS0 : Hid (Row w0 (w.heap.size + 1 + 1 + 1) 41 [.slice A b.length c]) := by rw [hw0]; exact Row.alloc (Row.newAt 41 _ (by simp)) _
  have HZ0 : Hid (Row w0 (w.heap.size + 1 + 1 + 1 + 1) 40 Z7) := by rw [hw0]; exact Row.newAt 40 Z7 (by simp)
  obtain ⟨r1, hr1⟩ : ∃ r, r = gmay g := ⟨_, rfl⟩
  obtain ⟨r2, hr2⟩ : ∃ r, r = odd x := ⟨_, rfl⟩
  rw [← hr1] at HM HQ0 HQx HQ9 HQe HEd
  rw [← hr2] at HI HQ0 HQx HQ9 HQe HEd
  obtain ⟨gn, gk⟩ := g
  have HIc := Lib.hid (inoC_l x)
  obtain ⟨xk, xb, b0, b1, b2, b3, d⟩ := x
  simp only [inoC, Ino.l] at HI HEd HI0 hw0 ⊢
  have hblI : (b.length : Int) ≤ 1000 := by omega
  have HBe : Hid (b.length = 0 ↔ b = []) := List.length_eq_zero_iff
  obtain ⟨L, HL⟩ : ∃ L, Hid (L = b.length) := ⟨_, rfl⟩
  rw [← HL.out] at HS0 HEd HQ9 HQe HBe hblI hw0 ⊢
  clear hr1 hr2 hF hg hf hv hvf hbl
  go_enter Try.func15, Try.ntmps15
  go_wp2_with fail
  rw [← hw0]
  clear hw0
  refine (HN.out _).mono ?_
  rintro e w1 ⟨rfl, rfl⟩
  have cg0 := HG0.out.cell 0
  have cg1 := HG0.out.cell 1
  simp only [List.getElem?_cons_zero, List.getElem?_cons_succ] at cg0 cg1
  go_wp2_with fail
  refine (HM.out _).mono ?_
  rintro e w2 ⟨rfl, hB2⟩
  have HB2 := Lib.hid (HB0.out.trans (hB2.mono HB0.out.size))
  have HG2 := Lib.hid (HG0.out.below hB2 HG0.out.lt)
  have HI2 := Lib.hid (HI0.out.below hB2 HI0.out.lt)
  have HV2 := Lib.hid (HV0.out.below hB2 HV0.out.lt)
  have HZ2 := Lib.hid (HZ0.out.below hB2 HZ0.out.lt)
  have s2 : w.heap.size + 5 ≤ w2.heap.size := by have := hB2.size; omega
  have HS2 := Lib.hid (HS0.out.below hB2 HS0.out.lt)
  clear hB2 HB0 HG0 HI0 HV0 HS0 HZ0 HM HN cg0 cg1 s0
  cases r1 with
  | false =>
    have HP : Hid (WriP ⟨gn, gk⟩ ⟨xk, xb, b0, b1, b2, b3, d⟩ z b bl zero 1 bl) := HQ0.out (.inl rfl)
    clear HQ0 HQx HQ9 HQe HEd HI
    go_wp2_with (refine wpList_store_row rfl 40 (.tmp 10) (.tmp 28) rfl (w.heap.size + 1 + 1 + 1 + 1) #[.int .i64 0, .int .i64 0, .int .i64 0, .int .i64 0, .int .i64 0, .int .i64 0, .int .i64 0] rfl rfl 40 _ HZ2.out z7size z7len z7one ?_)
    have hlast : (w2.setRow (w.heap.size + 1 + 1 + 1 + 1) #[.int .i64 0, .int .i64 0, .int .i64 0, .int .i64 0, .int .i64 0, .int .i64 0, .int .i64 0]).heap[w.heap.size + 1 + 1 + 1 + 1]? = some (.cells #[.int .i64 0, .int .i64 0, .int .i64 0, .int .i64 0, .int .i64 0, .int .i64 0, .int .i64 0] 40 (0, 0)) := HZ2.out.whole Z7
    have HBy := below_setRow' HB2.out (k := w.heap.size + 1 + 1 + 1 + 1) (by omega) #[.int .i64 0, .int .i64 0, .int .i64 0, .int .i64 0, .int .i64 0, .int .i64 0, .int .i64 0]
    (try simp only [Exit.inBlock, Exit.then])
    refine bodyPost_ret (v := .tuple #[.agg #[.int .i64 0, .int .i64 0, .int .i64 0, .int .i64 0, .int .i64 0, .int .i64 0, .int .i64 0], .int .i64 1]) (results_row_tmpF (p := 10) (u := 11) rfl _ _ (w.heap.size + 1 + 1 + 1 + 1) 40 _ (0, 0) _ rfl hlast Try.underlying40 rfl (by kernel_rfl)) rfl ?_
    exact ⟨zero, 1, bl, rfl, HP.out, h.below HBy, Chg.below HBy _⟩
  | true =>
    have ci0 := HI2.out.cell 0
    have ci1 := HI2.out.cell 1
    have ci2 := HI2.out.cell 2
    have ci3 := HI2.out.cell 3
    have ci4 := HI2.out.cell 4
    have ci5 := HI2.out.cell 5
    have ci6 := HI2.out.cell 6
    simp only [VI, List.map_cons, List.map_nil, List.getElem?_cons_zero, List.getElem?_cons_succ] at ci0 ci1 ci2 ci3 ci4 ci5 ci6
    go_wp2_with fail
    refine (HI.out _).mono ?_
    rintro e w3 ⟨rfl, hB3⟩
    have HB3 := Lib.hid (HB2.out.trans (hB3.mono HB2.out.size))
    have HG3 := Lib.hid (HG2.out.below hB3 HG2.out.lt)
    have HI3 := Lib.hid (HI2.out.below hB3 HI2.out.lt)
    have HV3 := Lib.hid (HV2.out.below hB3 HV2.out.lt)
    have HZ3 := Lib.hid (HZ2.out.below hB3 HZ2.out.lt)
    have s3 : w.heap.size + 5 ≤ w3.heap.size := by have := hB3.size; omega
    have HS3 := Lib.hid (HS2.out.below hB3 HS2.out.lt)
    clear hB3 HB2 HG2 HI2 HV2 HS2 HZ2 HI ci0 ci1 ci2 ci3 ci4 ci5 ci6 s2
    cases r2 with
    | true =>
      have HP : Hid (WriP ⟨gn, gk⟩ ⟨xk, xb, b0, b1, b2, b3, d⟩ z b bl zero 1 bl) := HQ0.out (.inr (.inl rfl))
      clear HQ0 HQx HQ9 HQe HEd
      go_wp2_with (refine wpList_store_row rfl 40 (.tmp 10) (.tmp 28) rfl (w.heap.size + 1 + 1 + 1 + 1) #[.int .i64 0, .int .i64 0, .int .i64 0, .int .i64 0, .int .i64 0, .int .i64 0, .int .i64 0] rfl rfl 40 _ HZ3.out z7size z7len z7one ?_)
      have hlast : (w3.setRow (w.heap.size + 1 + 1 + 1 + 1) #[.int .i64 0, .int .i64 0, .int .i64 0, .int .i64 0, .int .i64 0, .int .i64 0, .int .i64 0]).heap[w.heap.size + 1 + 1 + 1 + 1]? = some (.cells #[.int .i64 0, .int .i64 0, .int .i64 0, .int .i64 0, .int .i64 0, .int .i64 0, .int .i64 0] 40 (0, 0)) := HZ3.out.whole Z7
      have HBy := below_setRow' HB3.out (k := w.heap.size + 1 + 1 + 1 + 1) (by omega) #[.int .i64 0, .int .i64 0, .int .i64 0, .int .i64 0, .int .i64 0, .int .i64 0, .int .i64 0]
      (try simp only [Exit.inBlock, Exit.then])
      refine bodyPost_ret (v := .tuple #[.agg #[.int .i64 0, .int .i64 0, .int .i64 0, .int .i64 0, .int .i64 0, .int .i64 0, .int .i64 0], .int .i64 1]) (results_row_tmpF (p := 10) (u := 11) rfl _ _ (w.heap.size + 1 + 1 + 1 + 1) 40 _ (0, 0) _ rfl hlast Try.underlying40 rfl (by kernel_rfl)) rfl ?_
      exact ⟨zero, 1, bl, rfl, HP.out, h.below HBy, Chg.below HBy _⟩
    | false =>
      have cv := HV3.out.cell 0
      simp only [List.getElem?_cons_zero] at cv
      by_cases hz0 : z < 0
      · have HP : Hid (WriP ⟨gn, gk⟩ ⟨xk, xb, b0, b1, b2, b3, d⟩ z b bl zero 1 bl) := HQ0.out (.inr (.inr hz0))
        clear HQ0 HQx HQ9 HQe HEd
        go_wp2_with (refine wpList_store_row rfl 40 (.tmp 10) (.tmp 28) rfl (w.heap.size + 1 + 1 + 1 + 1) #[.int .i64 0, .int .i64 0, .int .i64 0, .int .i64 0, .int .i64 0, .int .i64 0, .int .i64 0] rfl rfl 40 _ HZ3.out z7size z7len z7one ?_)
        have hlast : (w3.setRow (w.heap.size + 1 + 1 + 1 + 1) #[.int .i64 0, .int .i64 0, .int .i64 0, .int .i64 0, .int .i64 0, .int .i64 0, .int .i64 0]).heap[w.heap.size + 1 + 1 + 1 + 1]? = some (.cells #[.int .i64 0, .int .i64 0, .int .i64 0, .int .i64 0, .int .i64 0, .int .i64 0, .int .i64 0] 40 (0, 0)) := HZ3.out.whole Z7
        have HBy := below_setRow' HB3.out (k := w.heap.size + 1 + 1 + 1 + 1) (by omega) #[.int .i64 0, .int .i64 0, .int .i64 0, .int .i64 0, .int .i64 0, .int .i64 0, .int .i64 0]
        (try simp only [Exit.inBlock, Exit.then])
        refine bodyPost_ret (v := .tuple #[.agg #[.int .i64 0, .int .i64 0, .int .i64 0, .int .i64 0, .int .i64 0, .int .i64 0, .int .i64 0], .int .i64 1]) (results_row_tmpF (p := 10) (u := 11) rfl _ _ (w.heap.size + 1 + 1 + 1 + 1) 40 _ (0, 0) _ rfl hlast Try.underlying40 rfl (by kernel_rfl)) rfl ?_
        exact ⟨zero, 1, bl, rfl, HP.out, h.below HBy, Chg.below HBy _⟩
      · have hno : ¬ (true = false ∨ false = true ∨ z < 0) := by rintro (h | h | h) <;> first | cases h | exact hz0 h
        have csl := HS3.out.cell 0
        simp only [List.getElem?_cons_zero] at csl
        have ci0 := HI3.out.cell 0
        have ci1 := HI3.out.cell 1
        have ci2 := HI3.out.cell 2
        have ci3 := HI3.out.cell 3
        have ci4 := HI3.out.cell 4
        have ci5 := HI3.out.cell 5
        have ci6 := HI3.out.cell 6
        simp only [VI, List.map_cons, List.map_nil, List.getElem?_cons_zero, List.getElem?_cons_succ] at ci0 ci1 ci2 ci3 ci4 ci5 ci6
        by_cases hb0 : L = 0
        · have HP := Lib.hid (HQx.out hno (HBe.out.1 hb0))
          subst hb0
          obtain ⟨cs, HCs⟩ : ∃ cs, Hid (cs = inoC ⟨xk, xb, b0, b1, b2, b3, d⟩) := ⟨_, rfl⟩
          have Hsz : Hid ((Try.prog.info? 40).map (·.size) = some (#[.int .i64 xk, .int .i64 xb, .int .i64 b0, .int .i64 b1, .int .i64 b2, .int .i64 b3, .int .i64 d] : Array Value).size) := by show _ = _; kernel_rfl
          have Hone : Hid ((#[.int .i64 xk, .int .i64 xb, .int .i64 b0, .int .i64 b1, .int .i64 b2, .int .i64 b3, .int .i64 d] : Array Value).all (·.oneCell') = true) := oneIs [xk, xb, b0, b1, b2, b3, d]
          clear HQ0 HQx HQ9 HQe HEd hno HCs
          go_wp2_with (refine wpList_store_row rfl 40 (.tmp 10) (.tmp 32) rfl (w.heap.size + 1 + 1 + 1 + 1) #[.int .i64 xk, .int .i64 xb, .int .i64 b0, .int .i64 b1, .int .i64 b2, .int .i64 b3, .int .i64 d] rfl rfl 40 _ HZ3.out Hsz.out rfl Hone.out ?_)
          have hlast : (w3.setRow (w.heap.size + 1 + 1 + 1 + 1) #[.int .i64 xk, .int .i64 xb, .int .i64 b0, .int .i64 b1, .int .i64 b2, .int .i64 b3, .int .i64 d]).heap[w.heap.size + 1 + 1 + 1 + 1]? = some (.cells #[.int .i64 xk, .int .i64 xb, .int .i64 b0, .int .i64 b1, .int .i64 b2, .int .i64 b3, .int .i64 d] 40 (0, 0)) := HZ3.out.whole [.int .i64 xk, .int .i64 xb, .int .i64 b0, .int .i64 b1, .int .i64 b2, .int .i64 b3, .int .i64 d]
          have HBy := below_setRow' HB3.out (k := w.heap.size + 1 + 1 + 1 + 1) (by omega) #[.int .i64 xk, .int .i64 xb, .int .i64 b0, .int .i64 b1, .int .i64 b2, .int .i64 b3, .int .i64 d]
          (try simp only [Exit.inBlock, Exit.then])
          refine bodyPost_ret (v := .tuple #[.agg #[.int .i64 xk, .int .i64 xb, .int .i64 b0, .int .i64 b1, .int .i64 b2, .int .i64 b3, .int .i64 d], .int .i64 0]) (results_row_tmpF (p := 10) (u := 11) rfl _ _ (w.heap.size + 1 + 1 + 1 + 1) 40 _ (0, 0) _ rfl hlast Try.underlying40 rfl Hsz.out) rfl ?_
          exact ⟨⟨xk, xb, b0, b1, b2, b3, d⟩, 0, bl, rfl, HP.out, h.below HBy, Chg.below HBy _⟩
        · have hbne : b ≠ [] := fun e => hb0 (HBe.out.2 e)
          have hL0 : ¬ (L : Int) = 0 := by omega
          by_cases hbig : 2304 < z + L
          · have HP := Lib.hid (HQ9.out hno hbne hbig)
            have hgt : z > 2304 - (L : Int) := by omega
            clear HQ0 HQx HQ9 HQe HEd hno hbne
            go_wp2_with (refine wpList_store_row rfl 40 (.tmp 10) (.tmp 38) rfl (w.heap.size + 1 + 1 + 1 + 1) #[.int .i64 0, .int .i64 0, .int .i64 0, .int .i64 0, .int .i64 0, .int .i64 0, .int .i64 0] rfl rfl 40 _ HZ3.out z7size z7len z7one ?_)
            have hlast : (w3.setRow (w.heap.size + 1 + 1 + 1 + 1) #[.int .i64 0, .int .i64 0, .int .i64 0, .int .i64 0, .int .i64 0, .int .i64 0, .int .i64 0]).heap[w.heap.size + 1 + 1 + 1 + 1]? = some (.cells #[.int .i64 0, .int .i64 0, .int .i64 0, .int .i64 0, .int .i64 0, .int .i64 0, .int .i64 0] 40 (0, 0)) := HZ3.out.whole Z7
            have HBy := below_setRow' HB3.out (k := w.heap.size + 1 + 1 + 1 + 1) (by omega) #[.int .i64 0, .int .i64 0, .int .i64 0, .int .i64 0, .int .i64 0, .int .i64 0, .int .i64 0]
            (try simp only [Exit.inBlock, Exit.then])
            refine bodyPost_ret (v := .tuple #[.agg #[.int .i64 0, .int .i64 0, .int .i64 0, .int .i64 0, .int .i64 0, .int .i64 0, .int .i64 0], .int .i64 9]) (results_row_tmpF (p := 10) (u := 11) rfl _ _ (w.heap.size + 1 + 1 + 1 + 1) 40 _ (0, 0) _ rfl hlast Try.underlying40 rfl (by kernel_rfl)) rfl ?_
            exact ⟨zero, 9, bl, rfl, HP.out, h.below HBy, Chg.below HBy _⟩
          · have hgt : ¬ z > 2304 - (L : Int) := by omega
            have HQ := Lib.hid (fun r h bl' => by first | exact HQe.out hno hbne hbig r h bl' | exact HQe.out hno hbne (by omega) r h bl')
            have HE := Lib.hid (HEd.out (by first | trivial | rfl) (by first | trivial | rfl) (by omega) hbne (by omega) w3 HB3.out cv csl s3)
            have cg0 := HG3.out.cell 0
            have cg1 := HG3.out.cell 1
            simp only [List.getElem?_cons_zero, List.getElem?_cons_succ] at cg0 cg1
            clear HQ0 HQx HQ9 HQe HEd hno hbne
            go_wp2_with fail
            refine HE.out.mono ?_
            rintro e w4 ⟨rr, hh, bl', rfl, hEp, hM4, hC4⟩
            have HP := Lib.hid (HQ.out _ _ _ hEp)
            have HM4 := Lib.hid hM4
            have hCb : Chg (fun k _ => F k) w w4 := (Chg.below HB3.out _).then hC4
            have HC4 := Lib.hid hCb
            have hFn : ∀ k, F k → k < w.heap.size := h.lt
            have HZ4 : Hid (Row w4 (w.heap.size + 1 + 1 + 1 + 1) 40 Z7) := HZ3.out.same (hC4.block _ HZ3.out.lt fun o hf => by have := hFn _ hf; omega)
            obtain ⟨cs, HCs⟩ : ∃ cs, Hid (cs = inoC rr) := ⟨_, rfl⟩
            have Hsz : Hid ((Try.prog.info? 40).map (·.size) = some cs.size) := by show _ = _; rw [HCs.out]; kernel_rfl
            have Hln : Hid (Z7.toArray.size = cs.size) := by show _ = _; rw [HCs.out]; rfl
            have Hone : Hid (cs.all (·.oneCell') = true) := by show _ = _; rw [HCs.out, inoC_l]; exact oneIs _
            have e9 : (#[.int .i64 rr.k, .int .i64 rr.b, .int .i64 rr.b0, .int .i64 rr.b1, .int .i64 rr.b2, .int .i64 rr.b3, .int .i64 rr.d] : Array Value) = cs := HCs.out.symm
            rw [e9]
            clear e9 hEp hM4 hC4 hCb HE HQ
            go_wp2_with (refine wpList_store_row rfl 40 (.tmp 10) (.tmp 44) rfl (w.heap.size + 1 + 1 + 1 + 1) cs rfl rfl 40 _ HZ4.out Hsz.out Hln.out Hone.out ?_)
            have hlast : (w4.setRow (w.heap.size + 1 + 1 + 1 + 1) cs).heap[w.heap.size + 1 + 1 + 1 + 1]? = some (.cells cs 40 (0, 0)) := by
              rw [HCs.out, inoC_l]; exact HZ4.out.whole _
            (try simp only [Exit.inBlock, Exit.then])
            refine bodyPost_ret (v := .tuple #[.agg cs, .int .i64 hh]) (results_row_tmpF (p := 10) (u := 11) rfl _ _ (w.heap.size + 1 + 1 + 1 + 1) 40 _ (0, 0) _ rfl hlast Try.underlying40 rfl Hsz.out) rfl ?_
            exact ⟨rr, hh, bl', by rw [HCs.out]; rfl, HP.out, HM4.out.block (fun k hk => setRow_other w4 _ k cs (by have := hFn k hk; omega)), setRow_chg HC4.out (by omega) _⟩
end
end Go.Proofs.Ytiafmghdiidniaa
