/-
  4 texts in one (LZG, LZH, LZI, LZJ): each says at its own head what it holds.
-/
import Derived.Test.YtiafmghdiidniaaLZF
import Derived.Deep.QuietTactic
import Derived.Deep.RegionHeld3
import Derived.Lib.SmallJoins

section
/-
  THE WALKS of the landed draft's clearTail, release, take, nameBlocks.
-/
namespace Go.Proofs.Ytiafmghdiidniaa
set_option maxRecDepth 100000
set_option maxHeartbeats 1000000
open Go.RowKit Cdc Inn Fil

theorem place_lt {z : Int} (h0 : 0 ≤ z) (hz : z.toNat % 64 ≠ 0) : placeOf z.toNat < need z := by
  have hd : data z = z.toNat / 64 + 1 := by unfold data; omega
  unfold placeOf need
  rw [hd]
  split <;> split <;> omega
section
variable {w : World} {B D m : Nat} {bl : List (List UInt8)} {g : Geo} {kd : Int} {d : Dr} {nv : Value} {vs : Nat → Value} {gs : Nat → Nat}
theorem FiDBlock_ok (h : DrL w B D m g kd d nv vs gs) (hs : StB w B m bl) (hB : B ≤ w.heap.size) (i : Nat) (hi : i < 128) {d' : Dr} (hd : d.load bl i = some d') :
    Calls Try.prog 51 #[.pointer (some ⟨D, 0, none⟩), .int .i64 (i : Int)] w fun e w' => ∃ v, e = .returned (.tuple #[v, .int .i64 0]) ∧ (∃ nv vs gs, DrL w' B D m g kd d' nv vs gs ∧ vs i = v ∧ d'.ch i = some (d'.row i)) ∧ Below B w w' := by
  unfold Dr.load at hd
  rcases hc : d.ch i with _ | b
  · rw [hc] at hd
    simp only [Option.isSome_none, Bool.false_eq_true, if_false] at hd
    by_cases hn : i < bl.length
    · rw [if_pos hn] at hd
      injection hd with hd
      subst hd
      refine (FiDBlock_new h hs hB i hi hc hn).mono ?_
      rintro e w' ⟨v, he, ⟨vs', gs', h1, h2⟩, h3⟩
      exact ⟨v, he, ⟨_, _, _, h1, h2, by simp [Dr.put, Dr.row]⟩, h3⟩
    · rw [if_neg hn] at hd; cases hd
  · rw [hc] at hd
    simp only [Option.isSome_some, if_true] at hd
    injection hd with hd
    subst hd
    refine (FiDBlock_has h i hi hc).mono ?_
    rintro e w' ⟨he, rfl⟩
    exact ⟨_, he, ⟨_, _, _, h, rfl, by simp [Dr.row, hc]⟩, Below.refl _ _⟩
theorem FiDBlock_bad (h : DrL w B D m g kd d nv vs gs) (hs : StB w B m bl) (i : Nat) (hi : i < 128) (hd : d.load bl i = none) :
    Calls Try.prog 51 #[.pointer (some ⟨D, 0, none⟩), .int .i64 (i : Int)] w fun e w' => e = .returned (.tuple #[.slice none 0 0, .int .i64 1]) ∧ w' = w := by
  unfold Dr.load at hd
  rcases hc : d.ch i with _ | b
  · rw [hc] at hd
    simp only [Option.isSome_none, Bool.false_eq_true, if_false] at hd
    by_cases hn : i < bl.length
    · rw [if_pos hn] at hd; cases hd
    · exact FiDBlock_no h hs i hi hc hn
  · rw [hc] at hd; cases hd
theorem zero8 : ∀ W, (zeroValue 5).run Try.prog W = .ok (.int .u8 0) W := fun _ => rfl
theorem rep8 (n : Nat) : List.replicate n (.int .u8 0) = ((List.replicate n (0 : UInt8)).map V8) := by rw [List.map_replicate]; rfl
theorem DrL.clear_lay (h : DrL w B D m g kd d nv vs gs) (hB : B ≤ w.heap.size) (i u : Nat) (hi : i < 128) (hu : u < 64) (hc : d.ch i = some (d.row i)) :
    DrA (w.setCells (gs i) u (List.replicate (64 - u) (.int .u8 0))) B D m g kd (d.put i ((d.row i).take u ++ List.replicate (64 - u) 0)) ∧ Below B w (w.setCells (gs i) u (List.replicate (64 - u) (.int .u8 0))) := by
  obtain ⟨h1, h2, h3, h4⟩ := h.rw_.row i hi _ hc
  rw [rep8]
  have hl := h1.len
  have ho := h.over i hi hc u (List.replicate (64 - u) 0) (by rw [List.length_replicate]; omega)
  have e : Fil.over (d.row i) u (List.replicate (64 - u) 0) = (d.row i).take u ++ List.replicate (64 - u) 0 := by
    unfold Fil.over
    rw [List.length_replicate, List.drop_of_length_le (by omega), List.append_nil]
  rw [e] at ho
  refine ⟨⟨_, _, _, ho⟩, ?_⟩
  have hcg := (h1.write u (List.replicate (64 - u) 0) (by rw [List.length_replicate]; omega)).2
  exact ⟨hcg.os, hcg.tape, hcg.output, hcg.size, fun k hk => hcg.block k (by omega) fun o e => by omega⟩
theorem FiDClear_zero (h : DrL w B D m g kd d nv vs gs) (hd : d.Ok) (hz : d.z.toNat % 64 = 0) :
    Calls Try.prog 49 #[.pointer (some ⟨D, 0, none⟩)] w fun e w' => e = .returned (.int .i64 0) ∧ w' = w := by
  have c4 := h.hd.c4
  obtain ⟨z, hzz⟩ : ∃ z : Nat, d.z = (z : Int) := ⟨d.z.toNat, by have := hd.z0; omega⟩
  have h1 := hd.z1
  rw [hzz] at c4 hz h1
  have hm : Int.tmod (z : Int) 64 = 0 := by rw [Int.tmod_eq_emod_of_nonneg (by omega)]; omega
  have hm2 : (z : Int) % 64 = 0 := by omega
  clear h hd hzz
  go_enter Try.func49, Try.ntmps49
  go_wp2
  go_ret
  exact ⟨rfl, rfl⟩
theorem FiDClear_some (h : DrL w B D m g kd d nv vs gs) (hs : StB w B m bl) (hB : B ≤ w.heap.size) (hd : d.Ok) (hlen : d.nums.length = need d.z) (hz : d.z.toNat % 64 ≠ 0) {d' : Dr} (hl : d.load bl (numAt d.nums d.z.toNat) = some d') :
    Calls Try.prog 49 #[.pointer (some ⟨D, 0, none⟩)] w fun e w' => e = .returned (.int .i64 0) ∧ DrA w' B D m g kd (d'.put (numAt d.nums d.z.toNat) ((d'.row (numAt d.nums d.z.toNat)).take (d.z.toNat % 64) ++ List.replicate (64 - d.z.toNat % 64) 0)) ∧ Below B w w' := by
  have c4 := h.hd.c4
  have c5 := h.hd.c5
  have hp := place_lt hd.z0 hz
  have h1 := hd.z1
  obtain ⟨z, hzz⟩ : ∃ z : Nat, d.z = (z : Int) := ⟨d.z.toNat, by have := hd.z0; omega⟩
  rw [hzz] at c4 h1 hp hz hl ⊢
  rw [Int.toNat_natCast] at *
  have HN := Lib.hid (fun W (hW : Below w.heap.size w W) => numberAt_any d.nums z (by omega) (by rw [hlen, hzz]; exact hp) nv W (h.below hW).rw_.own.from_)
  have hn128 : numAt d.nums z < 128 := numAt_lt hd z
  have HBk := Lib.hid (fun W (hW : Below w.heap.size w W) => FiDBlock_ok (h.below hW) (hs.below (hW.mono hB)) (Nat.le_trans hB hW.size) (numAt d.nums z) hn128 hl)
  have HK : Hid (∀ W, Below w.heap.size w W → W.cell? ⟨D, 4, none⟩ = some (.int .i64 (z : Int)) ∧ W.cell? ⟨D, 5, none⟩ = some nv) := fun W hW => ⟨by rw [(h.below hW).hd.c4, hzz], (h.below hW).hd.c5⟩
  obtain ⟨An, cn, hnv⟩ : ∃ An cn, nv = .slice An d.nums.length cn := by
    obtain ⟨An, cn, e, -⟩ := h.rw_.own.from_.parts
    exact ⟨An, cn, by rw [e, VNs_length]⟩
  obtain ⟨u, hu⟩ : ∃ u, u = z % 64 := ⟨_, rfl⟩
  rw [← hu] at hz ⊢
  have hu64 : u < 64 := by omega
  have hm : Int.tmod (z : Int) 64 = (u : Int) := by rw [Int.tmod_eq_emod_of_nonneg (by omega)]; omega
  have hm2 : (z : Int) % 64 = (u : Int) := by omega
  have hBs := Lib.hid hB
  clear h hs hB hd hlen hp hzz hl
  generalize numAt d.nums z = n at *
  have n128 : (n : Int) < 128 := by omega
  have hu0 : ¬ (u : Int) = 0 := by omega
  clear hu
  subst hnv
  generalize d.nums.length = ln at *
  go_enter Try.func49, Try.ntmps49
  go_wp2_with fail
  go_region_with (first
    | (go_at_call 37; refine (HN.out _ (below_drewN (Below.refl _ _) 1)).mono ?_; rintro e w1 ⟨rfl, rfl⟩)
    | (go_at_call 51; refine (HBk.out _ (below_drewN (Below.refl _ _) 1)).mono ?_; rintro e w2 ⟨v, rfl, ⟨nv2, vs2, gs2, hL, hvi, hch⟩, hB2⟩; have HL := Lib.hid hL; have HB2 : Hid (Below B w w2) := ((below_drewN (Below.refl w.heap.size w) 1).mono hBs.out).trans hB2; have HCh := Lib.hid hch; obtain ⟨cv, hv, hc64⟩ := (hL.rw_.row n hn128 _ hch).1.val; rw [hv] at hvi; subst hvi; clear hL hB2 hch hv))
  all_goals (
    have HT : Hid (w2.there (gs2 n) u (64 - u)) := by
      have hB9 := (HL.out.rw_.row n hn128 _ HCh.out).1
      have := hB9.here.there' u (64 - u) (by rw [List.length_map, hB9.len]; omega)
      rwa [Nat.zero_add] at this
    have HX : Hid (DrA (w2.setCells (gs2 n) u (List.replicate (64 - u) (.int .u8 0))) B D m g kd (d'.put n ((d'.row n).take u ++ List.replicate (64 - u) 0)) ∧ Below B w2 (w2.setCells (gs2 n) u (List.replicate (64 - u) (.int .u8 0)))) := HL.out.clear_lay (Nat.le_trans hBs.out HB2.out.size) n u hn128 hu64 HCh.out
    have hne : ¬ cv = u := by omega
    have hle : u ≤ cv := by omega
    have hu64i : (u : Int) ≤ 64 := by omega
    clear HL HN HBk HK HCh
    go_wp2_with (refine wpList_clear_here rfl (.tmp 32) 41 rfl 5 Try.underlying41 (.int .u8 0) zero8 rfl rfl (gs2 n) u (64 - u) (cv - u) (by omega) (by simp [Act.eval]) HT.out ?_)
    go_ret
    exact ⟨rfl, HX.out.1, HB2.out.trans HX.out.2⟩)
theorem FiDClear_bad (h : DrL w B D m g kd d nv vs gs) (hs : StB w B m bl) (hB : B ≤ w.heap.size) (hd : d.Ok) (hlen : d.nums.length = need d.z) (hz : d.z.toNat % 64 ≠ 0) (hl : d.load bl (numAt d.nums d.z.toNat) = none) :
    Calls Try.prog 49 #[.pointer (some ⟨D, 0, none⟩)] w fun e w' => e = .returned (.int .i64 1) ∧ Below B w w' := by
  have c4 := h.hd.c4
  have c5 := h.hd.c5
  have hp := place_lt hd.z0 hz
  have h1 := hd.z1
  obtain ⟨z, hzz⟩ : ∃ z : Nat, d.z = (z : Int) := ⟨d.z.toNat, by have := hd.z0; omega⟩
  rw [hzz] at c4 h1 hp hz hl
  rw [Int.toNat_natCast] at *
  have HN := Lib.hid (fun W (hW : Below w.heap.size w W) => numberAt_any d.nums z (by omega) (by rw [hlen, hzz]; exact hp) nv W (h.below hW).rw_.own.from_)
  have hn128 : numAt d.nums z < 128 := numAt_lt hd z
  have HBk := Lib.hid (fun W (hW : Below w.heap.size w W) => FiDBlock_bad (h.below hW) (hs.below (hW.mono hB)) (numAt d.nums z) hn128 hl)
  obtain ⟨An, cn, hnv⟩ : ∃ An cn, nv = .slice An d.nums.length cn := by
    obtain ⟨An, cn, e, -⟩ := h.rw_.own.from_.parts
    exact ⟨An, cn, by rw [e, VNs_length]⟩
  obtain ⟨u, hu⟩ : ∃ u, u = z % 64 := ⟨_, rfl⟩
  rw [← hu] at hz
  have hm : Int.tmod (z : Int) 64 = (u : Int) := by rw [Int.tmod_eq_emod_of_nonneg (by omega)]; omega
  have hm2 : (z : Int) % 64 = (u : Int) := by omega
  have hBs := Lib.hid hB
  clear h hs hB hd hlen hp hzz hl
  generalize numAt d.nums z = n at *
  have n128 : (n : Int) < 128 := by omega
  have hu0 : ¬ (u : Int) = 0 := by omega
  clear hu
  subst hnv
  generalize d.nums.length = ln at *
  go_enter Try.func49, Try.ntmps49
  go_wp2_with fail
  go_region_with (first
    | (go_at_call 37; refine (HN.out _ (below_drewN (Below.refl _ _) 1)).mono ?_; rintro e w1 ⟨rfl, rfl⟩)
    | (go_at_call 51; refine (HBk.out _ (below_drewN (Below.refl _ _) 1)).mono ?_; rintro e w2 ⟨rfl, rfl⟩))
  all_goals (
    go_wp2
    go_ret
    exact ⟨rfl, below_drewN (Below.refl _ _) 1⟩)
end
end Go.Proofs.Ytiafmghdiidniaa
end

section
/-
  THE WALKS of the landed draft's release, take.
-/
namespace Go.Proofs.Ytiafmghdiidniaa
set_option maxRecDepth 100000
set_option maxHeartbeats 1000000
open Go.RowKit Cdc Inn Fil

theorem Own.cut {w : World} {B g n c : Nat} {e : TypeId} {ys : List Value} (h : Own w B e (.slice (some ⟨g, 0, none⟩) n c) ys) (k : Nat) (hk : k ≤ ys.length) : Own w B e (.slice (some ⟨g, 0, none⟩) k c) (ys.take k) := by
  obtain ⟨h1, h2⟩ := h
  have hl : (ys.take k).length = k := by rw [List.length_take]; omega
  refine ⟨by rw [hl]; omega, ?_⟩
  rcases h2 with ⟨e1, _⟩ | ⟨g', cap, cur, e1, hg, hb, hc, hm, hs, ht⟩
  · cases e1
  · injection e1 with a1 a2 a3
    injection a1 with a1
    injection a1 with a1 _ _
    subst a1; subst a3; subst a2
    refine .inr ⟨g, c, cur, by rw [hl], hg, hb, by omega, hm, hs, ?_⟩
    rw [hl, ← ht, List.take_take]
    congr 1
    omega
theorem VNs_take (l : List Nat) (k : Nat) : (VNs l).take k = VNs (l.take k) := by simp [VNs, List.map_take]
theorem VNs_ints (l : List Nat) : VNs l = (l.map fun n : Nat => (n : Int)).map VI := rfl
theorem mem_ints (l : List Nat) (x : Nat) : decide ((x : Int) ∈ l.map fun n : Nat => (n : Int)) = decide (x ∈ l) := by
  rw [decide_eq_decide, List.mem_map]
  constructor
  · rintro ⟨a, ha, e⟩; have : a = x := by omega
    rwa [this] at ha
  · intro h; exact ⟨x, h, rfl⟩
namespace Fil
theorem free_nums (kept : List Nat) : ∀ (l : List Nat) (d : Dr), (Dr.free kept l d).nums = d.nums
  | [], _ => rfl
  | i :: r, d => by rw [Dr.free, free_nums kept r]; split <;> rfl
theorem free_z (kept : List Nat) : ∀ (l : List Nat) (d : Dr), (Dr.free kept l d).z = d.z
  | [], _ => rfl
  | i :: r, d => by rw [Dr.free, free_z kept r]; split <;> rfl
theorem mark_zero (d : Dr) (i : Nat) (on : Bool) : (d.mark i on).ch 0 = some (Bm.setB (d.row 0) i on) := by simp [Dr.mark, Dr.put]
theorem mark_nums (d : Dr) (i : Nat) (on : Bool) : (d.mark i on).nums = d.nums := rfl
end Fil
section
variable {w : World} {B D m : Nat} {bl : List (List UInt8)} {g : Geo} {kd : Int} {d : Dr} {nv : Value} {vs : Nat → Value} {gs : Nat → Nat}
theorem DrL.num_at (h : DrL w B D m g kd d nv vs gs) {q c : Nat} (hq : nv = .slice (some ⟨q, 0, none⟩) d.nums.length c) (j : Nat) (hj : j < d.nums.length) : w.cell? ⟨q, j, none⟩ = some (.int .i64 ((d.nums.getD j 0 : Nat) : Int)) := by
  have := World.ownsRow.cells h.rw_.own (g := q) (by rw [hq]; rfl) j (VI ((d.nums.getD j 0 : Nat) : Int)) (by
    simp only [VNs, List.getElem?_map, List.getD_eq_getElem?_getD, List.getElem?_eq_getElem hj, Option.map_some, Option.getD_some])
  rw [add_off, Nat.zero_add] at this
  exact this
theorem DrL.cut_lay (h : DrL w B D m g kd d nv vs gs) {q c : Nat} (hq : nv = .slice (some ⟨q, 0, none⟩) d.nums.length c) (k : Nat) (hk : k ≤ d.nums.length) :
    DrA (w.setCell ⟨D, 5, none⟩ (.slice (some ⟨q, 0, none⟩) k c)) B D m g kd { d with nums := d.nums.take k } ∧ Below B w (w.setCell ⟨D, 5, none⟩ (.slice (some ⟨q, 0, none⟩) k c)) := by
  have ho := h.rw_.own
  obtain ⟨q', c', e, hc⟩ := h.rw_.nvF
  rw [hq] at e
  injection e with e1 _ e3
  injection e1 with e1
  injection e1 with e1 _ _
  subst e1; subst e3
  rw [hq] at ho
  have h2 := ho.cut k (by rw [VNs_length]; exact hk)
  rw [VNs_take] at h2
  have hl : (d.nums.take k).length = k := by rw [List.length_take]; omega
  exact ⟨⟨_, _, _, h.setN (w' := w) (fun _ _ _ => rfl) h2 (fun z hz => .inl (by rw [hq]; exact hz)) ⟨q, c, by rw [hl], by rw [hl]; omega⟩⟩, (Below.refl _ _).setCell h.rw_.lo _⟩
theorem FiDRel_any (h : DrL w B D m g kd d nv vs gs) (hB : B ≤ w.heap.size) (hd : d.Ok) {b0 : List UInt8} (hb : d.ch 0 = some b0) (k : Nat) (hk : k ≤ d.nums.length) :
    Calls Try.prog 52 #[.pointer (some ⟨D, 0, none⟩), .int .i64 (k : Int)] w fun e w' => e = .returned (.tuple #[]) ∧ DrA w' B D m g kd (d.release k) ∧ Below B w w' := by
  obtain ⟨q, c, hq, hc⟩ := h.rw_.nvF
  have c5 := h.hd.c5
  have hlen := hd.len
  have HL : Hid (∀ (W : World) (d' : Dr), DrN W B D m g kd d' nv → d'.nums = d.nums → DrA (W.setCell ⟨D, 5, none⟩ (.slice (some ⟨q, 0, none⟩) k c)) B D m g kd { d' with nums := d.nums.take k } ∧ Below B W (W.setCell ⟨D, 5, none⟩ (.slice (some ⟨q, 0, none⟩) k c))) := fun W d' hN hn => by
    obtain ⟨vs', gs', h'⟩ := hN
    have := h'.cut_lay (by rw [hn]; exact hq) k (by rw [hn]; exact hk)
    rwa [hn] at this
  obtain ⟨n, hn⟩ : ∃ n, n = d.nums.length := ⟨_, rfl⟩
  rw [← hn] at hlen hc hk
  obtain ⟨kept, hkept⟩ : ∃ l, l = d.nums.take k := ⟨_, rfl⟩
  have hR : Hid (d.release k = { Dr.free kept (d.nums.drop k) d with nums := d.nums.take k }) := by show _ = _; rw [hkept]; rfl
  rw [hR.out]
  have kb : (k : Int) ≤ 37 := by omega
  have nb : (n : Int) ≤ 37 := by omega
  have Hnum := Lib.hid hd.num
  have Hn := Lib.hid hn
  by_cases hck : c = k
  · have hkn : n = k := by omega
    have H0 : Hid (Dr.free kept (d.nums.drop k) d = d) := by show _ = _; rw [List.drop_of_length_le (by omega)]; rfl
    rw [H0.out]
    have HW : Hid (∀ r : Nat, DrA ((w.drewN r).setCell ⟨D, 5, none⟩ (.slice (some ⟨q, 0, none⟩) k c)) B D m g kd { d with nums := d.nums.take k } ∧ Below B (w.drewN r) ((w.drewN r).setCell ⟨D, 5, none⟩ (.slice (some ⟨q, 0, none⟩) k c))) := fun r => HL.out (w.drewN r) d ⟨vs, gs, h.below (below_drewN (Below.refl _ _) r)⟩ rfl
    have f5 := h.hd.free 5
    rw [hq, ← hn] at c5
    subst hck
    subst hkn
    clear h hd hb hR HL H0 Hnum Hn hn hq hkept hc hk
    go_enter Try.func52, Try.ntmps52
    go_wp2_with fail
    go_quiet (fail)
    go_wp2_with fail
    go_rounds 1
    go_end0
    exact ⟨rfl, (HW.out _).1, (below_drewN (Below.refl _ _) _).trans (HW.out _).2⟩
  · have hkc : k ≤ c := by omega
    have hck2 : ¬ c = k := hck
    have HM : Hid (∀ (W : World) (d' : Dr), DrN W B D m g kd d' nv → B ≤ W.heap.size → (d'.ch 0).isSome → ∀ i : Nat, i < 512 → Calls Try.prog 63 #[.pointer (some ⟨D, 0, none⟩), .int .i64 (i : Int), .bool false] W fun e w' => e = .returned (.tuple #[]) ∧ DrN w' B D m g kd (d'.mark i false) nv ∧ Below B W w') := fun W d' hN hBW hb' i hi => by
      obtain ⟨vs', gs', h'⟩ := hN
      obtain ⟨b, hb⟩ := Option.isSome_iff_exists.1 hb'
      exact FiDMark_any h' hBW hb i hi false
    have HCell : Hid (∀ (W : World) (d' : Dr), DrN W B D m g kd d' nv → d'.nums = d.nums → ∀ j : Nat, j < n → W.cell? ⟨q, j, none⟩ = some (.int .i64 ((d.nums.getD j 0 : Nat) : Int))) := fun W d' hN hn' j hj => by
      obtain ⟨vs', gs', h'⟩ := hN
      have := h'.num_at (by rw [hn']; exact hq) j (by rw [hn', ← hn]; exact hj)
      rw [hn'] at this
      exact this
    have HKp : Hid (∀ (W : World) (d' : Dr), DrN W B D m g kd d' nv → d'.nums = d.nums → ∀ x : Nat, Calls Try.prog 62 #[.slice (some ⟨q, 0, none⟩) k c, .int .i64 (x : Int)] W fun e w' => e = .returned (.bool (decide (x ∈ kept))) ∧ w' = W) := fun W d' hN hn' x => by
      obtain ⟨vs', gs', h'⟩ := hN
      have ho := h'.rw_.own
      rw [hq] at ho
      have h2 := ho.cut k (by rw [VNs_length, hn', ← hn]; exact hk)
      rw [VNs_take, hn', ← hkept] at h2
      have := QContI_any (kept.map fun n : Nat => (n : Int)) (by rw [hkept]; simp; omega) (x : Int) _ W h2.from_
      rw [mem_ints] at this
      exact this
    have HD0 : Hid (DrN w B D m g kd d nv) := ⟨vs, gs, h⟩
    have HDL := Lib.hid h
    have Hb := Lib.hid (show (d.ch 0).isSome from by rw [hb]; rfl)
    have hBs := Lib.hid hB
    have HF5 : Hid (∀ (W : World) (d' : Dr), DrN W B D m g kd d' nv → W.cell? ⟨D, 5, none⟩ = some nv ∧ W.frozen? ⟨D, 5, none⟩ = false) := fun W d' hN => by
      obtain ⟨vs', gs', h'⟩ := hN
      exact ⟨h'.hd.c5, h'.hd.free 5⟩
    have Hq := Lib.hid hq
    rw [hq, ← hn] at c5
    clear h hd hb hR hn hq hkept
    go_enter Try.func52, Try.ntmps52
    go_wp2_with fail
    go_quiet (fail)
    go_wp2_with fail
    have HDq : Hid (DrN (w.drewN nq) B D m g kd d nv) := ⟨vs, gs, HDL.out.below (below_drewN (Below.refl _ _) nq)⟩
    have HBq : Hid (Below B w (w.drewN nq)) := below_drewN (Below.refl _ _) nq
    clear HD0 HDL c5
    generalize w.drewN nq = wq at *
    go_loopw [22] (fun i wr => ∃ (j : Nat) (d' : Dr), j ≤ n - k ∧ i = .int .i64 j ∧ Hid (DrN wr B D m g kd d' nv) ∧ Hid (Below B w wr) ∧ Hid (d'.nums = d.nums) ∧ Hid ((d'.ch 0).isSome = true) ∧ Hid (Dr.free kept (d.nums.drop (k + j)) d' = Dr.free kept (d.nums.drop k) d)) (fun i _ => (n - k) - (intOf i).toNat)
    case atStart => exact ⟨0, d, by omega, rfl, HDq, HBq, rfl, Hb, by rw [Nat.add_zero]; exact rfl⟩
    case round =>
      rename World => wr
      clear HDq HBq Hb
      obtain ⟨j, d', hj, rfl, HN, HBl, HNs, HSm, HFr⟩ := hrel
      have Hsz : Hid (B ≤ wr.heap.size) := Nat.le_trans hB HBl.out.size
      by_cases hlt : j < n - k
      · have HX : Hid (d.nums.drop (k + j) = d.nums.getD (k + j) 0 :: d.nums.drop (k + (j + 1))) := by
          show _ = _
          rw [List.drop_eq_getElem_cons (by have := Hn.out; omega), List.getD_eq_getElem?_getD, List.getElem?_eq_getElem (by have := Hn.out; omega)]
          rfl
        have hx512 : d.nums.getD (k + j) 0 < 512 := by
          have h2 := Hn.out
          rw [List.getD_eq_getElem?_getD, List.getElem?_eq_getElem (by omega)]
          have := Hnum.out _ (List.getElem_mem (l := d.nums) (n := k + j) (by omega))
          simp only [Option.getD_some]; omega
        have cX := HCell.out wr d' HN.out HNs.out (k + j) (by omega)
        have HC := Lib.hid (HKp.out wr d' HN.out HNs.out (d.nums.getD (k + j) 0))
        have HMk := Lib.hid (HM.out wr d' HN.out Hsz.out HSm.out (d.nums.getD (k + j) 0) hx512)
        rw [HX.out] at HFr
        have HFr2 : Hid (Dr.free kept (d.nums.drop (k + (j + 1))) (if d.nums.getD (k + j) 0 ∈ kept then d' else d'.mark (d.nums.getD (k + j) 0) false) = Dr.free kept (d.nums.drop k) d) := HFr.out
        clear HX HFr HM HCell HKp HL HF5 Hnum Hn
        generalize d.nums.getD (k + j) 0 = x at *
        by_cases hk2 : x ∈ kept
        · rw [decide_eq_true hk2] at HC
          rw [if_pos hk2] at HFr2
          clear hk2 HMk
          go_wp2_with fail
          refine HC.out.mono ?_
          rintro e w1 ⟨rfl, rfl⟩
          go_wp2_with fail
          go_roundw
          case rel => exact ⟨j + 1, d', by omega, by go_num, HN, HBl, HNs, HSm, HFr2⟩
          case measure => simp [intOf]; omega
        · rw [decide_eq_false hk2] at HC
          rw [if_neg hk2] at HFr2
          clear hk2
          go_wp2_with fail
          refine HC.out.mono ?_
          rintro e w1 ⟨rfl, rfl⟩
          go_wp2_with fail
          refine HMk.out.mono ?_
          rintro e w2 ⟨rfl, hN2, hB2⟩
          have HN2 := Lib.hid hN2
          have HB2 := Lib.hid (HBl.out.trans hB2)
          have HS2 : Hid (((d'.mark x false).ch 0).isSome = true) := by show _ = _; rw [mark_zero]; rfl
          clear hN2 hB2 HN HBl HMk HC
          go_wp2_with fail
          go_roundw
          case rel => exact ⟨j + 1, d'.mark x false, by omega, by go_num, HN2, HB2, HNs, HS2, HFr2⟩
          case measure => simp [intOf]; omega
      · obtain rfl : j = n - k := by omega
        have HE : Hid (d' = Dr.free kept (d.nums.drop k) d) := by
          have := HFr.out
          rw [List.drop_of_length_le (by have := Hn.out; omega)] at this
          exact this
        obtain ⟨c51, f5⟩ := HF5.out wr d' HN.out
        have HW := Lib.hid (HL.out wr d' HN.out HNs.out)
        rw [HE.out] at HW
        rw [Hq.out] at c51
        have HBl2 := HBl
        clear HFr HM HCell HKp HL HF5 Hnum HN HNs HSm HE
        go_wp2_with fail
        go_end0
        exact ⟨rfl, HW.out.1, HBl2.out.trans HW.out.2⟩
end
end Go.Proofs.Ytiafmghdiidniaa
end

section
/-
  THE WALKS of the landed draft's take, nameBlocks.
-/
namespace Go.Proofs.Ytiafmghdiidniaa
set_option maxRecDepth 100000
set_option maxHeartbeats 1000000
open Go.RowKit Cdc Inn Fil

theorem VNs_snoc (l : List Nat) (n : Nat) : VNs (l ++ [n]) = VNs l ++ [VI (n : Int)] := by simp [VNs]
namespace Fil
theorem first_lt {b : List UInt8} {f t : Int} (h : ¬ Bm.first b f t < 0) : Bm.first b f t < t ∧ f ≤ Bm.first b f t ∧ Bm.first b f t < 8 * b.length ∧ Bm.tb b (Bm.first b f t).toNat = false := by
  unfold Bm.first at *
  rcases Bm.fst_cases (Bm.freeP b f t) (8 * b.length) with ⟨e, _⟩ | ⟨k, hk, e, hp, _⟩
  · rw [e] at h; omega
  · rw [e]
    unfold Bm.freeP Bm.inR at hp
    simp only [Bool.and_eq_true, Bool.not_eq_true', decide_eq_true_eq] at hp
    rw [Int.toNat_natCast]
    exact ⟨hp.2.2, hp.2.1, by omega, hp.1⟩
end Fil
theorem made64 (W : World) : (Instr.makeSlice 41 (.int .i64 64) (.int .i64 64)).run Try.prog W = .ok (.slice (some ⟨W.heap.size, 0, none⟩) 64 64) (W.alloc (.cells (zeros64.map V8).toArray 5)) := by
  have h := run_make_row' (P := Try.prog) 41 5 (.int .u8 0) 1 Try.underlying41 (by kernel_rfl) rfl .i64 .i64 64 (by omega) (by omega) W
  rw [show madeCells #[Value.int .u8 0] 64 = (zeros64.map V8).toArray from by kernel_rfl] at h
  exact h
theorem Blk.made (W : World) : Blk (W.alloc (.cells (zeros64.map V8).toArray 5)) (.slice (some ⟨W.heap.size, 0, none⟩) 64 64) W.heap.size zeros64 :=
  ⟨⟨64, rfl, Nat.le_refl _⟩, by simp [zeros64], (Row.new W 5 (zeros64.map V8)).here⟩
section
variable {w : World} {B D m : Nat} {bl : List (List UInt8)} {g : Geo} {kd : Int} {d : Dr} {nv : Value} {vs : Nat → Value} {gs : Nat → Nat}
theorem DrL.push_lay (h : DrL w B D m g kd d nv vs gs) (hB : B ≤ w.heap.size) (n : Nat) {o : Obj} {w5 : World} {nv5 : Value} (ho : Own w5 B 3 nv5 (VNs (d.nums ++ [n]))) (hg : (w.alloc o).grownBy w5 nv.ownBlock) (hn : nv5.ownBlock = nv.ownBlock ∨ nv5.ownBlock = some (w.alloc o).heap.size) :
    DrL (w5.setCell ⟨D, 5, none⟩ nv5) B D m g kd { d with nums := d.nums ++ [n] } nv5 vs gs ∧ Below B w (w5.setCell ⟨D, 5, none⟩ nv5) ∧ w5.cell? ⟨D, 5, none⟩ = some nv ∧ w5.frozen? ⟨D, 5, none⟩ = false := by
  have hD := h.hd.lt
  have hal : (w.alloc o).heap.size = w.heap.size + 1 := by simp
  have hblk : ∀ k, k < w.heap.size → nv.ownBlock ≠ some k → w5.heap[k]? = w.heap[k]? := fun k hk hne => by
    rw [hg.block k (by omega) (fun e => hne e.symm)]
    exact Below.heap_alloc w o k hk
  have hDb := hblk D hD h.rw_.nvD
  refine ⟨h.setN hblk ho (fun q hq => ?_) ?_, ?_, ?_, ?_⟩
  · rcases hn with e | e
    · exact .inl (by rw [← e]; exact hq)
    · rw [hq] at e; injection e with e; exact .inr (by omega)
  · obtain ⟨q, c, e, -, -, hc, -⟩ := ho.form_cap (by rw [VNs_length]; simp)
    rw [VNs_length] at e hc
    exact ⟨q, c, e, hc⟩
  · refine Below.setCell ?_ h.rw_.lo _
    refine ⟨hg.os, hg.tape, hg.output, by have := hg.size; omega, fun k hk => hblk k (by omega) fun e => ?_⟩
    have := (h.rw_.own.lt e).1
    omega
  · rw [World.cell?_of_block (w := w) hDb]; exact h.hd.c5
  · have := h.hd.free 5
    simp only [World.frozen?, hDb] at this ⊢
    exact this
theorem FiDTake_no (h : DrL w B D m g kd d nv vs gs) (hgm : gmay g = true) {b0 : List UInt8} (hb : d.ch 0 = some b0) (hf : Bm.first b0 (gfirst g) g.n < 0) :
    Calls Try.prog 53 #[.pointer (some ⟨D, 0, none⟩)] w fun e w' => e = .returned (.bool false) ∧ Below w.heap.size w w' := by
  obtain ⟨h1, h2, h3, h4⟩ := h.rw_.row 0 (by omega) b0 hb
  obtain ⟨g1, g2, g3, g4, g5⟩ := gmay_iff.1 hgm
  have HFst : Hid (∀ W, Calls Try.prog 10 #[.agg #[.int .i64 g.n, .int .i64 g.k]] W fun e w' => e = .returned (.int .i64 (gfirst g)) ∧ Below W.heap.size W w') := fun W => FiFirst_any g.n g.k ⟨by omega, by omega⟩ (by omega) W
  have HBF : Hid (∀ W, Below w.heap.size w W → Calls Try.prog 64 #[vs 0, .int .i64 (gfirst g : Int), .int .i64 g.n] W fun e w' => e = .returned (.int .i64 (Bm.first b0 (gfirst g) g.n)) ∧ Below W.heap.size W w') := fun W hW =>
    BmFirst_any b0 (gfirst g : Int) g.n (vs 0) W (by have := h1.len; omega) ⟨by omega, by omega⟩ ⟨by omega, by omega⟩ (h1.below hW).arg
  have HK : Hid (∀ W, Below w.heap.size w W → W.cell? ⟨D, 1, none⟩ = some (.int .i64 g.n) ∧ W.cell? ⟨D, 2, none⟩ = some (.int .i64 g.k) ∧ W.cell? ⟨D, 6, none⟩ = some (vs 0)) := fun W hW => ⟨(h.below hW).hd.c1, (h.below hW).hd.c2, (h.below hW).hd.ch 0 (by omega)⟩
  obtain ⟨c1, c2, c6⟩ := HK.out w (Below.refl _ _)
  obtain ⟨cv, hv, -⟩ := h1.val
  rw [hv] at c6 HBF HK
  clear h h1 h2 h3 h4 hgm g1 g2 g3 g4 g5 hv hb
  obtain ⟨gn, gk⟩ := g
  generalize gs 0 = q0 at *
  generalize gfirst ⟨gn, gk⟩ = F at *
  simp only at *
  generalize Bm.first b0 F gn = z at *
  go_enter Try.func53, Try.ntmps53
  go_wp2_with fail
  have HKeep : Hid (∀ W, Below w.heap.size w W → W.cell? ⟨D, 1, none⟩ = some (.int .i64 gn) ∧ W.cell? ⟨D, 2, none⟩ = some (.int .i64 gk) ∧ W.cell? ⟨D, 6, none⟩ = some (.slice (some ⟨q0, 0, none⟩) 64 cv)) := HK
  have hC : Below w.heap.size w w.drew := below_drewN (Below.refl _ _) 1
  refine wp_region_held_drew (S := (fun W => W.cell? ⟨D, 1, none⟩ = some (.int .i64 gn) ∧ W.cell? ⟨D, 2, none⟩ = some (.int .i64 gk) ∧ W.cell? ⟨D, 6, none⟩ = some (.slice (some ⟨q0, 0, none⟩) 64 cv))) (by kernel_rfl) (HKeep.out _ hC) (fun hHeld => ?_)
  generalize w.drew = wd at *
  refine wpAnyH_take (i := 0) (oi := ⟨some 4, _, _, _, _, _⟩) (v := ?_) rfl (by kernel_rfl) (by kernel_rfl) (by kernel_rfl) (fun _ _ _ h => h) (Or.inl ⟨by rfl, ?_⟩) hHeld ?_
  rotate_left
  · intro w hSw
    go_simp
    with_reducible rfl
  try go_frame
  refine wpAnyH_take (i := 1) (oi := ⟨some 5, _, _, _, _, _⟩) (v := ?_) rfl (by kernel_rfl) (by kernel_rfl) (by kernel_rfl) (fun _ _ _ h => h) (Or.inl ⟨by rfl, ?_⟩) hHeld ?_
  rotate_left
  · intro w hSw
    go_simp
    with_reducible rfl
  try go_frame
  refine wpAnyH_take (i := 2) (oi := ⟨some 6, _, _, _, _, _⟩) (v := ?_) rfl (by kernel_rfl) (by kernel_rfl) (by kernel_rfl) (fun _ _ _ h => h) (Or.inl ⟨by rfl, ?_⟩) hHeld ?_
  rotate_left
  · intro w hSw
    go_simp
    with_reducible rfl
  try go_frame
  refine wpAnyH_take (i := 3) (oi := ⟨some 7, _, _, _, _, _⟩) (v := ?_) rfl (by kernel_rfl) (by kernel_rfl) (by kernel_rfl) (fun _ _ _ h => h) (Or.inl ⟨by rfl, ?_⟩) hHeld ?_
  rotate_left
  · intro w hSw
    go_simp
    with_reducible rfl
  try go_frame
  refine wpAnyH_take (i := 4) (oi := ⟨some 8, _, _, _, _, _⟩) (v := ?_) rfl (by kernel_rfl) (by kernel_rfl) (by kernel_rfl) (fun _ _ _ h => h) (Or.inl ⟨by rfl, ?_⟩) hHeld ?_
  rotate_left
  · intro w hSw
    obtain ⟨s1, s2, s6⟩ := hSw
    go_simp
    with_reducible rfl
  try go_frame
  refine wpAnyH_take (i := 5) (oi := ⟨some 9, _, _, _, _, _⟩) (v := ?_) rfl (by kernel_rfl) (by kernel_rfl) (by kernel_rfl) (fun _ _ _ h => h) (Or.inl ⟨by rfl, ?_⟩) hHeld ?_
  rotate_left
  · intro w hSw
    go_simp
    with_reducible rfl
  try go_frame
  refine wpAnyH_take (i := 6) (oi := ⟨some 10, _, _, _, _, _⟩) (v := ?_) rfl (by kernel_rfl) (by kernel_rfl) (by kernel_rfl) (fun _ _ _ h => h) (Or.inl ⟨by rfl, ?_⟩) hHeld ?_
  rotate_left
  · intro w hSw
    go_simp
    with_reducible rfl
  try go_frame
  refine wpAnyH_take (i := 7) (oi := ⟨some 11, _, _, _, _, _⟩) (v := ?_) rfl (by kernel_rfl) (by kernel_rfl) (by kernel_rfl) (fun _ _ _ h => h) (Or.inl ⟨by rfl, ?_⟩) hHeld ?_
  rotate_left
  · intro w hSw
    go_simp
    with_reducible rfl
  try go_frame
  refine wpAnyH_take (i := 8) (oi := ⟨some 12, _, _, _, _, _⟩) (v := ?_) rfl (by kernel_rfl) (by kernel_rfl) (by kernel_rfl) (fun _ _ _ h => h) (Or.inl ⟨by rfl, ?_⟩) hHeld ?_
  rotate_left
  · intro w hSw
    obtain ⟨s1, s2, s6⟩ := hSw
    go_simp
    with_reducible rfl
  try go_frame
  refine wpAnyH_take (i := 10) (oi := ⟨some 14, _, _, _, _, _⟩) (v := ?_) rfl (by kernel_rfl) (by kernel_rfl) (by kernel_rfl) (fun _ _ _ h => h) (Or.inl ⟨by rfl, ?_⟩) hHeld ?_
  rotate_left
  · intro w hSw
    go_simp
    with_reducible rfl
  try go_frame
  refine wpAnyH_take (i := 11) (oi := ⟨some 15, _, _, _, _, _⟩) (v := ?_) rfl (by kernel_rfl) (by kernel_rfl) (by kernel_rfl) (fun _ _ _ h => h) (Or.inl ⟨by rfl, ?_⟩) hHeld ?_
  rotate_left
  · intro w hSw
    go_simp
    with_reducible rfl
  try go_frame
  refine wpAnyH_take (i := 12) (oi := ⟨some 16, _, _, _, _, _⟩) (v := ?_) rfl (by kernel_rfl) (by kernel_rfl) (by kernel_rfl) (fun _ _ _ h => h) (Or.inl ⟨by rfl, ?_⟩) hHeld ?_
  rotate_left
  · intro w hSw
    go_simp
    with_reducible rfl
  try go_frame
  refine wpAnyH_take (i := 13) (oi := ⟨some 17, _, _, _, _, _⟩) (v := ?_) rfl (by kernel_rfl) (by kernel_rfl) (by kernel_rfl) (fun _ _ _ h => h) (Or.inl ⟨by rfl, ?_⟩) hHeld ?_
  rotate_left
  · intro w hSw
    go_simp
    with_reducible rfl
  try go_frame
  refine wpAnyH_take (i := 14) (oi := ⟨some 18, _, _, _, _, _⟩) (v := ?_) rfl (by kernel_rfl) (by kernel_rfl) (by kernel_rfl) (fun _ _ _ h => h) (Or.inl ⟨by rfl, ?_⟩) hHeld ?_
  rotate_left
  · intro w hSw
    obtain ⟨s1, s2, s6⟩ := hSw
    go_simp
    with_reducible rfl
  try go_frame
  refine wpAnyH_ready (rs := [9]) (by kernel_rfl) (by simp) ?_
  refine AllReadyH.cons (o := ⟨some 13, _, _, _, _, _⟩) rfl (fun K hK => ?_) AllReadyH.nil
  go_simp
  go_at_call 10
  refine (HFst.out wd).mono ?_
  rintro e wd_fi ⟨rfl, hb⟩
  replace hC := hC.trans (hb.mono hC.size)
  refine hK.out _ _ (HKeep.out _ hC) (fun hHeld => ?_)
  clear hK K hb 
  try go_frame
  refine wpAnyH_ready (rs := [15]) (by kernel_rfl) (by simp) ?_
  refine AllReadyH.cons (o := ⟨some 19, _, _, _, _, _⟩) rfl (fun K hK => ?_) AllReadyH.nil
  go_simp
  go_at_call 64
  refine (HBF.out wd_fi hC).mono ?_
  rintro e wd_fi_bf ⟨rfl, hb⟩
  replace hC := hC.trans (hb.mono hC.size)
  refine hK.out _ _ (HKeep.out _ hC) (fun hHeld => ?_)
  clear hK K hb 
  try go_frame
  refine wpAnyH_take (i := 16) (oi := ⟨some 3, _, _, _, _, _⟩) (v := ?_) rfl (by kernel_rfl) (by kernel_rfl) (by kernel_rfl) (fun _ _ _ h => h) (Or.inl ⟨by rfl, ?_⟩) hHeld ?_
  rotate_left
  · intro w hSw
    go_simp
    with_reducible rfl
  try go_frame
  refine wpAnyH_done (by kernel_rfl) ?_ _
  clear hHeld
  have HB2 := Lib.hid hC
  clear hC
  generalize wd_fi_bf = w2 at *
  go_wp2
  go_ret
  exact ⟨rfl, HB2.out⟩
theorem FiDTake_some (h : DrL w B D m g kd d nv vs gs) (hB : B ≤ w.heap.size) (hgm : gmay g = true) (hlen : d.nums.length ≤ 40) {b0 : List UInt8} (hb : d.ch 0 = some b0) (hf : ¬ Bm.first b0 (gfirst g) g.n < 0) {n : Nat} (hn : n = (Bm.first b0 (gfirst g) g.n).toNat) :
    Calls Try.prog 53 #[.pointer (some ⟨D, 0, none⟩)] w fun e w' => e = .returned (.bool true) ∧ DrA w' B D m g kd ({ d.mark n true with nums := d.nums ++ [n] }.put n zeros64) ∧ Below B w w' := by
  obtain ⟨h1, h2, h3, h4⟩ := h.rw_.row 0 (by omega) b0 hb
  obtain ⟨g1, g2, g3, g4, g5⟩ := gmay_iff.1 hgm
  obtain ⟨f1, f2, f3, f4⟩ := first_lt hf
  have HFst : Hid (∀ W, Calls Try.prog 10 #[.agg #[.int .i64 g.n, .int .i64 g.k]] W fun e w' => e = .returned (.int .i64 (gfirst g)) ∧ Below W.heap.size W w') := fun W => FiFirst_any g.n g.k ⟨by omega, by omega⟩ (by omega) W
  have HBF : Hid (∀ W, Below w.heap.size w W → Calls Try.prog 64 #[vs 0, .int .i64 (gfirst g : Int), .int .i64 g.n] W fun e w' => e = .returned (.int .i64 (n : Int)) ∧ Below W.heap.size W w') := fun W hW => by
    have := BmFirst_any b0 (gfirst g : Int) g.n (vs 0) W (by have := h1.len; omega) ⟨by omega, by omega⟩ ⟨by omega, by omega⟩ (h1.below hW).arg
    rwa [show Bm.first b0 (gfirst g) g.n = (n : Int) by omega] at this
  have hn128 : n < 128 := by omega
  have HMk : Hid (∀ W, Below w.heap.size w W → Calls Try.prog 63 #[.pointer (some ⟨D, 0, none⟩), .int .i64 (n : Int), .bool true] W fun e w' => e = .returned (.tuple #[]) ∧ DrN w' B D m g kd (d.mark n true) nv ∧ Below B W w') := fun W hW => FiDMark_any (h.below hW) (Nat.le_trans hB hW.size) hb n (by omega) true
  have HK : Hid (∀ W, Below w.heap.size w W → W.cell? ⟨D, 1, none⟩ = some (.int .i64 g.n) ∧ W.cell? ⟨D, 2, none⟩ = some (.int .i64 g.k) ∧ W.cell? ⟨D, 6, none⟩ = some (vs 0)) := fun W hW => ⟨(h.below hW).hd.c1, (h.below hW).hd.c2, (h.below hW).hd.ch 0 (by omega)⟩
  obtain ⟨c1, c2, c6⟩ := HK.out w (Below.refl _ _)
  obtain ⟨cv, hv, -⟩ := h1.val
  rw [hv] at c6 HBF HK
  have n0 : ¬ (n : Int) < 0 := by omega
  have hBs := Lib.hid hB
  have HLn := Lib.hid hlen
  have Hm64 := Lib.hid made64
  clear h h1 h2 h3 h4 hf hn hgm g1 g2 g3 g4 g5 f1 f2 f3 f4 hv hb
  obtain ⟨gn, gk⟩ := g
  generalize gs 0 = q0 at *
  generalize gfirst ⟨gn, gk⟩ = F at *
  simp only at *
  go_enter Try.func53, Try.ntmps53
  go_wp2_with fail
  have HKeep : Hid (∀ W, Below w.heap.size w W → W.cell? ⟨D, 1, none⟩ = some (.int .i64 gn) ∧ W.cell? ⟨D, 2, none⟩ = some (.int .i64 gk) ∧ W.cell? ⟨D, 6, none⟩ = some (.slice (some ⟨q0, 0, none⟩) 64 cv)) := HK
  have hC : Below w.heap.size w w.drew := below_drewN (Below.refl _ _) 1
  refine wp_region_held_drew (S := (fun W => W.cell? ⟨D, 1, none⟩ = some (.int .i64 gn) ∧ W.cell? ⟨D, 2, none⟩ = some (.int .i64 gk) ∧ W.cell? ⟨D, 6, none⟩ = some (.slice (some ⟨q0, 0, none⟩) 64 cv))) (by kernel_rfl) (HKeep.out _ hC) (fun hHeld => ?_)
  generalize w.drew = wd at *
  refine wpAnyH_take (i := 0) (oi := ⟨some 4, _, _, _, _, _⟩) (v := ?_) rfl (by kernel_rfl) (by kernel_rfl) (by kernel_rfl) (fun _ _ _ h => h) (Or.inl ⟨by rfl, ?_⟩) hHeld ?_
  rotate_left
  · intro w hSw
    go_simp
    with_reducible rfl
  try go_frame
  refine wpAnyH_take (i := 1) (oi := ⟨some 5, _, _, _, _, _⟩) (v := ?_) rfl (by kernel_rfl) (by kernel_rfl) (by kernel_rfl) (fun _ _ _ h => h) (Or.inl ⟨by rfl, ?_⟩) hHeld ?_
  rotate_left
  · intro w hSw
    go_simp
    with_reducible rfl
  try go_frame
  refine wpAnyH_take (i := 2) (oi := ⟨some 6, _, _, _, _, _⟩) (v := ?_) rfl (by kernel_rfl) (by kernel_rfl) (by kernel_rfl) (fun _ _ _ h => h) (Or.inl ⟨by rfl, ?_⟩) hHeld ?_
  rotate_left
  · intro w hSw
    go_simp
    with_reducible rfl
  try go_frame
  refine wpAnyH_take (i := 3) (oi := ⟨some 7, _, _, _, _, _⟩) (v := ?_) rfl (by kernel_rfl) (by kernel_rfl) (by kernel_rfl) (fun _ _ _ h => h) (Or.inl ⟨by rfl, ?_⟩) hHeld ?_
  rotate_left
  · intro w hSw
    go_simp
    with_reducible rfl
  try go_frame
  refine wpAnyH_take (i := 4) (oi := ⟨some 8, _, _, _, _, _⟩) (v := ?_) rfl (by kernel_rfl) (by kernel_rfl) (by kernel_rfl) (fun _ _ _ h => h) (Or.inl ⟨by rfl, ?_⟩) hHeld ?_
  rotate_left
  · intro w hSw
    obtain ⟨s1, s2, s6⟩ := hSw
    go_simp
    with_reducible rfl
  try go_frame
  refine wpAnyH_take (i := 5) (oi := ⟨some 9, _, _, _, _, _⟩) (v := ?_) rfl (by kernel_rfl) (by kernel_rfl) (by kernel_rfl) (fun _ _ _ h => h) (Or.inl ⟨by rfl, ?_⟩) hHeld ?_
  rotate_left
  · intro w hSw
    go_simp
    with_reducible rfl
  try go_frame
  refine wpAnyH_take (i := 6) (oi := ⟨some 10, _, _, _, _, _⟩) (v := ?_) rfl (by kernel_rfl) (by kernel_rfl) (by kernel_rfl) (fun _ _ _ h => h) (Or.inl ⟨by rfl, ?_⟩) hHeld ?_
  rotate_left
  · intro w hSw
    go_simp
    with_reducible rfl
  try go_frame
  refine wpAnyH_take (i := 7) (oi := ⟨some 11, _, _, _, _, _⟩) (v := ?_) rfl (by kernel_rfl) (by kernel_rfl) (by kernel_rfl) (fun _ _ _ h => h) (Or.inl ⟨by rfl, ?_⟩) hHeld ?_
  rotate_left
  · intro w hSw
    go_simp
    with_reducible rfl
  try go_frame
  refine wpAnyH_take (i := 8) (oi := ⟨some 12, _, _, _, _, _⟩) (v := ?_) rfl (by kernel_rfl) (by kernel_rfl) (by kernel_rfl) (fun _ _ _ h => h) (Or.inl ⟨by rfl, ?_⟩) hHeld ?_
  rotate_left
  · intro w hSw
    obtain ⟨s1, s2, s6⟩ := hSw
    go_simp
    with_reducible rfl
  try go_frame
  refine wpAnyH_take (i := 10) (oi := ⟨some 14, _, _, _, _, _⟩) (v := ?_) rfl (by kernel_rfl) (by kernel_rfl) (by kernel_rfl) (fun _ _ _ h => h) (Or.inl ⟨by rfl, ?_⟩) hHeld ?_
  rotate_left
  · intro w hSw
    go_simp
    with_reducible rfl
  try go_frame
  refine wpAnyH_take (i := 11) (oi := ⟨some 15, _, _, _, _, _⟩) (v := ?_) rfl (by kernel_rfl) (by kernel_rfl) (by kernel_rfl) (fun _ _ _ h => h) (Or.inl ⟨by rfl, ?_⟩) hHeld ?_
  rotate_left
  · intro w hSw
    go_simp
    with_reducible rfl
  try go_frame
  refine wpAnyH_take (i := 12) (oi := ⟨some 16, _, _, _, _, _⟩) (v := ?_) rfl (by kernel_rfl) (by kernel_rfl) (by kernel_rfl) (fun _ _ _ h => h) (Or.inl ⟨by rfl, ?_⟩) hHeld ?_
  rotate_left
  · intro w hSw
    go_simp
    with_reducible rfl
  try go_frame
  refine wpAnyH_take (i := 13) (oi := ⟨some 17, _, _, _, _, _⟩) (v := ?_) rfl (by kernel_rfl) (by kernel_rfl) (by kernel_rfl) (fun _ _ _ h => h) (Or.inl ⟨by rfl, ?_⟩) hHeld ?_
  rotate_left
  · intro w hSw
    go_simp
    with_reducible rfl
  try go_frame
  refine wpAnyH_take (i := 14) (oi := ⟨some 18, _, _, _, _, _⟩) (v := ?_) rfl (by kernel_rfl) (by kernel_rfl) (by kernel_rfl) (fun _ _ _ h => h) (Or.inl ⟨by rfl, ?_⟩) hHeld ?_
  rotate_left
  · intro w hSw
    obtain ⟨s1, s2, s6⟩ := hSw
    go_simp
    with_reducible rfl
  try go_frame
  refine wpAnyH_ready (rs := [9]) (by kernel_rfl) (by simp) ?_
  refine AllReadyH.cons (o := ⟨some 13, _, _, _, _, _⟩) rfl (fun K hK => ?_) AllReadyH.nil
  go_simp
  go_at_call 10
  refine (HFst.out wd).mono ?_
  rintro e wd_fi ⟨rfl, hb⟩
  replace hC := hC.trans (hb.mono hC.size)
  refine hK.out _ _ (HKeep.out _ hC) (fun hHeld => ?_)
  clear hK K hb 
  try go_frame
  refine wpAnyH_ready (rs := [15]) (by kernel_rfl) (by simp) ?_
  refine AllReadyH.cons (o := ⟨some 19, _, _, _, _, _⟩) rfl (fun K hK => ?_) AllReadyH.nil
  go_simp
  go_at_call 64
  refine (HBF.out wd_fi hC).mono ?_
  rintro e wd_fi_bf ⟨rfl, hb⟩
  replace hC := hC.trans (hb.mono hC.size)
  refine hK.out _ _ (HKeep.out _ hC) (fun hHeld => ?_)
  clear hK K hb 
  try go_frame
  refine wpAnyH_take (i := 16) (oi := ⟨some 3, _, _, _, _, _⟩) (v := ?_) rfl (by kernel_rfl) (by kernel_rfl) (by kernel_rfl) (fun _ _ _ h => h) (Or.inl ⟨by rfl, ?_⟩) hHeld ?_
  rotate_left
  · intro w hSw
    go_simp
    with_reducible rfl
  try go_frame
  refine wpAnyH_done (by kernel_rfl) ?_ _
  clear hHeld
  have HB2 := Lib.hid hC
  clear hC
  generalize wd_fi_bf = w2 at *
  have HM2 := Lib.hid (HMk.out w2 HB2.out)
  clear HMk HK HKeep HBF HFst c1 c2 c6
  go_wp2_with fail
  refine HM2.out.mono ?_
  rintro e w3 ⟨rfl, ⟨vs3, gs3, hL3⟩, hB3⟩
  have HL3 := Lib.hid hL3
  have HB3 := Lib.hid (HB2.out.mono hBs.out |>.trans hB3)
  have hBs3 := Lib.hid (Nat.le_trans hBs.out HB3.out.size)
  have c5 := hL3.hd.c5
  clear hL3 hB3 HM2 HB2
  obtain ⟨w4, hw4⟩ : ∃ W, W = w3.alloc (.cells #[.int .i64 (n : Int)] 3) := ⟨_, rfl⟩
  have HO4 : Hid (Own w4 B 3 nv (VNs d.nums)) := by rw [hw4]; exact HL3.out.rw_.own.alloc _
  have HF4 : Hid (From w4 (.slice (some ⟨w3.heap.size, 0, none⟩) 1 1) [VI (n : Int)]) := by rw [hw4]; exact (Own.lit w3 w3.heap.size 3 [VI (n : Int)] (Nat.le_refl _) (by simp)).from_
  have H14 : Hid (∀ y ∈ [VI (n : Int)], y.oneCell' = true) := fun y hy => by rw [List.mem_singleton] at hy; rw [hy]; rfl
  have HLn4 : Hid ((VNs d.nums).length + [VI (n : Int)].length ≤ 100000000) := by show _ ≤ _; rw [VNs_length, List.length_singleton]; have := HLn.out; omega
  have HBs4 : Hid (B ≤ w4.heap.size) := by rw [hw4]; have := hBs3.out; show _ ≤ _; simp; omega
  have HPush := Lib.hid (fun (w5 : World) (nv5 : Value) ho hg hn => HL3.out.push_lay hBs3.out n (o := .cells #[.int .i64 (n : Int)] 3) (w5 := w5) (nv5 := nv5) ho hg hn)
  rw [← hw4] at HPush
  go_wp2_with (rw [← hw4]; refine wpList_app rfl (.tmp 29) (.tmp 31) 77 rfl B 3 Try.underlying77 infoInt rfl (by decide) _ (VNs d.nums) rfl HO4.out _ [VI (n : Int)] rfl HF4.out H14.out HLn4.out HBs4.out ?_; intro v5 w5 ho5 hg5 hn5; have HP5 := Lib.hid (HPush.out w5 v5 (by show Own _ _ _ _ (VNs (d.nums ++ [n])); rw [VNs_snoc]; exact ho5) hg5 hn5); obtain ⟨q5, cap5, rfl, -, -, -⟩ := ho5.form (by simp); clear ho5 hg5 hn5; generalize (VNs d.nums ++ [VI (n : Int)]).length = len5 at *; obtain ⟨-, -, c55, f55⟩ := HP5.out)
  obtain ⟨hL6, hB6, -, -⟩ := HP5.out
  have HL6 := Lib.hid hL6
  have HB6 := Lib.hid (HB3.out.trans hB6)
  clear hL6 hB6 HP5 HPush HBs4 HLn4 H14 HF4 HO4 hw4 c55 f55 HL3 c5
  generalize (w5.setCell ⟨D, 5, none⟩ (.slice (some ⟨q5, 0, none⟩) len5 cap5)) = wb at *
  generalize (Value.slice (some ⟨q5, 0, none⟩) len5 cap5) = nv6 at *
  have hBw6 := Nat.le_trans hBs.out HB6.out.size
  have HC6 : Hid (∀ W, Below wb.heap.size wb W → W.cell? ⟨D, 6 + n, none⟩ = some (vs3 n) ∧ W.frozen? ⟨D, 6 + n, none⟩ = false) := fun W hW => ⟨(HL6.out.below hW).hd.ch n hn128, (HL6.out.below hW).hd.free _⟩
  have HPut : Hid (∀ (w' : World) (r : Value) (q : Nat), Below wb.heap.size wb w' → Blk w' r q zeros64 → wb.heap.size ≤ q → DrA (w'.setCell ⟨D, 6 + n, none⟩ r) B D m ⟨gn, gk⟩ kd ({ d.mark n true with nums := d.nums ++ [n] }.put n zeros64) ∧ Below B wb (w'.setCell ⟨D, 6 + n, none⟩ r)) := fun w' r q hbw hv hq => by
    obtain ⟨⟨vs', gs', h1, -, -⟩, h2⟩ := HL6.out.put_lay hBw6 n hn128 zeros64 hbw hv hq
    exact ⟨⟨_, _, _, h1⟩, h2⟩
  have HKeep : Hid (∀ W, Below wb.heap.size wb W → (fun _ : World => True) W) := fun _ _ => trivial
  have n128i : (n : Int) < 128 := by omega
  clear HL6 hBw6
  have hC : Below wb.heap.size wb wb.drew := below_drewN (Below.refl _ _) 1
  refine wp_region_held_drew (S := (fun _ : World => True)) (by kernel_rfl) (HKeep.out _ hC) (fun hHeld => ?_)
  generalize wb.drew = wbd at *
  refine wpAnyH_take (i := 0) (oi := ⟨some 35, _, _, _, _, _⟩) (v := ?_) rfl (by kernel_rfl) (by kernel_rfl) (by kernel_rfl) (fun _ _ _ h => h) (Or.inl ⟨by rfl, ?_⟩) hHeld ?_
  rotate_left
  · intro w hSw
    go_simp
    with_reducible rfl
  try go_frame
  refine wpAnyH_take (i := 1) (oi := ⟨some 36, _, _, _, _, _⟩) (v := ?_) rfl (by kernel_rfl) (by kernel_rfl) (by kernel_rfl) (fun _ _ _ h => h) (Or.inl ⟨by rfl, ?_⟩) hHeld ?_
  rotate_left
  · intro w hSw
    go_simp
    with_reducible rfl
  try go_frame
  refine wpAnyH_take (i := 3) (oi := ⟨some 38, _, _, _, _, _⟩) (v := ?_) rfl (by kernel_rfl) (by kernel_rfl) (by kernel_rfl) (fun _ _ _ h => h) (Or.inl ⟨by rfl, ?_⟩) hHeld ?_
  rotate_left
  · intro w hSw
    go_simp
    with_reducible rfl
  try go_frame
  refine wpAnyH_take (i := 4) (oi := ⟨some 39, _, _, _, _, _⟩) (v := ?_) rfl (by kernel_rfl) (by kernel_rfl) (by kernel_rfl) (fun _ _ _ h => h) (Or.inl ⟨by rfl, ?_⟩) hHeld ?_
  rotate_left
  · intro w hSw
    go_simp
    with_reducible rfl
  try go_frame
  refine wpAnyH_ready (rs := [2]) (by kernel_rfl) (by simp) ?_
  refine AllReadyH.cons (o := ⟨some 37, _, _, _, _, _⟩) rfl (fun K hK => ?_) AllReadyH.nil
  have hmk := Hm64.out wbd
  go_simp
  have hb : Below wbd.heap.size wbd (wbd.alloc (.cells (zeros64.map V8).toArray 5)) := Joins.below_alloc1 _ _
  have hg_mk := hC.size
  obtain ⟨g_mk, Hg_mk⟩ : ∃ g, Hid (g = wbd.heap.size) := ⟨_, rfl⟩
  have HBk : Hid (Blk (wbd.alloc (.cells (zeros64.map V8).toArray 5)) (.slice (some ⟨wbd.heap.size, 0, none⟩) 64 64) wbd.heap.size zeros64) := Blk.made _
  replace hC := hC.trans (hb.mono hC.size)
  refine hK.out _ _ (HKeep.out _ hC) (fun hHeld => ?_)
  clear hK K hb
  generalize (wbd.alloc (.cells (zeros64.map V8).toArray 5)) = wbd_mk at *
  rw [← Hg_mk.out] at hg_mk ⊢
  rw [← Hg_mk.out] at HBk
  clear Hg_mk
  try go_frame
  refine wpAnyH_take (i := 5) (oi := ⟨some 40, _, _, _, _, _⟩) (v := ?_) rfl (by kernel_rfl) (by kernel_rfl) (by kernel_rfl) (fun _ _ _ h => h) (Or.inl ⟨by rfl, ?_⟩) hHeld ?_
  rotate_left
  · intro w hSw
    go_simp
    with_reducible rfl
  try go_frame
  refine wpAnyH_ready (rs := [6]) (by kernel_rfl) (by simp) ?_
  refine AllReadyH.cons (o := ⟨none, _, _, _, _, _⟩) rfl (fun K hK => ?_) AllReadyH.nil
  obtain ⟨cS, fS⟩ := HC6.out wbd_mk hC
  go_simp
  have HE : Hid (DrA (wbd_mk.setCell ⟨D, 6 + n, none⟩ (.slice (some ⟨g_mk, 0, none⟩) 64 64)) B D m ⟨gn, gk⟩ kd ({ d.mark n true with nums := d.nums ++ [n] }.put n zeros64) ∧ Below B wb (wbd_mk.setCell ⟨D, 6 + n, none⟩ (.slice (some ⟨g_mk, 0, none⟩) 64 64))) := HPut.out wbd_mk _ g_mk hC HBk.out hg_mk
  refine hK.out _ _ (trivial) (fun hHeld => ?_)
  clear hK K cS fS  hC
  generalize (wbd_mk.setCell ⟨D, 6 + n, none⟩ (.slice (some ⟨g_mk, 0, none⟩) 64 64)) = wbd_mk_st at *
  try go_frame
  refine wpAnyH_done (by kernel_rfl) ?_ _
  clear hHeld
  obtain ⟨hE1, hE2⟩ := HE.out
  have HE1 := Lib.hid hE1
  have HE2 := Lib.hid (HB6.out.trans hE2)
  clear hE1 hE2 HE HC6 HPut HKeep HBk
  go_wp2
  go_ret
  exact ⟨rfl, HE1.out, HE2.out⟩
end
end Go.Proofs.Ytiafmghdiidniaa
end

section
/-
  THE WALK of the landed draft's nameBlocks.
-/
namespace Go.Proofs.Ytiafmghdiidniaa
set_option maxRecDepth 100000
set_option maxHeartbeats 1000000
open Go.RowKit Cdc Inn Fil

namespace Fil
/-- So many numbers named, zeros behind. -/
def namedN (l : List Nat) (i : Nat) : List UInt8 := (l.take i).map UInt8.ofNat ++ List.replicate (64 - i) 0
theorem namedN_zero (l : List Nat) : namedN l 0 = zeros64 := by simp [namedN, zeros64]
theorem namedN_all (l : List Nat) : namedN l l.length = named l := by simp [namedN, named]
theorem namedN_length (l : List Nat) (i : Nat) (h : i ≤ l.length) (h2 : l.length ≤ 64) : (namedN l i).length = 64 := by simp [namedN]; omega
theorem namedN_set (l : List Nat) (i : Nat) (h : i < l.length) (h2 : l.length ≤ 64) : (namedN l i).set i (UInt8.ofNat (l.getD i 0)) = namedN l (i + 1) := by
  have hl : ((l.take i).map UInt8.ofNat).length = i := by simp; omega
  unfold namedN
  rw [List.set_append_right _ _ (by omega), hl, Nat.sub_self, show 64 - i = (64 - (i + 1)) + 1 by omega, List.replicate_succ, List.set_cons_zero, List.take_succ_eq_append_getElem h, List.map_append, List.append_assoc]
  simp [List.getD_eq_getElem?_getD, List.getElem?_eq_getElem h]
end Fil
section
variable {w : World} {B D m : Nat} {bl : List (List UInt8)} {g : Geo} {kd : Int} {d : Dr} {nv : Value} {vs : Nat → Value} {gs : Nat → Nat}
theorem FiDName_few (h : DrL w B D m g kd d nv vs gs) (hn : d.nums.length ≤ 4) :
    Calls Try.prog 54 #[.pointer (some ⟨D, 0, none⟩)] w fun e w' => e = .returned (.tuple #[]) ∧ w' = w := by
  obtain ⟨q, c, hq, hc⟩ := h.rw_.nvF
  have c5 := h.hd.c5
  rw [hq] at c5
  clear h hq hc
  generalize d.nums.length = n at *
  have hn' : (n : Int) ≤ 4 := by omega
  go_enter Try.func54, Try.ntmps54
  go_wp2
  exact bodyPost_ret (results_none rfl _ _ _) rfl ⟨rfl, rfl⟩
theorem FiDName_many (h : DrL w B D m g kd d nv vs gs) (hB : B ≤ w.heap.size) (hd : d.Ok) (hn : 5 < d.nums.length) :
    Calls Try.prog 54 #[.pointer (some ⟨D, 0, none⟩)] w fun e w' => e = .returned (.tuple #[]) ∧ DrA w' B D m g kd (d.put (d.nums.getD 4 0) (named (d.nums.drop 5))) ∧ Below B w w' := by
  obtain ⟨q, c, hq, hc⟩ := h.rw_.nvF
  have c5 := h.hd.c5
  have hlen := hd.len
  have hqD : q ≠ D := fun e => h.rw_.nvD (by rw [hq, e]; rfl)
  have hn4 : d.nums.getD 4 0 < 128 := by
    rw [List.getD_eq_getElem?_getD, List.getElem?_eq_getElem (by omega)]
    exact hd.num _ (List.getElem_mem _)
  have HX : Hid (∀ j, j < d.nums.length → d.nums.getD j 0 < 128) := fun j hj => by
    rw [List.getD_eq_getElem?_getD, List.getElem?_eq_getElem hj]
    exact hd.num _ (List.getElem_mem _)
  have HCell : Hid (∀ W, Below w.heap.size w W → ∀ j : Nat, j < d.nums.length → W.cell? ⟨q, j, none⟩ = some (.int .i64 ((d.nums.getD j 0 : Nat) : Int))) := fun W hW j hj => (h.below hW).num_at hq j hj
  have HKD : Hid (∀ W, Below w.heap.size w W → W.cell? ⟨D, 5, none⟩ = some nv ∧ W.cell? ⟨D, 6 + d.nums.getD 4 0, none⟩ = some (vs (d.nums.getD 4 0)) ∧ W.frozen? ⟨D, 6 + d.nums.getD 4 0, none⟩ = false) := fun W hW => ⟨(h.below hW).hd.c5, (h.below hW).hd.ch _ hn4, (h.below hW).hd.free _⟩
  have HPut0 := Lib.hid (fun (w' : World) (r : Value) (q : Nat) hbw hv hq => h.put_lay hB (d.nums.getD 4 0) hn4 (named (d.nums.drop 5)) (w' := w') (r := r) (q := q) hbw hv hq)
  have HL : Hid ((d.nums.drop 5).length = d.nums.length - 5) := by show _ = _; rw [List.length_drop]
  have HLg : Hid (∀ i, (d.nums.drop 5).getD i 0 = d.nums.getD (5 + i) 0) := fun i => by rw [List.getD_eq_getElem?_getD, List.getD_eq_getElem?_getD, List.getElem?_drop]
  obtain ⟨L, hLL⟩ : ∃ L, L = d.nums.drop 5 := ⟨_, rfl⟩
  rw [← hLL] at HPut0 HL HLg ⊢
  obtain ⟨n, hnn⟩ : ∃ n, n = d.nums.length := ⟨_, rfl⟩
  rw [hq] at c5 HKD
  rw [← hnn] at hlen hn hc HX HCell HL c5 HKD
  have h4i : n > 4 := by omega
  have hn37 : (n : Int) ≤ 37 := by omega
  have hc5 : ¬ c = 5 := by omega
  have hc5' : 5 ≤ c := by omega
  have Hm64 := Lib.hid made64
  have H4 := Lib.hid (HCell.out w (Below.refl _ _))
  obtain ⟨n4, hn4e⟩ : ∃ n4, n4 = d.nums.getD 4 0 := ⟨_, rfl⟩
  rw [← hn4e] at hn4 HKD HPut0 ⊢
  have HN4 := Lib.hid hn4e
  have HB0 := Lib.hid hB
  have HqD := Lib.hid hqD
  clear h hd hq hnn hLL hn4e
  obtain ⟨bytes, hbytes⟩ : ∃ b, b = named L := ⟨_, rfl⟩
  rw [← hbytes]
  have HBy := Lib.hid hbytes
  clear hbytes
  obtain ⟨w1, hw1⟩ : ∃ W, W = w.alloc (.cells (zeros64.map V8).toArray 5) := ⟨_, rfl⟩
  have hmk := Hm64.out w
  rw [← hw1] at hmk
  have HR1 : Hid (Row w1 w.heap.size 5 ((namedN L 0).map V8)) := by rw [hw1, namedN_zero]; exact Row.new w 5 (zeros64.map V8)
  have HB1 : Hid (Below w.heap.size w w1) := by rw [hw1]; exact (Below.refl _ _).alloc (Nat.le_refl _) _
  have c51 := (HKD.out w1 HB1.out).1
  obtain ⟨g2, hg2⟩ : ∃ g2, g2 = w.heap.size := ⟨_, rfl⟩
  rw [← hg2] at hmk HR1
  have Hg2 := Lib.hid hg2
  clear hw1 hg2
  go_enter Try.func54, Try.ntmps54
  go_wp2_with fail
  clear hmk c5 c51
  go_loopw [18] (fun i wr => ∃ j : Nat, j ≤ n - 5 ∧ i = .int .i64 j ∧ Hid (Row wr g2 5 ((namedN L j).map V8)) ∧ Hid (Below w.heap.size w wr)) (fun i _ => (n - 5) - (intOf i).toNat)
  case atStart => exact ⟨0, by omega, rfl, HR1, HB1⟩
  case round =>
    rename World => wr
    clear HR1 HB1
    obtain ⟨j, hj, rfl, HR, HB⟩ := hrel
    by_cases hlt : j < n - 5
    · have cx := HCell.out wr HB.out (5 + j) (by omega)
      have hx := HX.out (5 + j) (by omega)
      have cg := HR.out.cell j
      rw [List.getElem?_map, List.getElem?_eq_getElem (by rw [namedN_length _ _ (by have := HL.out; omega) (by have := HL.out; omega)]; omega)] at cg
      obtain ⟨y, cgy⟩ : ∃ y, wr.cell? ⟨g2, j, none⟩ = some y := ⟨_, cg⟩
      clear cg
      have fg := HR.out.free j
      have HR2 : Hid (Row (wr.setCell ⟨g2, j, none⟩ (.int .u8 (d.nums.getD (5 + j) 0 : Nat))) g2 5 ((namedN L (j + 1)).map V8)) := by
        have h1 := HR.out.set j (V8 (UInt8.ofNat (d.nums.getD (5 + j) 0)))
        rw [← List.map_set, ← HLg.out, namedN_set L j (by have := HL.out; omega) (by have := HL.out; omega)] at h1
        have e : V8 (UInt8.ofNat (L.getD j 0)) = .int .u8 (d.nums.getD (5 + j) 0 : Nat) := by
          rw [HLg.out]
          show Value.int .u8 ((UInt8.ofNat (d.nums.getD (5 + j) 0)).toNat : Int) = _
          rw [UInt8.toNat_ofNat', Nat.mod_eq_of_lt (by omega)]
        rw [e] at h1
        exact h1
      have HB2 : Hid (Below w.heap.size w (wr.setCell ⟨g2, j, none⟩ (.int .u8 (d.nums.getD (5 + j) 0 : Nat)))) := HB.out.setCell (by rw [Hg2.out]; exact Nat.le_refl _) _
      clear HX HCell HKD HPut0 HL HLg H4 HN4 HR HB
      generalize d.nums.getD (5 + j) 0 = x at *
      have hj37 : j ≤ 37 := by omega
      have hx0 : (x : Int) % 256 = x := by omega
      go_wp2_with fail
      go_roundw
      case rel => exact ⟨j + 1, by omega, by go_num, HR2, HB2⟩
      case measure => simp [intOf]; omega
    · obtain rfl : j = n - 5 := by omega
      have HR2 : Hid (Blk wr (.slice (some ⟨g2, 0, none⟩) 64 64) g2 (named L)) := by
        have h1 := HR.out
        rw [← HL.out, namedN_all] at h1
        exact ⟨⟨64, rfl, Nat.le_refl _⟩, by rw [← namedN_all, namedN_length _ _ (Nat.le_refl _) (by have := HL.out; omega)], h1.here⟩
      have HC6 : Hid (∀ W, Below wr.heap.size wr W → W.cell? ⟨D, 6 + n4, none⟩ = some (vs n4) ∧ W.frozen? ⟨D, 6 + n4, none⟩ = false) := fun W hW => (HKD.out W (HB.out.trans (hW.mono HB.out.size))).2
      obtain ⟨wb, hwb⟩ : ∃ wb, wb = wr := ⟨_, rfl⟩
      rw [← hwb] at HC6 HR2 HB ⊢
      have HPut : Hid (∀ W, Below wb.heap.size wb W → DrA (W.setCell ⟨D, 6 + n4, none⟩ (.slice (some ⟨g2, 0, none⟩) 64 64)) B D m g kd (d.put n4 (named L)) ∧ Below B wb (W.setCell ⟨D, 6 + n4, none⟩ (.slice (some ⟨g2, 0, none⟩) 64 64))) := fun W hW => by
        have hBW := HB.out.trans (hW.mono HB.out.size)
        obtain ⟨⟨vs', gs', h1, -, -⟩, h2⟩ := HPut0.out W _ g2 hBW (HR2.out.below hW) (by rw [Hg2.out]; exact Nat.le_refl _)
        refine ⟨⟨_, _, _, h1⟩, ⟨?_, ?_, ?_, ?_, ?_⟩⟩
        · exact hW.os
        · exact hW.tape
        · exact hW.output
        · show wb.heap.size ≤ _; have := hW.size; simpa [World.setCell] using this
        · intro k hk; rw [h2.block k hk]; exact (HB.out.block k (by have := HB0.out; omega)).symm
      have HSx : Hid (∀ W, Below wb.heap.size wb W → W.cell? ⟨D, 5, none⟩ = some (.slice (some ⟨q, 0, none⟩) n c) ∧ W.cell? ⟨q, 4, none⟩ = some (.int .i64 (n4 : Int))) := fun W hW => by
        have hBW := HB.out.trans (hW.mono HB.out.size)
        refine ⟨(HKD.out W hBW).1, ?_⟩
        have := HCell.out W hBW 4 (by omega)
        rwa [← HN4.out] at this
      have HS5 : Hid (∀ W, Below wb.heap.size wb W → (W.setCell ⟨D, 6 + n4, none⟩ (.slice (some ⟨g2, 0, none⟩) 64 64)).cell? ⟨D, 5, none⟩ = some (.slice (some ⟨q, 0, none⟩) n c) ∧ (W.setCell ⟨D, 6 + n4, none⟩ (.slice (some ⟨g2, 0, none⟩) 64 64)).cell? ⟨q, 4, none⟩ = some (.int .i64 (n4 : Int))) := fun W hW => by
        obtain ⟨s5, s4⟩ := HSx.out W hW
        refine ⟨by rw [setCell_cell _ _ _ _ _ (by omega)]; exact s5, ?_⟩
        rw [World.cell?_setCell_other _ _ _ _ (fun e => by injection e with e1 _; exact HqD.out e1.symm)]
        exact s4
      have HKeep := HSx
      have HBb : Hid (Below B w wb) := HB.out.mono HB0.out
      rw [← HBy.out] at HPut
      have n4i : (n4 : Int) < 128 := by omega
      clear HBy HR2 HB HX HCell HKD HPut0 HL HLg H4 HN4 HR hwb HSx
      go_wp2_with fail
      have hC : Below wb.heap.size wb wb.drew := below_drewN (Below.refl _ _) 1
      refine wp_region_held_drew (S := (fun W => W.cell? ⟨D, 5, none⟩ = some (.slice (some ⟨q, 0, none⟩) n c) ∧ W.cell? ⟨q, 4, none⟩ = some (.int .i64 (n4 : Int)))) (by kernel_rfl) (HKeep.out _ hC) (fun hHeld => ?_)
      generalize wb.drew = wbd at *
      refine wpAnyH_take (i := 0) (oi := ⟨some 29, _, _, _, _, _⟩) (v := ?_) rfl (by kernel_rfl) (by kernel_rfl) (by kernel_rfl) (fun _ _ _ h => h) (Or.inl ⟨by rfl, ?_⟩) hHeld ?_
      rotate_left
      · intro w hSw
        go_simp
        with_reducible rfl
      try go_frame
      refine wpAnyH_take (i := 1) (oi := ⟨some 30, _, _, _, _, _⟩) (v := ?_) rfl (by kernel_rfl) (by kernel_rfl) (by kernel_rfl) (fun _ _ _ h => h) (Or.inl ⟨by rfl, ?_⟩) hHeld ?_
      rotate_left
      · intro w hSw
        go_simp
        with_reducible rfl
      try go_frame
      refine wpAnyH_take (i := 2) (oi := ⟨some 31, _, _, _, _, _⟩) (v := ?_) rfl (by kernel_rfl) (by kernel_rfl) (by kernel_rfl) (fun _ _ _ h => h) (Or.inl ⟨by rfl, ?_⟩) hHeld ?_
      rotate_left
      · intro w hSw
        go_simp
        with_reducible rfl
      try go_frame
      refine wpAnyH_take (i := 3) (oi := ⟨some 32, _, _, _, _, _⟩) (v := ?_) rfl (by kernel_rfl) (by kernel_rfl) (by kernel_rfl) (fun _ _ _ h => h) (Or.inl ⟨by rfl, ?_⟩) hHeld ?_
      rotate_left
      · intro w hSw
        go_simp
        with_reducible rfl
      try go_frame
      refine wpAnyH_take (i := 4) (oi := ⟨some 33, _, _, _, _, _⟩) (v := ?_) rfl (by kernel_rfl) (by kernel_rfl) (by kernel_rfl) (fun _ _ _ h => h) (Or.inl ⟨by rfl, ?_⟩) hHeld ?_
      rotate_left
      · intro w hSw
        obtain ⟨s5, s4⟩ := hSw
        go_simp
        with_reducible rfl
      try go_frame
      refine wpAnyH_take (i := 5) (oi := ⟨some 34, _, _, _, _, _⟩) (v := ?_) rfl (by kernel_rfl) (by kernel_rfl) (by kernel_rfl) (fun _ _ _ h => h) (Or.inl ⟨by rfl, ?_⟩) hHeld ?_
      rotate_left
      · intro w hSw
        go_simp
        with_reducible rfl
      try go_frame
      refine wpAnyH_take (i := 6) (oi := ⟨some 35, _, _, _, _, _⟩) (v := ?_) rfl (by kernel_rfl) (by kernel_rfl) (by kernel_rfl) (fun _ _ _ h => h) (Or.inl ⟨by rfl, ?_⟩) hHeld ?_
      rotate_left
      · intro w hSw
        obtain ⟨s5, s4⟩ := hSw
        go_simp
        with_reducible rfl
      try go_frame
      refine wpAnyH_take (i := 7) (oi := ⟨some 36, _, _, _, _, _⟩) (v := ?_) rfl (by kernel_rfl) (by kernel_rfl) (by kernel_rfl) (fun _ _ _ h => h) (Or.inl ⟨by rfl, ?_⟩) hHeld ?_
      rotate_left
      · intro w hSw
        go_simp
        with_reducible rfl
      try go_frame
      refine wpAnyH_take (i := 8) (oi := ⟨some 37, _, _, _, _, _⟩) (v := ?_) rfl (by kernel_rfl) (by kernel_rfl) (by kernel_rfl) (fun _ _ _ h => h) (Or.inl ⟨by rfl, ?_⟩) hHeld ?_
      rotate_left
      · intro w hSw
        go_simp
        with_reducible rfl
      try go_frame
      refine wpAnyH_take (i := 9) (oi := ⟨some 38, _, _, _, _, _⟩) (v := ?_) rfl (by kernel_rfl) (by kernel_rfl) (by kernel_rfl) (fun _ _ _ h => h) (Or.inl ⟨by rfl, ?_⟩) hHeld ?_
      rotate_left
      · intro w hSw
        go_simp
        with_reducible rfl
      try go_frame
      refine wpAnyH_take (i := 10) (oi := ⟨some 39, _, _, _, _, _⟩) (v := ?_) rfl (by kernel_rfl) (by kernel_rfl) (by kernel_rfl) (fun _ _ _ h => h) (Or.inl ⟨by rfl, ?_⟩) hHeld ?_
      rotate_left
      · intro w hSw
        go_simp
        with_reducible rfl
      try go_frame
      refine wpAnyH_ready (rs := [11]) (by kernel_rfl) (by simp) ?_
      refine AllReadyH.cons (o := ⟨none, _, _, _, _, _⟩) rfl (fun K hK => ?_) AllReadyH.nil
      obtain ⟨cS, fS⟩ := HC6.out wbd hC
      go_simp
      have HE : Hid (DrA (wbd.setCell ⟨D, 6 + n4, none⟩ (.slice (some ⟨g2, 0, none⟩) 64 64)) B D m g kd (d.put n4 bytes) ∧ Below B wb (wbd.setCell ⟨D, 6 + n4, none⟩ (.slice (some ⟨g2, 0, none⟩) 64 64))) := HPut.out wbd hC
      refine hK.out _ _ (HS5.out wbd hC) (fun hHeld => ?_)
      clear hK K cS fS  hC
      generalize (wbd.setCell ⟨D, 6 + n4, none⟩ (.slice (some ⟨g2, 0, none⟩) 64 64)) = wbd_st at *
      try go_frame
      refine wpAnyH_done (by kernel_rfl) ?_ _
      clear hHeld
      obtain ⟨hE1, hE2⟩ := HE.out
      have HE1 := Lib.hid hE1
      have HE2 := Lib.hid (HBb.out.trans hE2)
      clear hE1 hE2 HE HC6 HPut HKeep HS5
      go_end0
      exact ⟨rfl, HE1.out, HE2.out⟩
end
end Go.Proofs.Ytiafmghdiidniaa
end
