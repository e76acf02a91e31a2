/-
  THE WALKS of the landed draft's mark and block.
-/
import Derived.Test.YtiafmghdiidniaaLZD
import Derived.Test.YtiafmghdiidniaaFR
import Derived.Deep.RegionWith
namespace Go.Proofs.Ytiafmghdiidniaa
set_option maxRecDepth 100000
set_option maxHeartbeats 1000000
open Go.RowKit Cdc Inn Fil

theorem Blk.at_ {w : World} {v : Value} {g : Nat} {b : List UInt8} (h : Blk w v g b) (m : Nat) (hm : m < 64) : w.cell? ⟨g, m, none⟩ = some (.int .u8 (b.getD m 0).toNat) ∧ w.frozen? ⟨g, m, none⟩ = false := by
  have hl := h.len
  have h1 := h.here.head (j := m) (v := V8 (b.getD m 0)) (by rw [List.getElem?_map, List.getD_eq_getElem?_getD, List.getElem?_eq_getElem (by omega)]; rfl)
  exact ⟨h1, h.here.headFree (by rw [List.length_map]; omega)⟩
theorem Blk.set {w : World} {v : Value} {g : Nat} {b : List UInt8} (h : Blk w v g b) (m : Nat) (hm : m < 64) (x : UInt8) : Blk (w.setCell ⟨g, m, none⟩ (.int .u8 x.toNat)) v g (b.set m x) := by
  have hl := h.len
  have := (h.write m [x] (by simp; omega)).1
  have e : b.take m ++ [x] ++ b.drop (m + [x].length) = b.set m x := by
    rw [List.set_eq_take_append_cons_drop, if_pos (by omega)]; simp
  rw [e] at this
  exact this
theorem QcloneB_anyQ {w : World} {v : Value} {q : Nat} {b : List UInt8} (h : Blk w v q b) : Calls Try.prog 45 #[v] w fun e w' => ∃ v' g', e = .returned v' ∧ Blk w' v' g' b ∧ w.heap.size ≤ g' ∧ Below w.heap.size w w' :=
  (Bmclone_any v b w (by have := h.len; omega) h.arg).mono fun e w' ⟨v', he, ho, hB⟩ => by
    obtain ⟨g', h1, h2⟩ := ho.out.blk h.len
    exact ⟨v', g', he, h1, h2, hB⟩
theorem BmSet_blk (b : List UInt8) (i : Nat) (hi : i < 512) (on : Bool) (v : Value) (q : Nat) (w : World) (h : Blk w v q b) :
    Calls Try.prog 25 #[v, .int .i64 (i : Int), .bool on] w fun e w' => ∃ r q', e = .returned (.tuple #[r, .int .i64 0]) ∧ Blk w' r q' (Bm.setB b i on) ∧ w.heap.size ≤ q' ∧ Below w.heap.size w w' := by
  have hl := h.len
  have hA := h.arg
  have hHas : Bm.has b (i : Int) = true := Bm.has_iff.2 ⟨by omega, by omega⟩
  have HC := Lib.hid (QcloneB_anyQ h)
  obtain ⟨A, cap, hv⟩ := hA.form
  rw [hl] at hv
  subst hv
  have HH := Lib.hid (Bmhas_any b i A cap w (by omega) ⟨by omega, by omega⟩)
  rw [hHas, hl] at HH
  obtain ⟨m, k, hm, hk, rfl⟩ : ∃ m k : Nat, m < 64 ∧ k < 8 ∧ i = 8 * m + k := ⟨i / 8, i % 8, by omega, by omega, by omega⟩
  have HR : Hid (Bm.setB b (8 * m + k) on = b.set m (Bm.setBit (b.getD m 0) k on)) := by
    show _ = _
    rw [Bm.setB, show (8 * m + k) / 8 = m by omega, show (8 * m + k) % 8 = k by omega]
  rw [HR.out]
  obtain ⟨j, hj⟩ : ∃ j : Nat, j = 8 * m + k := ⟨_, rfl⟩
  rw [← hj] at HH ⊢
  have q1 : (j : Int) / 8 = m := by omega
  have q2 : (j : Int) % 8 = k := by omega
  have hb : j ≤ 100000000 := by omega
  clear h hi hHas HR hj hA hl
  go_enter Try.func25, Try.ntmps25
  go_wp2_with fail
  refine HH.out.mono ?_
  rintro e w1 ⟨rfl, rfl⟩
  go_wp2_with fail
  refine HC.out.mono ?_
  rintro e w2 ⟨v2, g, rfl, hB, hq, hb2⟩
  obtain ⟨cap2, rfl, -⟩ := hB.val
  obtain ⟨hx, hf⟩ := hB.at_ m hm
  have HS := Lib.hid (hB.set m hm)
  have HB2 := Lib.hid hb2
  have HQ := Lib.hid hq
  clear HC HH hb2 hB hq
  obtain ⟨x, hxx⟩ : ∃ x, x = b.getD m 0 := ⟨_, rfl⟩
  rw [← hxx] at hx
  have HX := Lib.hid hxx
  clear hxx
  have hx8 := lt8 x
  have HO1 := Lib.hid (Bm.or_x x k hk)
  have HO2 := Lib.hid (Bm.andnot_x x k hk)
  cases on
  · go_wp2
    go_ret2
    rw [HO2.out, ← HX.out]
    exact ⟨_, g, rfl, HS.out _, HQ.out, HB2.out.setCell HQ.out _⟩
  · go_wp2
    go_ret2
    rw [HO1.out, ← HX.out]
    exact ⟨_, g, rfl, HS.out _, HQ.out, HB2.out.setCell HQ.out _⟩
section
variable {w : World} {B D m : Nat} {bl : List (List UInt8)} {g : Geo} {kd : Int} {d : Dr} {nv : Value} {vs : Nat → Value} {gs : Nat → Nat}
theorem DrL.mark_lay (h : DrL w B D m g kd d nv vs gs) (hB : B ≤ w.heap.size) {b0 : List UInt8} (hb : d.ch 0 = some b0) (i : Nat) (on : Bool) {w' : World} {r : Value} {q : Nat} (hbw : Below w.heap.size w w') (hv : Blk w' r q (Bm.setB b0 i on)) (hq : w.heap.size ≤ q) :
    DrN (w'.setCell ⟨D, 6, none⟩ r) B D m g kd (d.mark i on) nv ∧ Below B w (w'.setCell ⟨D, 6, none⟩ r) := by
  have he : d.mark i on = d.put 0 (Bm.setB b0 i on) := by unfold Dr.mark Dr.row; rw [hb]; rfl
  rw [he]
  exact ⟨⟨_, _, h.putNew hbw 0 (by omega) hv hq hB⟩, (hbw.mono hB).setCell h.rw_.lo _⟩
theorem FiDMark_any (h : DrL w B D m g kd d nv vs gs) (hB : B ≤ w.heap.size) {b0 : List UInt8} (hb : d.ch 0 = some b0) (i : Nat) (hi : i < 512) (on : Bool) :
    Calls Try.prog 63 #[.pointer (some ⟨D, 0, none⟩), .int .i64 (i : Int), .bool on] w fun e w' => e = .returned (.tuple #[]) ∧ DrN w' B D m g kd (d.mark i on) nv ∧ Below B w w' := by
  obtain ⟨h1, h2, h3, h4⟩ := h.rw_.row 0 (by omega) b0 hb
  have HSet := Lib.hid (fun W (hW : Below w.heap.size w W) => BmSet_blk b0 i hi on (vs 0) (gs 0) W (h1.below hW))
  have HL := Lib.hid (fun (w' : World) (r : Value) (q : Nat) hbw hv hq => h.mark_lay hB hb i on (w' := w') (r := r) (q := q) hbw hv hq)
  have c6 : w.cell? ⟨D, 6, none⟩ = some (vs 0) := h.hd.ch 0 (by omega)
  have HF : Hid (∀ W, Below w.heap.size w W → W.cell? ⟨D, 6, none⟩ = some (vs 0) ∧ W.frozen? ⟨D, 6, none⟩ = false) := fun W hW => ⟨(h.below hW).hd.ch 0 (by omega), (h.below hW).hd.free 6⟩
  have i512 : (i : Int) ≤ 512 := by omega
  clear h1 h2 h3 h4 h hb
  generalize vs 0 = v0 at *
  go_enter Try.func63, Try.ntmps63
  go_wp2_with fail
  go_region_with (go_at_call 25; refine (HSet.out _ (below_drewN (Below.refl _ _) 1)).mono ?_; rintro e w1 ⟨r, q, rfl, hv, hq, hB1⟩; have HB1 : Hid (Below w.heap.size w w1) := (below_drewN (Below.refl w.heap.size w) 1).trans hB1; have HV := Lib.hid hv; have HQ := Lib.hid hq; obtain ⟨c61, f6⟩ := HF.out w1 HB1.out; obtain ⟨cr, rfl, -⟩ := hv.val; clear hv hq hB1)
  obtain ⟨H1, H2⟩ := HL.out _ _ _ HB1.out HV.out HQ.out
  go_end0
  exact ⟨rfl, H1, H2⟩
theorem MemL.block {w w' : World} {F : Nat → Prop} {m R cap : Nat} {bl : List (List UInt8)} {vs : Nat → Value} {gs : Nat → Nat} (h : MemL w F m bl R cap vs gs) (hk : ∀ k, F k → w'.heap[k]? = w.heap[k]?) : MemL w' F m bl R cap vs gs where
  pos := h.pos
  few := h.few
  c0 := by rw [World.cell?_of_block (w := w) (hk m ((h.set m).2 (.inl rfl)))]; exact h.c0
  row := fun i hi => by rw [World.cell?_of_block (w := w) (hk R ((h.set R).2 (.inr (.inl rfl))))]; exact h.row i hi
  blk := fun i hi => (h.blk i hi).block (hk _ ((h.set _).2 (.inr (.inr ⟨i, hi, rfl⟩))))
  inj := h.inj
  ne := h.ne
  set := h.set
/-- A store below block B. -/
def StB (w : World) (B : Nat) (m : Nat) (bl : List (List UInt8)) : Prop := ∃ F R cap vs gs, MemL w F m bl R cap vs gs ∧ ∀ k, F k → k < B
theorem StB.below {w w' : World} {B m : Nat} {bl : List (List UInt8)} (h : StB w B m bl) (hb : Below B w w') : StB w' B m bl := by
  obtain ⟨F, R, cap, vs, gs, h, hF⟩ := h
  exact ⟨F, R, cap, vs, gs, h.block fun k hk => hb.block k (hF k hk), hF⟩
theorem FiDBlock_has (h : DrL w B D m g kd d nv vs gs) (i : Nat) (hi : i < 128) {b : List UInt8} (hb : d.ch i = some b) :
    Calls Try.prog 51 #[.pointer (some ⟨D, 0, none⟩), .int .i64 (i : Int)] w fun e w' => e = .returned (.tuple #[vs i, .int .i64 0]) ∧ w' = w := by
  obtain ⟨h1, -⟩ := h.rw_.row i hi b hb
  have hc := h.hd.ch i hi
  obtain ⟨cc, hv, -⟩ := h1.val
  rw [hv] at hc ⊢
  have i128 : (i : Int) < 128 := by omega
  clear h h1 hv hb
  generalize gs i = q at *
  have he : ∀ W : World, (binOp .eql 41 (.slice (some ⟨q, 0, none⟩) 64 cc) (.slice none 0 0)).run Try.prog W = .ok (.bool false) W := fun _ => rfl
  go_enter Try.func51, Try.ntmps51
  go_wp2
  go_ret2
  exact ⟨rfl, rfl⟩
theorem FiDBlock_no (h : DrL w B D m g kd d nv vs gs) (hs : StB w B m bl) (i : Nat) (hi : i < 128) (hb : d.ch i = none) (hn : ¬ i < bl.length) :
    Calls Try.prog 51 #[.pointer (some ⟨D, 0, none⟩), .int .i64 (i : Int)] w fun e w' => e = .returned (.tuple #[.slice none 0 0, .int .i64 1]) ∧ w' = w := by
  have hc := h.hd.ch i hi
  rw [h.rw_.nil i hi hb] at hc
  have c0 := h.hd.c0
  obtain ⟨F, R, cap, vm, gm, hm, -⟩ := hs
  have HL := Lib.hid (FiLoad_out hm i ⟨by omega, by omega⟩ (by omega))
  have i128 : (i : Int) < 128 := by omega
  clear h hm hb hn
  have he : ∀ W : World, (binOp .eql 41 (.slice none 0 0) (.slice none 0 0)).run Try.prog W = .ok (.bool true) W := fun _ => rfl
  go_enter Try.func51, Try.ntmps51
  go_wp2_with fail
  refine HL.out.mono ?_
  rintro e w1 ⟨rfl, rfl⟩
  go_wp2
  go_ret2
  exact ⟨rfl, rfl⟩
theorem DrL.put_lay (h : DrL w B D m g kd d nv vs gs) (hB : B ≤ w.heap.size) (i : Nat) (hi : i < 128) (b : List UInt8) {w' : World} {r : Value} {q : Nat} (hbw : Below w.heap.size w w') (hv : Blk w' r q b) (hq : w.heap.size ≤ q) :
    (∃ vs' gs', DrL (w'.setCell ⟨D, 6 + i, none⟩ r) B D m g kd (d.put i b) nv vs' gs' ∧ vs' i = r ∧ gs' i = q) ∧ Below B w (w'.setCell ⟨D, 6 + i, none⟩ r) :=
  ⟨⟨_, _, h.putNew hbw i hi hv hq hB, if_pos rfl, if_pos rfl⟩, (hbw.mono hB).setCell h.rw_.lo _⟩
theorem FiDBlock_new (h : DrL w B D m g kd d nv vs gs) (hs : StB w B m bl) (hB : B ≤ w.heap.size) (i : Nat) (hi : i < 128) (hb : d.ch i = none) (hn : i < bl.length) :
    Calls Try.prog 51 #[.pointer (some ⟨D, 0, none⟩), .int .i64 (i : Int)] w fun e w' => ∃ v, e = .returned (.tuple #[v, .int .i64 0]) ∧ (∃ vs' gs', DrL w' B D m g kd (d.put i (Fil.blk bl i)) nv vs' gs' ∧ vs' i = v) ∧ Below B w w' := by
  have hc := h.hd.ch i hi
  rw [h.rw_.nil i hi hb] at hc
  have c0 := h.hd.c0
  obtain ⟨F, R, cap, vm, gm, hm, -⟩ := hs
  have HL := Lib.hid (FiLoad_in hm i hn)
  have HP := Lib.hid (fun (w' : World) (r : Value) (q : Nat) hbw hv hq => h.put_lay hB i hi (Fil.blk bl i) (w' := w') (r := r) (q := q) hbw hv hq)
  have HF : Hid (∀ W, Below w.heap.size w W → W.cell? ⟨D, 6 + i, none⟩ = some (.slice none 0 0) ∧ W.frozen? ⟨D, 6 + i, none⟩ = false) := fun W hW => ⟨by rw [(h.below hW).hd.ch i hi, h.rw_.nil i hi hb], (h.below hW).hd.free _⟩
  have i128 : (i : Int) < 128 := by omega
  clear h hm hb hn
  generalize Fil.blk bl i = b at *
  have he : ∀ W : World, (binOp .eql 41 (.slice none 0 0) (.slice none 0 0)).run Try.prog W = .ok (.bool true) W := fun _ => rfl
  go_enter Try.func51, Try.ntmps51
  go_wp2_with fail
  refine HL.out.mono ?_
  rintro e w1 ⟨v, q, rfl, hv, hq, hB1⟩
  have HC := Lib.hid (fun W (hW : Below w1.heap.size w1 W) => QcloneB_any (hv.out.below hW))
  have HB1 := Lib.hid hB1
  obtain ⟨cv, rfl, -⟩ := hv.out.val
  clear hv hq hB1 HL hc c0
  go_wp2_with fail
  go_region_with (go_at_call 59; refine (HC.out _ (below_drewN (Below.refl _ _) 1)).mono ?_; rintro e w2 ⟨r, q2, rfl, hv2, hq2, hB2⟩; have HB2 : Hid (Below w.heap.size w w2) := HB1.out.trans (((below_drewN (Below.refl w1.heap.size w1) 1).trans hB2).mono HB1.out.size); have HV := Lib.hid hv2; have HQ : Hid (w.heap.size ≤ q2) := Nat.le_trans HB1.out.size hq2; obtain ⟨c61, f6⟩ := HF.out w2 HB2.out; obtain ⟨cr, rfl, -⟩ := hv2.val; clear hv2 hq2 hB2)
  all_goals (
    obtain ⟨⟨vs', gs', H1, hvi, hgi⟩, H2⟩ := HP.out _ _ _ HB2.out HV.out HQ.out
    have c62 : (w2.setCell ⟨D, 6 + i, none⟩ (.slice (some ⟨q2, 0, none⟩) 64 cr)).cell? ⟨D, 6 + i, none⟩ = some (.slice (some ⟨q2, 0, none⟩) 64 cr) := World.cell?_setCell_same _ _ _ c61
    have HX : Hid (∃ vs' gs', DrL (w2.setCell ⟨D, 6 + i, none⟩ (.slice (some ⟨q2, 0, none⟩) 64 cr)) B D m g kd (d.put i b) nv vs' gs' ∧ vs' i = .slice (some ⟨q2, 0, none⟩) 64 cr) := ⟨vs', gs', H1, hvi⟩
    have HY := Lib.hid H2
    clear H1 H2 hvi hgi HP HF HC HB1 HB2 HV HQ c61 f6
    generalize w2.setCell ⟨D, 6 + i, none⟩ (.slice (some ⟨q2, 0, none⟩) 64 cr) = w3 at *
    go_wp2
    go_ret2
    exact ⟨_, rfl, HX.out, HY.out⟩)
end
end Go.Proofs.Ytiafmghdiidniaa
