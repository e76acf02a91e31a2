/-
  THE WALKS of padEnd, eachBlock and Sum.
-/
import Derived.Test.YtcmledlghipcbaaDoorD
import Derived.Test.YtcmledlghipcbaaDoorQ
import Derived.Laws.CopyOwn
import Derived.Laws.ResultCell
namespace Go.Proofs.YtcmledlghipcbaaDoor
open Go.RowKit Sha

/-- A slice's value, nil let in: it reads as the cells xs, below block B. -/
structure Slc (w : World) (B : Nat) (A : Option Addr) (n : Nat) (xs : List Value) : Prop where
  len : xs.length = n
  some_ : 0 < n → ∃ b o, A = some ⟨b, o, none⟩ ∧ b < B ∧ Sees w b o xs

theorem Slc.below {w w' : World} {B n : Nat} {A : Option Addr} {xs : List Value} (h : Slc w B A n xs) (hb : Below B w w') : Slc w' B A n xs :=
  ⟨h.len, fun hn => by obtain ⟨b, o, e, hl, hs⟩ := h.some_ hn; exact ⟨b, o, e, hl, hs.below hb hl⟩⟩
theorem Slc.more {w : World} {B B' n : Nat} {A : Option Addr} {xs : List Value} (h : Slc w B A n xs) (hb : B ≤ B') : Slc w B' A n xs :=
  ⟨h.len, fun hn => by obtain ⟨b, o, e, hl, hs⟩ := h.some_ hn; exact ⟨b, o, e, by omega, hs⟩⟩

/-- 128 zeros. -/
def Z128 : List Value := List.replicate 128 (.int .u8 0)
theorem Z128_length : Z128.length = 128 := List.length_replicate
theorem zero128 (w : World) : (zeroValue 66).run Tryd.prog w = .ok (.agg Z128.toArray) w := by kernel_rfl
theorem copied (rest : List UInt8) : splice Z128 0 (rest.map V8) = (pad8 128 rest).map V8 := by
  rw [Z128, splice, pad8, List.take_zero, List.nil_append, Nat.zero_add, List.length_map, List.drop_replicate, List.map_append, List.map_replicate]
  rfl
theorem results_row_tmp {P : Program} {fn : Func} {p u : Tmp} {ty : TypeId} (h : fn.results = #[.cell p ty, .tmp u]) (tmps : Array Value) (w : World) (g : Nat) (t : TypeId) (cs : Array Value) (fr : Nat × Nat) (d : TypeDesc)
    (hp : tmps.getD p undef = .pointer (some ⟨g, 0, none⟩)) (hg : w.heap[g]? = some (.cells cs t fr))
    (hu : P.underlying ty = some d) (hd : (match d with | .struct _ | .array _ _ => true | _ => false) = true) (hi : (P.info? ty).map (·.size) = some cs.size) :
    (results fn tmps).run P w = .ok (.tuple #[.agg cs, tmps.getD u undef]) w := by
  rw [results_cell_tmp h, hp]
  simp [asAddr, run_loadVar_row w g t ty cs fr d hg hu hd hi]
theorem elem8 : (Tryd.prog.info? 5).map (·.size) = some 1 := by kernel_rfl


theorem after_copy {w1 : World} {g : Nat} {xs : List Value} {rest : List UInt8} (HX : Hid (xs = rest.map V8)) (hn : xs.length < 64) (Hg : Hid (w1.heap[g]? = some (.cells (splice Z128 0 xs).toArray 66 (0, 0)))) :
    Hid (Row w1 g 66 ((pad8 128 rest).map V8)) ∧ (∃ v, w1.cell? ⟨g, xs.length, none⟩ = some v) ∧ w1.frozen? ⟨g, xs.length, none⟩ = false := by
  rw [HX.out, copied] at Hg
  have hr : Row w1 g 66 ((pad8 128 rest).map V8) := Hg.out
  exact ⟨hr, ⟨_, cell8 hr _ (by omega)⟩, hr.free _⟩

set_option maxRecDepth 100000 in
set_option maxHeartbeats 400000 in
theorem padEnd_64 (A : Option Addr) (n cap total : Nat) (rest : List UInt8) (w : World) (h : Slc w w.heap.size A n (rest.map V8)) (hn : n < 64) (hsz : n ≤ 55) (ht : total ≤ 1000000) :
    Calls Tryd.prog 32 #[.slice A n cap, .int .i64 total] w fun e w' => e = .returned (.tuple #[.agg ((ended rest total).map V8).toArray, .int .i64 (sizeOf_ n)]) ∧ Below w.heap.size w w' := by
  have Hn : Hid (rest.length = n) := by have := h.len; rw [List.length_map] at this; exact this
  have h1 : ∀ v ∈ rest.map V8, v.oneCell' = true := fun v hv => by obtain ⟨x, _, rfl⟩ := List.mem_map.1 hv; rfl
  obtain ⟨xs, hxs⟩ : ∃ xs, xs = rest.map V8 := ⟨_, rfl⟩
  have HX := Lib.hid hxs
  rw [← hxs] at h h1
  clear hxs
  obtain rfl : xs.length = n := h.len
  have K1 : Hid (xs.length = Nat.min xs.length 128) := by rw [show Nat.min xs.length 128 = xs.length from Nat.min_eq_left (by omega)]; rfl
  have K2 : Hid (0 < xs.length → (some (⟨w.heap.size, 0, none⟩ : Addr)) = some ⟨w.heap.size, 0, none⟩ ∧ ∃ ad, A = some ad ∧ ∀ j v, xs[j]? = some v → (w.alloc (.cells Z128.toArray 66)).cell? (ad.add j) = some v) := by
    intro hp
    obtain ⟨b, o, e, hl, hs⟩ := h.some_ hp
    refine ⟨rfl, _, e, fun j v hv => ?_⟩
    have hadd : (⟨b, o, none⟩ : Addr).add j = ⟨b, o + j, none⟩ := by unfold Addr.add; split <;> simp_all
    rw [hadd]
    exact hs.alloc hl _ j v hv
  have K3 : Hid (0 + xs.length ≤ Z128.length) := by show _ ≤ _; rw [Z128_length]; omega
  have K4 := Lib.hid h1
  have K5 : Hid (Below w.heap.size w (w.alloc (.cells Z128.toArray 66))) := (Below.refl _ _).alloc (Nat.le_refl _) _
  have HSZ : Hid (sizeOf_ xs.length = 64) := by show _ = _; unfold sizeOf_; rw [if_neg (by omega)]
  clear h1 h
  have hz := zero128
  have hd : decide ((64 : Int) < (xs.length : Int) + 1 + 8) = false := by simp; omega
  go_enter Tryd.func32, Tryd.ntmps32
  go_wp2_with (refine wpList_copy_splice rfl (.tmp 9) (.tmp 10) 22 22 rfl 5 Tryd.underlying22 elem8 _ A 128 128 xs.length cap rfl rfl w.heap.size 0 Z128 66 (Row.new w _ Z128) xs K1.out K2.out K3.out K4.out w.heap.size w K5.out (Nat.le_refl _) ?_; intro w1 Hg1 hb1; obtain ⟨Hr1, ⟨v1, c1⟩, f1⟩ := after_copy HX hn Hg1; clear Hg1 K1 K2 K3 K4 K5 hz)
  go_loopw [7, 8] (fun l i wr => ∃ k X : Nat, k ≤ 8 ∧ i = .int .i64 ((k : Int) + 1) ∧ l = .int .u64 X ∧ Hid (X = 8 * total / 256 ^ k) ∧ Row wr w.heap.size 66 ((lays (pad8 128 (rest ++ [128])) 64 (8 * total) k).map V8) ∧ Below w.heap.size w wr) (fun _ i _ => 9 - (intOf i).toNat)
  case atStart =>
    refine ⟨0, total * 8, by omega, rfl, by go_num, ?_, ?_, hb1.setCell (Nat.le_refl _) _⟩
    · show _ = _; rw [Nat.pow_zero, Nat.div_one, Nat.mul_comm]
    · have := Hr1.out.set xs.length (V8 128)
      rw [← List.map_set, ← Hn.out, pad8_set _ _ _ (by rw [Hn.out]; omega), Hn.out] at this
      exact this
  case round =>
    clear c1 f1 Hr1 hb1 hd
    obtain ⟨k, X, hk, rfl, rfl, HXk, hrow, hbel⟩ := hrel
    by_cases hlt : k < 8
    · obtain ⟨v, hc⟩ : ∃ v, wr.cell? ⟨w.heap.size, 63 - k, none⟩ = some v := by
        refine ⟨((lays (pad8 128 (rest ++ [128])) 64 (8 * total) k).map V8)[63 - k]'?_, ?_⟩
        · rw [List.length_map, lays_length, pad8_length _ _ (by rw [List.length_append, Hn.out]; simp; omega)]; omega
        · rw [hrow.cell, List.getElem?_eq_getElem]
      have hf := hrow.free (63 - k)
      go_wp2
      go_roundw
      case rel =>
        refine ⟨k + 1, X / 256, by omega, by go_num, by go_num, ?_, ?_, hbel.setCell (Nat.le_refl _) _⟩
        · show _ = _; rw [HXk.out, Nat.div_div_eq_div_mul, Nat.pow_succ]
        · have := hrow.set (63 - k) (V8 (UInt8.ofNat X))
          rw [← List.map_set] at this
          rw [byte_eq, lays, show 64 - (k + 1) = 63 - k by omega, ← HXk.out]
          exact this
      case measure => simp [intOf]; omega
    · obtain rfl : k = 8 := by omega
      have HE : Hid ((lays (pad8 128 (rest ++ [128])) 64 (8 * total) 8).map V8 = (ended rest total).map V8) := by show _ = _; rw [ended, Hn.out, HSZ.out]
      rw [HE.out] at hrow
      have Hone := Lib.hid (one8 (ended rest total))
      have Hsz : Hid (((ended rest total).map V8).toArray.size = 128) := by show _ = _; rw [List.size_toArray, List.length_map, ended_length _ _ (by rw [Hn.out]; omega)]
      have Hrow := Lib.hid hrow
      clear HE hrow
      generalize hrs : (ended rest total).map V8 = rs at *
      have HRS := Lib.hid hrs
      clear hrs
      rw [show ((8 : Nat) : Int) = 8 from rfl]
      go_wp2_with (first
        | (refine wpList_load_row rfl 66 (.tmp 4) rfl w.heap.size rfl 66 rs.toArray (0, 0) _ Hrow.out Tryd.underlying66 rfl (by rw [Hsz.out]; kernel_rfl) ?_)
        | (refine wpList_store_row rfl 66 (.tmp 4) (.tmp 33) rfl w.heap.size rs.toArray rfl rfl 66 _ Hrow.out (by rw [Hsz.out]; kernel_rfl) rfl Hone.out ?_))
      have hlast := Hrow.out.whole rs
      have hinfo : (Tryd.prog.info? 66).map (·.size) = some rs.toArray.size := by rw [Hsz.out]; kernel_rfl
      refine bodyPost_ret (v := .tuple #[.agg rs.toArray, .int .i64 64]) (results_row_tmp (p := 4) (u := 5) rfl _ _ w.heap.size 66 rs.toArray (0, 0) _ rfl hlast Tryd.underlying66 rfl hinfo) rfl ?_
      refine ⟨?_, below_setRow' hbel (Nat.le_refl _) _⟩
      rw [HRS.out, HSZ.out]
      rfl

set_option maxRecDepth 100000 in
set_option maxHeartbeats 400000 in
theorem padEnd_128 (A : Option Addr) (n cap total : Nat) (rest : List UInt8) (w : World) (h : Slc w w.heap.size A n (rest.map V8)) (hn : n < 64) (hsz : 55 < n) (ht : total ≤ 1000000) :
    Calls Tryd.prog 32 #[.slice A n cap, .int .i64 total] w fun e w' => e = .returned (.tuple #[.agg ((ended rest total).map V8).toArray, .int .i64 (sizeOf_ n)]) ∧ Below w.heap.size w w' := by
  have Hn : Hid (rest.length = n) := by have := h.len; rw [List.length_map] at this; exact this
  have h1 : ∀ v ∈ rest.map V8, v.oneCell' = true := fun v hv => by obtain ⟨x, _, rfl⟩ := List.mem_map.1 hv; rfl
  obtain ⟨xs, hxs⟩ : ∃ xs, xs = rest.map V8 := ⟨_, rfl⟩
  have HX := Lib.hid hxs
  rw [← hxs] at h h1
  clear hxs
  obtain rfl : xs.length = n := h.len
  have K1 : Hid (xs.length = Nat.min xs.length 128) := by rw [show Nat.min xs.length 128 = xs.length from Nat.min_eq_left (by omega)]; rfl
  have K2 : Hid (0 < xs.length → (some (⟨w.heap.size, 0, none⟩ : Addr)) = some ⟨w.heap.size, 0, none⟩ ∧ ∃ ad, A = some ad ∧ ∀ j v, xs[j]? = some v → (w.alloc (.cells Z128.toArray 66)).cell? (ad.add j) = some v) := by
    intro hp
    obtain ⟨b, o, e, hl, hs⟩ := h.some_ hp
    refine ⟨rfl, _, e, fun j v hv => ?_⟩
    have hadd : (⟨b, o, none⟩ : Addr).add j = ⟨b, o + j, none⟩ := by unfold Addr.add; split <;> simp_all
    rw [hadd]
    exact hs.alloc hl _ j v hv
  have K3 : Hid (0 + xs.length ≤ Z128.length) := by show _ ≤ _; rw [Z128_length]; omega
  have K4 := Lib.hid h1
  have K5 : Hid (Below w.heap.size w (w.alloc (.cells Z128.toArray 66))) := (Below.refl _ _).alloc (Nat.le_refl _) _
  have HSZ : Hid (sizeOf_ xs.length = 128) := by show _ = _; unfold sizeOf_; rw [if_pos (by omega)]
  clear h1 h
  have hz := zero128
  have hd : decide ((64 : Int) < (xs.length : Int) + 1 + 8) = true := by simp; omega
  go_enter Tryd.func32, Tryd.ntmps32
  go_wp2_with (refine wpList_copy_splice rfl (.tmp 9) (.tmp 10) 22 22 rfl 5 Tryd.underlying22 elem8 _ A 128 128 xs.length cap rfl rfl w.heap.size 0 Z128 66 (Row.new w _ Z128) xs K1.out K2.out K3.out K4.out w.heap.size w K5.out (Nat.le_refl _) ?_; intro w1 Hg1 hb1; obtain ⟨Hr1, ⟨v1, c1⟩, f1⟩ := after_copy HX hn Hg1; clear Hg1 K1 K2 K3 K4 K5 hz)
  go_loopw [7, 8] (fun l i wr => ∃ k X : Nat, k ≤ 8 ∧ i = .int .i64 ((k : Int) + 1) ∧ l = .int .u64 X ∧ Hid (X = 8 * total / 256 ^ k) ∧ Row wr w.heap.size 66 ((lays (pad8 128 (rest ++ [128])) 128 (8 * total) k).map V8) ∧ Below w.heap.size w wr) (fun _ i _ => 9 - (intOf i).toNat)
  case atStart =>
    refine ⟨0, total * 8, by omega, rfl, by go_num, ?_, ?_, hb1.setCell (Nat.le_refl _) _⟩
    · show _ = _; rw [Nat.pow_zero, Nat.div_one, Nat.mul_comm]
    · have := Hr1.out.set xs.length (V8 128)
      rw [← List.map_set, ← Hn.out, pad8_set _ _ _ (by rw [Hn.out]; omega), Hn.out] at this
      exact this
  case round =>
    clear c1 f1 Hr1 hb1 hd
    obtain ⟨k, X, hk, rfl, rfl, HXk, hrow, hbel⟩ := hrel
    by_cases hlt : k < 8
    · obtain ⟨v, hc⟩ : ∃ v, wr.cell? ⟨w.heap.size, 127 - k, none⟩ = some v := by
        refine ⟨((lays (pad8 128 (rest ++ [128])) 128 (8 * total) k).map V8)[127 - k]'?_, ?_⟩
        · rw [List.length_map, lays_length, pad8_length _ _ (by rw [List.length_append, Hn.out]; simp; omega)]; omega
        · rw [hrow.cell, List.getElem?_eq_getElem]
      have hf := hrow.free (127 - k)
      go_wp2
      go_roundw
      case rel =>
        refine ⟨k + 1, X / 256, by omega, by go_num, by go_num, ?_, ?_, hbel.setCell (Nat.le_refl _) _⟩
        · show _ = _; rw [HXk.out, Nat.div_div_eq_div_mul, Nat.pow_succ]
        · have := hrow.set (127 - k) (V8 (UInt8.ofNat X))
          rw [← List.map_set] at this
          rw [byte_eq, lays, show 128 - (k + 1) = 127 - k by omega, ← HXk.out]
          exact this
      case measure => simp [intOf]; omega
    · obtain rfl : k = 8 := by omega
      have HE : Hid ((lays (pad8 128 (rest ++ [128])) 128 (8 * total) 8).map V8 = (ended rest total).map V8) := by show _ = _; rw [ended, Hn.out, HSZ.out]
      rw [HE.out] at hrow
      have Hone := Lib.hid (one8 (ended rest total))
      have Hsz : Hid (((ended rest total).map V8).toArray.size = 128) := by show _ = _; rw [List.size_toArray, List.length_map, ended_length _ _ (by rw [Hn.out]; omega)]
      have Hrow := Lib.hid hrow
      clear HE hrow
      generalize hrs : (ended rest total).map V8 = rs at *
      have HRS := Lib.hid hrs
      clear hrs
      rw [show ((8 : Nat) : Int) = 8 from rfl]
      go_wp2_with (first
        | (refine wpList_load_row rfl 66 (.tmp 4) rfl w.heap.size rfl 66 rs.toArray (0, 0) _ Hrow.out Tryd.underlying66 rfl (by rw [Hsz.out]; kernel_rfl) ?_)
        | (refine wpList_store_row rfl 66 (.tmp 4) (.tmp 33) rfl w.heap.size rs.toArray rfl rfl 66 _ Hrow.out (by rw [Hsz.out]; kernel_rfl) rfl Hone.out ?_))
      have hlast := Hrow.out.whole rs
      have hinfo : (Tryd.prog.info? 66).map (·.size) = some rs.toArray.size := by rw [Hsz.out]; kernel_rfl
      refine bodyPost_ret (v := .tuple #[.agg rs.toArray, .int .i64 128]) (results_row_tmp (p := 4) (u := 5) rfl _ _ w.heap.size 66 rs.toArray (0, 0) _ rfl hlast Tryd.underlying66 rfl hinfo) rfl ?_
      refine ⟨?_, below_setRow' hbel (Nat.le_refl _) _⟩
      rw [HRS.out, HSZ.out]
      rfl

theorem padEnd_any (A : Option Addr) (n cap total : Nat) (rest : List UInt8) (w : World) (h : Slc w w.heap.size A n (rest.map V8)) (hn : n < 64) (ht : total ≤ 1000000) :
    Calls Tryd.prog 32 #[.slice A n cap, .int .i64 total] w fun e w' => e = .returned (.tuple #[.agg ((ended rest total).map V8).toArray, .int .i64 (sizeOf_ n)]) ∧ Below w.heap.size w w' := by
  rcases Nat.lt_or_ge 55 n with h55 | h55
  · exact padEnd_128 A n cap total rest w h hn h55 ht
  · exact padEnd_64 A n cap total rest w h hn h55 ht
end Go.Proofs.YtcmledlghipcbaaDoor
