/-
  THE WALK of code.
-/
import Derived.Test.YtfodblgoamkgmaaDoorSC
namespace Go.Proofs.YtfodblgoamkgmaaDoor
open Go.RowKit Aes Ctr Sl

theorem Nonce_nm (d : Int) (v : Nat) (hv : v < 2 ^ 64) (w : World) :
    Calls Tryd.prog 33 #[.int .i64 d, .int .u64 v] w fun e w' => ∃ ts : List Value, Hid (Vec 12 (nnc (nm d) v) ts) ∧ e = .returned (.agg ts.toArray) ∧ Below w.heap.size w w' := by
  have h : (((d % 4294967296).toNat : Nat) : Int) = d % 4294967296 := by omega
  have := Nonce_any d _ h v hv w
  rwa [nnc_low d _ v h] at this
theorem range_enc {ek mk : List UInt8} {ks : List Value} {w : World} {g : Nat} {t : TypeId} (h : KeysV ek mk ks) (hr : Row w g t ks) : w.rangeAt g 0 (ek.map V8) := by
  rcases h.enc hr with ⟨A, e, hn⟩ | ⟨b, o, c, e, _, _, hs⟩
  · rw [hn] at h; exact absurd h.2.1 (by decide)
  · injection e with e1 _ _
    injection e1 with e1
    injection e1 with e1 e2 _
    subst e1 e2
    exact hs
theorem range_row {w : World} {g : Nat} {t : TypeId} {cs : List Value} (h : Row w g t cs) : w.rangeAt g 0 cs := h.sees

set_option maxRecDepth 100000 in
set_option maxHeartbeats 1000000 in
theorem Scode_any (ek mk : List UInt8) (ks : List Value) (hk : KeysV ek mk ks) (d : Int) (v : Nat) (hv : v < 2 ^ 64) (b : List UInt8) (x : Value) (hbl : b.length ≤ 100000) (w : World) (h : Arg w x b) :
    Calls Tryd.prog 21 #[.agg ks.toArray, .int .i64 d, .int .u64 v, x] w fun e w' => ∃ g, e = .returned (.slice (some ⟨g, 0, none⟩) b.length b.length) ∧ w.heap.size ≤ g ∧ Hid (Row w' g 5 ((code ek (nnc (nm d) v) b).map V8)) ∧ Below w.heap.size w w' := by
  obtain ⟨A, cap, rfl⟩ := h.form
  obtain ⟨n, hnl⟩ : ∃ n, n = b.length := ⟨_, rfl⟩
  rw [← hnl] at h hbl ⊢
  have HNl := Lib.hid hnl
  have HK := Lib.hid hk
  have Hzk : Hid (ks.toArray.size = 48) := hk.size
  obtain ⟨w0, hw0⟩ : ∃ w0, w0 = w.alloc (.cells ks.toArray 29) := ⟨_, rfl⟩
  have HBL : Hid (Below w.heap.size w w0) := by rw [hw0]; exact (Below.refl _ _).alloc (Nat.le_refl _) _
  have HBX : Hid (Row w0 w.heap.size 29 ks) := by rw [hw0]; exact Row.new w 29 ks
  have HA : Hid (Arg w0 (.slice A n cap) b) := h.below HBL.out
  have hsz0 := HBL.out.size
  have HKeep : Hid (∀ W, Below w0.heap.size w0 W → W.rangeAt w.heap.size 0 (ek.map V8)) := fun W hW => range_enc HK.out (HBX.out.below hW HBX.out.lt)
  have hi1 : (Tryd.prog.info? 25).map (·.size) = some (ek.map V8).length := by rw [List.length_map, HK.out.2.1]; kernel_rfl
  clear h hk hnl
  go_enter Tryd.func21, Tryd.ntmps21
  go_wp2
  rw [← hw0]
  clear hw0
  have hC : Below w0.heap.size w0 w0.drew := below_drewN (Below.refl _ _) 1
  refine wp_region_held_drew (S := (fun W => W.rangeAt w.heap.size 0 (ek.map V8))) (by kernel_rfl) (HKeep.out _ hC) (fun hHeld => ?_)
  generalize w0.drew = w0d at *
  refine wpAnyH_take (i := 0) (oi := ⟨some 9, _, _, _, _, _⟩) (v := ?_) rfl (by kernel_rfl) (by kernel_rfl) (by kernel_rfl) (fun _ _ _ h => h) (Or.inl ⟨by rfl, ?_⟩) hHeld ?_
  rotate_left
  · intro w hSw
    go_simp
    with_reducible rfl
  try go_frame
  refine wpAnyH_take (i := 1) (oi := ⟨some 10, _, _, _, _, _⟩) (v := .agg (ek.map V8).toArray) rfl (by kernel_rfl) (by kernel_rfl) (by kernel_rfl) (fun _ _ _ h => h) (yieldsIf_load_mid (by rfl) 25 (.tmp 9) rfl (w.heap.size) 0 rfl (ek.map V8) _ (fun W h => h) Tryd.underlying25 rfl hi1) hHeld ?_
  try go_frame
  refine wpAnyH_take (i := 2) (oi := ⟨some 11, _, _, _, _, _⟩) (v := ?_) rfl (by kernel_rfl) (by kernel_rfl) (by kernel_rfl) (fun _ _ _ h => h) (Or.inl ⟨by rfl, ?_⟩) hHeld ?_
  rotate_left
  · intro w hSw
    go_simp
    with_reducible rfl
  try go_frame
  refine wpAnyH_take (i := 3) (oi := ⟨some 12, _, _, _, _, _⟩) (v := ?_) rfl (by kernel_rfl) (by kernel_rfl) (by kernel_rfl) (fun _ _ _ h => h) (Or.inl ⟨by rfl, ?_⟩) hHeld ?_
  rotate_left
  · intro w hSw
    go_simp
    with_reducible rfl
  try go_frame
  refine wpAnyH_take (i := 5) (oi := ⟨some 14, _, _, _, _, _⟩) (v := ?_) rfl (by kernel_rfl) (by kernel_rfl) (by kernel_rfl) (fun _ _ _ h => h) (Or.inl ⟨by rfl, ?_⟩) hHeld ?_
  rotate_left
  · intro w hSw
    go_simp
    with_reducible rfl
  try go_frame
  refine wpAnyH_ready (rs := [4]) (by kernel_rfl) (by simp) ?_
  refine AllReadyH.cons (o := ⟨some 13, _, _, _, _, _⟩) rfl (fun K hK => ?_) AllReadyH.nil
  go_simp
  go_at_call 33
  refine (Nonce_nm d v hv w0d).mono ?_
  rintro e w0d_no ⟨ts, Hts, rfl, hb⟩
  replace hC := hC.trans (hb.mono hC.size)
  refine hK.out _ _ (HKeep.out _ hC) (fun hHeld => ?_)
  clear hK K hb 
  have Hzt : Hid (ts.toArray.size = 12) := Hts.out.size
  try go_frame
  refine wpAnyH_ready (rs := [6]) (by kernel_rfl) (by simp) ?_
  refine AllReadyH.cons (o := ⟨some 15, _, _, _, _, _⟩) rfl (fun K hK => ?_) AllReadyH.nil
  go_simp
  go_at_call 32
  have hzc := hC.size
  refine (Code_any ek (nnc (nm d) v) b (ek.map V8) ts (Vec.mk 16 ek HK.out.2.1) Hts.out _ (by rw [← HNl.out]; exact hbl) w0d_no (HA.out.below hC)).mono ?_
  rintro e w0d_no_cd ⟨g, rfl, hg, HR, hb⟩
  replace hC := hC.trans (hb.mono hC.size)
  refine hK.out _ _ (HKeep.out _ hC) (fun hHeld => ?_)
  clear hK K hb 
  try go_frame
  refine wpAnyH_take (i := 7) (oi := ⟨some 8, _, _, _, _, _⟩) (v := ?_) rfl (by kernel_rfl) (by kernel_rfl) (by kernel_rfl) (fun _ _ _ h => h) (Or.inl ⟨by rfl, ?_⟩) hHeld ?_
  rotate_left
  · intro w hSw
    go_simp
    with_reducible rfl
  try go_frame
  refine wpAnyH_done (by kernel_rfl) ?_ _
  clear HKeep hHeld
  rw [← HNl.out]
  go_wp2
  go_ret
  exact ⟨g, rfl, by omega, HR, HBL.out.trans (hC.mono HBL.out.size)⟩
end Go.Proofs.YtfodblgoamkgmaaDoor
