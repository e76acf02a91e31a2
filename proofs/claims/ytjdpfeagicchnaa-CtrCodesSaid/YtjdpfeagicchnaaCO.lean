/-
  THE WALK of the reference's Stream.
-/
import Derived.Test.YtjdpfeagicchnaaCN
import Derived.Deep.RegionHeld3
namespace Go.Proofs.Ytjdpfeagicchnaa
open Go.RowKit Aes Ctr

theorem Own.shape {w : World} {B : Nat} {e : TypeId} {v : Value} {ys : List Value} (h : Own w B e v ys) : ∃ A cap, v = .slice A ys.length cap ∧ ys.length ≤ cap := by
  rcases h.2 with ⟨rfl, h0⟩ | ⟨g, cap, cur, rfl, _, _, hc, _⟩
  · exact ⟨none, 0, by rw [h0], by omega⟩
  · exact ⟨_, cap, rfl, hc⟩
theorem Arg.front {w : World} {A : Option Addr} {n cap : Nat} {b : List UInt8} (h : Arg w (.slice A n cap) b) (m : Nat) (hm : m ≤ b.length) : Arg w (.slice A m cap) (b.take m) := by
  rcases h with ⟨A', e, rfl⟩ | ⟨x, o, c, e, hx, hl, hs⟩
  · injection e with e1 e2 e3
    obtain rfl : m = 0 := by simpa using hm
    exact .inl ⟨A, by rw [e3], rfl⟩
  · injection e with e1 e2 e3
    refine .inr ⟨x, o, c, by rw [e1, e3, List.length_take, Nat.min_eq_left (by omega)], hx, by rw [List.length_take]; omega, fun j u hu => hs j u ?_⟩
    rw [List.map_take, List.getElem?_take] at hu
    split at hu
    · exact hu
    · cases hu

theorem wrap_small (k : Nat) (h : k < 2 ^ 64) : IntKind.u64.wrap (k : Int) = (k : Int) := by
  rw [IntKind.wrap_u64]; omega

set_option maxRecDepth 100000 in
set_option maxHeartbeats 1000000 in
theorem Stream_any (p : Nat) (key nonce : List UInt8) (hk : key.length = 16) (hn : nonce.length = 12) (nv : Value) (many : Nat) (hm : many ≤ 1000) (w : World) (hK : KeyAt w p key) (hN : Arg w nv nonce) :
    Calls Try.prog 15 #[.pointer (some ⟨p, 0, none⟩), nv, .int .i64 many] w fun e w' => ∃ v, e = .returned v ∧ Hid (Arg w' v (strm key nonce many)) ∧ Below w.heap.size w w' := by
  obtain ⟨ug, uc, xg, xc, vs, hpl, hps, hul, hus, hvs, hxl, hxs⟩ := hK
  have HPs := Lib.hid hps
  have HUs := Lib.hid hus
  have HVs := Lib.hid hvs
  have HXs := Lib.hid hxs
  have HN := Lib.hid hN
  have HKl := Lib.hid hk
  have HNl := Lib.hid hn
  have HSW : Hid (∀ W, Below w.heap.size w W → (W.cell? ⟨p, 0, none⟩ = some (.slice (some ⟨ug, 0, none⟩) 44 uc) ∧ W.cell? ⟨p, 1, none⟩ = some (.slice (some ⟨xg, 0, none⟩) 256 xc))) := fun W hW => ⟨(hps.below hW hpl) 0 _ rfl, (hps.below hW hpl) 1 _ rfl⟩
  clear hN hk hn hps hus hvs hxs HPs
  go_enter Try.func15, Try.ntmps15
  go_wp2
  go_loopw [7, 8] (fun o i wr => ∃ k : Nat, 16 * k < many + 16 ∧ i = .int .i64 k ∧ Hid (Own wr w.heap.size 5 o ((strm key nonce (16 * k)).map V8)) ∧ Below w.heap.size w wr) (fun _ i _ => many + 16 - 16 * (intOf i).toNat)
  case atStart => exact ⟨0, by omega, rfl, Own.nil _ _ _, Below.refl _ _⟩
  case round =>
    obtain ⟨k, hk, rfl, Hown, hbel⟩ := hrel
    obtain ⟨A, cap, rfl, hcap⟩ := Hown.out.shape
    rw [List.length_map, strm_length] at hcap Hown ⊢
    have hszr := hbel.size
    by_cases hlt : 16 * k < many
    · go_wp2
      refine wp_region_held_drew (S := (fun W => (W.cell? ⟨p, 0, none⟩ = some (.slice (some ⟨ug, 0, none⟩) 44 uc) ∧ W.cell? ⟨p, 1, none⟩ = some (.slice (some ⟨xg, 0, none⟩) 256 xc)))) (by kernel_rfl) (HSW.out _ hbel.drew) (fun hHeld => ?_)
      refine wpAnyH_take (i := 0) (oi := ⟨some 15, _, _, _, _, _⟩) (v := ?_) rfl (by kernel_rfl) (by kernel_rfl) (by kernel_rfl) (fun _ _ _ h => h) (Or.inl ⟨by rfl, ?_⟩) hHeld ?_
      rotate_left
      · intro w hSw
        obtain ⟨hSw1, hSw2⟩ := hSw
        go_simp
        with_reducible rfl
      try go_frame
      refine wpAnyH_take (i := 1) (oi := ⟨some 16, _, _, _, _, _⟩) (v := ?_) rfl (by kernel_rfl) (by kernel_rfl) (by kernel_rfl) (fun _ _ _ h => h) (Or.inl ⟨by rfl, ?_⟩) hHeld ?_
      rotate_left
      · intro w hSw
        obtain ⟨hSw1, hSw2⟩ := hSw
        go_simp
        with_reducible rfl
      try go_frame
      refine wpAnyH_take (i := 2) (oi := ⟨some 17, _, _, _, _, _⟩) (v := ?_) rfl (by kernel_rfl) (by kernel_rfl) (by kernel_rfl) (fun _ _ _ h => h) (Or.inl ⟨by rfl, ?_⟩) hHeld ?_
      rotate_left
      · intro w hSw
        obtain ⟨hSw1, hSw2⟩ := hSw
        go_simp
        with_reducible rfl
      try go_frame
      refine wpAnyH_take (i := 3) (oi := ⟨some 18, _, _, _, _, _⟩) (v := ?_) rfl (by kernel_rfl) (by kernel_rfl) (by kernel_rfl) (fun _ _ _ h => h) (Or.inl ⟨by rfl, ?_⟩) hHeld ?_
      rotate_left
      · intro w hSw
        obtain ⟨hSw1, hSw2⟩ := hSw
        go_simp
        with_reducible rfl
      try go_frame
      refine wpAnyH_take (i := 4) (oi := ⟨some 19, _, _, _, _, _⟩) (v := ?_) rfl (by kernel_rfl) (by kernel_rfl) (by kernel_rfl) (fun _ _ _ h => h) (Or.inl ⟨by rfl, ?_⟩) hHeld ?_
      rotate_left
      · intro w hSw
        obtain ⟨hSw1, hSw2⟩ := hSw
        go_simp
        with_reducible rfl
      try go_frame
      refine wpAnyH_take (i := 6) (oi := ⟨some 21, _, _, _, _, _⟩) (v := ?_) rfl (by kernel_rfl) (by kernel_rfl) (by kernel_rfl) (fun _ _ _ h => h) (Or.inl ⟨by rfl, ?_⟩) hHeld ?_
      rotate_left
      · intro w hSw
        obtain ⟨hSw1, hSw2⟩ := hSw
        go_simp
        with_reducible rfl
      try go_frame
      refine wpAnyH_take (i := 8) (oi := ⟨some 23, _, _, _, _, _⟩) (v := ?_) rfl (by kernel_rfl) (by kernel_rfl) (by kernel_rfl) (fun _ _ _ h => h) (Or.inl ⟨by rfl, ?_⟩) hHeld ?_
      rotate_left
      · intro w hSw
        obtain ⟨hSw1, hSw2⟩ := hSw
        go_simp
        with_reducible rfl
      try go_frame
      refine wpAnyH_take (i := 9) (oi := ⟨some 24, _, _, _, _, _⟩) (v := ?_) rfl (by kernel_rfl) (by kernel_rfl) (by kernel_rfl) (fun _ _ _ h => h) (Or.inl ⟨by rfl, ?_⟩) hHeld ?_
      rotate_left
      · intro w hSw
        obtain ⟨hSw1, hSw2⟩ := hSw
        go_simp
        with_reducible rfl
      try go_frame
      refine wpAnyH_take (i := 12) (oi := ⟨some 27, _, _, _, _, _⟩) (v := ?_) rfl (by kernel_rfl) (by kernel_rfl) (by kernel_rfl) (fun _ _ _ h => h) (Or.inl ⟨by rfl, ?_⟩) hHeld ?_
      rotate_left
      · intro w hSw
        obtain ⟨hSw1, hSw2⟩ := hSw
        go_simp
        with_reducible rfl
      try go_frame
      refine wpAnyH_take (i := 13) (oi := ⟨some 28, _, _, _, _, _⟩) (v := ?_) rfl (by kernel_rfl) (by kernel_rfl) (by kernel_rfl) (fun _ _ _ h => h) (Or.inl ⟨by rfl, ?_⟩) hHeld ?_
      rotate_left
      · intro w hSw
        obtain ⟨hSw1, hSw2⟩ := hSw
        go_simp
        with_reducible rfl
      try go_frame
      refine wpAnyH_take (i := 14) (oi := ⟨some 29, _, _, _, _, _⟩) (v := ?_) rfl (by kernel_rfl) (by kernel_rfl) (by kernel_rfl) (fun _ _ _ h => h) (Or.inl ⟨by rfl, ?_⟩) hHeld ?_
      rotate_left
      · intro w hSw
        obtain ⟨hSw1, hSw2⟩ := hSw
        go_simp
        with_reducible rfl
      try go_frame
      refine wpAnyH_take (i := 15) (oi := ⟨some 30, _, _, _, _, _⟩) (v := ?_) rfl (by kernel_rfl) (by kernel_rfl) (by kernel_rfl) (fun _ _ _ h => h) (Or.inl ⟨by rfl, ?_⟩) hHeld ?_
      rotate_left
      · intro w hSw
        obtain ⟨hSw1, hSw2⟩ := hSw
        go_simp
        with_reducible rfl
      try go_frame
      refine wpAnyH_ready (rs := [5]) (by kernel_rfl) (by simp) ?_
      refine AllReadyH.cons (o := ⟨some 20, _, _, _, _, _⟩) rfl (fun K hK => ?_) AllReadyH.nil
      go_simp
      have HB1 : Hid (Below wr.heap.size wr ((wr.alloc (.cells #[] 5)).drew)) := ((Below.refl _ _).alloc (Nat.le_refl _) _).drew
      have HO1 : Hid (Own ((wr.alloc (.cells #[] 5)).drew) wr.heap.size 5 (.slice (some ⟨wr.heap.size, 0, none⟩) 0 0) []) := (Own.lit wr wr.heap.size 5 [] (Nat.le_refl _) (by simp)).drew
      refine hK.out _ _ (HSW.out _ (hbel.trans (HB1.out.mono hszr))) (fun hHeld => ?_)
      clear hK K
      try go_frame
      generalize (wr.alloc (.cells #[] 5)).drew = w1 at *
      refine wpAnyH_ready (rs := [7]) (by kernel_rfl) (by simp) ?_
      refine AllReadyH.cons (o := ⟨some 22, _, _, _, _, _⟩) rfl (fun K hK => ?_) AllReadyH.nil
      refine step_app rfl (.tmp 20) (.tmp 21) 24 rfl wr.heap.size 5 Try.underlying24 info8 rfl (by decide) _ ([]) rfl HO1.out _ (nonce.map V8) rfl (arg_from (HN.out.below (hbel.trans (HB1.out.mono hszr)))) (oneC8 _) (by simp [HNl.out]) HB1.out.size ?_
      intro v22 w2 hown2 hg2 _
      have HB2 : Hid (Below wr.heap.size wr w2) := below_app HB1.out HO1.out hg2 (Nat.le_refl _) HB1.out.size
      have HO2 : Hid (Own w2 wr.heap.size 5 v22 (nonce.map V8)) := hown2
      clear hown2 hg2 HO1 HB1
      refine hK.out _ _ (HSW.out _ (hbel.trans (HB2.out.mono hszr))) (fun hHeld => ?_)
      clear hK K
      try go_frame
      refine wpAnyH_ready (rs := [10]) (by kernel_rfl) (by simp) ?_
      refine AllReadyH.cons (o := ⟨some 25, _, _, _, _, _⟩) rfl (fun K hK => ?_) AllReadyH.nil
      go_simp
      go_at_call 16
      refine (Big_at 4 (by omega) k (by omega) _ (wrap_small k (by omega)) w2).mono ?_
      rintro e w3 ⟨v25, rfl, HO25, hb3⟩
      have HB3 : Hid (Below wr.heap.size wr w3) := HB2.out.trans (hb3.mono HB2.out.size)
      have HO3 : Hid (Own w3 wr.heap.size 5 v22 (nonce.map V8)) := HO2.out.below hb3 (Nat.le_refl _)
      clear hb3 HB2 HO2
      refine hK.out _ _ (HSW.out _ (hbel.trans (HB3.out.mono hszr))) (fun hHeld => ?_)
      clear hK K
      try go_frame
      refine wpAnyH_ready (rs := [11]) (by kernel_rfl) (by simp) ?_
      refine AllReadyH.cons (o := ⟨some 26, _, _, _, _, _⟩) rfl (fun K hK => ?_) AllReadyH.nil
      refine step_app rfl (.tmp 22) (.tmp 25) 24 rfl wr.heap.size 5 Try.underlying24 info8 rfl (by decide) _ (nonce.map V8) rfl HO3.out _ ((bigK 4 k).map V8) rfl HO25.out.from_ (oneC8 _) (by rw [List.length_map, List.length_map, bigK_length, HNl.out]; omega) HB3.out.size ?_
      intro v26 w4 hown4 hg4 _
      have HB4 : Hid (Below wr.heap.size wr w4) := below_app HB3.out HO3.out hg4 (Nat.le_refl _) HB3.out.size
      rw [← List.map_append] at hown4
      have hl4 : ((nonce ++ bigK 4 k).map V8).length = 16 := by rw [List.length_map, List.length_append, bigK_length, HNl.out]
      obtain ⟨bb, bc, hv26, _, hbb, hbs⟩ := hown4.form (by rw [hl4]; omega)
      rw [hl4] at hv26
      subst hv26
      have HBs := Lib.hid hbs
      clear hbs hown4 hg4 HB3 HO3 HO25 hl4
      refine hK.out _ _ (HSW.out _ (hbel.trans (HB4.out.mono hszr))) (fun hHeld => ?_)
      clear hK K
      try go_frame
      refine wpAnyH_ready (rs := [16]) (by kernel_rfl) (by simp) ?_
      refine AllReadyH.cons (o := ⟨some 31, _, _, _, _, _⟩) rfl (fun K hK => ?_) AllReadyH.nil
      go_simp
      go_at_call 20
      have hlw : w.heap.size ≤ w4.heap.size := Nat.le_trans hszr HB4.out.size
      have hB4 : Below w.heap.size w w4 := hbel.trans (HB4.out.mono hszr)
      refine (Turned_any ug uc bb bc xg xc key (nonce ++ bigK 4 k) HKl.out (by rw [List.length_append, bigK_length, HNl.out]) vs w4 (by omega) (HUs.out.below hB4 hul) (HVs.out.below hB4) hbb HBs.out (by omega) (HXs.out.below hB4 hxl)).mono ?_
      rintro e w5 ⟨v31, rfl, HA31, hb5⟩
      have HB5 : Hid (Below wr.heap.size wr w5) := HB4.out.trans (hb5.mono HB4.out.size)
      have HB05 : Hid (Below w.heap.size w w5) := hbel.trans (HB5.out.mono hszr)
      have HO5 : Hid (Own w5 w.heap.size 5 (.slice A (16 * k) cap) ((strm key nonce (16 * k)).map V8)) := Hown.out.below HB5.out (Nat.le_refl _)
      have HE5 : Hid (Arg w5 v31 (blk key nonce k)) := HA31
      clear hb5 HB4 HBs hbb hB4 HA31
      refine hK.out _ _ (HSW.out _ HB05.out) (fun hHeld => ?_)
      clear hK K
      try go_frame
      refine wpAnyH_ready (rs := [17]) (by kernel_rfl) (by simp) ?_
      refine AllReadyH.cons (o := ⟨some 32, _, _, _, _, _⟩) rfl (fun K hK => ?_) AllReadyH.nil
      refine step_app rfl (.tmp 15) (.tmp 31) 24 rfl w.heap.size 5 Try.underlying24 info8 rfl (by decide) _ ((strm key nonce (16 * k)).map V8) rfl HO5.out _ ((blk key nonce k).map V8) rfl (arg_from HE5.out) (oneC8 _) (by rw [List.length_map, List.length_map, strm_length, blk_length key nonce HKl.out HNl.out]; omega) HB05.out.size ?_
      intro v32 w6 hown6 hg6 _
      have HB6 : Hid (Below w.heap.size w w6) := below_app HB05.out HO5.out hg6 (Nat.le_refl _) HB05.out.size
      rw [← List.map_append, ← strm_next key nonce HKl.out HNl.out] at hown6
      have HO6 := Lib.hid hown6
      clear hown6 hg6 HO5 HE5 HB05 HB5
      refine hK.out _ _ (HSW.out _ HB6.out) (fun hHeld => ?_)
      clear hK K
      try go_frame
      refine wpAnyH_take (i := 18) (oi := ⟨some 7, _, _, _, _, _⟩) (v := ?_) rfl (by kernel_rfl) (by kernel_rfl) (by kernel_rfl) (fun _ _ _ h => h) (Or.inl ⟨by rfl, ?_⟩) hHeld ?_
      rotate_left
      · intro w hSw
        obtain ⟨hSw1, hSw2⟩ := hSw
        go_simp
        with_reducible rfl
      try go_frame
      refine wpAnyH_done (by kernel_rfl) ?_ _
      clear hHeld
      go_wp2
      go_roundw
      case rel => exact ⟨k + 1, by omega, by go_num, HO6, HB6.out⟩
      case measure => simp [intOf]; omega
    · go_wp2
      go_ret
      refine ⟨_, rfl, ?_, hbel⟩
      have h1 := Hown.out.arg.front many (by rw [strm_length]; omega)
      rw [strm_take key nonce _ _ (by omega)] at h1
      exact h1
end Go.Proofs.Ytjdpfeagicchnaa
