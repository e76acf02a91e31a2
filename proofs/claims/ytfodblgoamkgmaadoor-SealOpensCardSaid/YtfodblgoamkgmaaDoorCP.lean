/-
  3 TEXTS IN ONE (CN, CO, CP): each says at its own head what it holds.
-/
import Derived.Test.YtfodblgoamkgmaaDoorET0
import Derived.Test.YtfodblgoamkgmaaDoorCE
import Derived.Deep.RegionHeld3

section
/-
  THE WALKS of the reference's Big (it calls itself), Nonce, New.
-/
namespace Go.Proofs.YtfodblgoamkgmaaDoor
open Go.RowKit Aes Ctr

def bigK (k n : Nat) : List UInt8 := big k n
theorem bigK_zero (n : Nat) : bigK 0 n = [] := rfl
theorem bigK_succ (k n : Nat) : bigK (k + 1) n = bigK k (n / 256) ++ [UInt8.ofNat n] := rfl
theorem bigK_length (k n : Nat) : (bigK k n).length = k := big_length k n

set_option maxRecDepth 100000 in
set_option maxHeartbeats 400000 in
theorem Big_zero (n : Nat) (w : World) :
    Calls Tryd.prog 22 #[.int .u64 n, .int .i64 0] w fun e w' => ∃ v, e = .returned v ∧ Hid (Own w' w.heap.size 5 v ((bigK 0 n).map V8)) ∧ Below w.heap.size w w' := by
  go_enter Tryd.func22, Tryd.ntmps22
  go_wp2
  go_ret
  exact ⟨_, rfl, Own.nil _ _ _, Below.refl _ _⟩

set_option maxRecDepth 100000 in
set_option maxHeartbeats 400000 in
theorem Big_succ (k n : Nat) (hk : k < 100) (hn : n < 2 ^ 64) (w : World)
    (ih : Calls Tryd.prog 22 #[.int .u64 ((n / 256 : Nat) : Int), .int .i64 k] w fun e w' => ∃ v, e = .returned v ∧ Hid (Own w' w.heap.size 5 v ((bigK k (n / 256)).map V8)) ∧ Below w.heap.size w w') :
    Calls Tryd.prog 22 #[.int .u64 n, .int .i64 ((k + 1 : Nat) : Int)] w fun e w' => ∃ v, e = .returned v ∧ Hid (Own w' w.heap.size 5 v ((bigK (k + 1) n).map V8)) ∧ Below w.heap.size w w' := by
  rw [show ((n / 256 : Nat) : Int) = (n : Int) / 256 from Int.natCast_ediv n 256] at ih
  have HI := Lib.hid ih
  clear ih
  go_enter Tryd.func22, Tryd.ntmps22
  go_wp2_with fail
  refine HI.out.mono ?_
  rintro e w1 ⟨v1, rfl, Hown, hb1⟩
  have hsz := hb1.size
  have HL : Hid (((bigK k (n / 256)).map V8).length + 1 ≤ 100000000) := by show _ ≤ _; rw [List.length_map, bigK_length]; omega
  have HE : Hid ((n : Int) % 256 = ((UInt8.ofNat n).toNat : Int)) := byte_eq n
  clear HI
  go_wp2_with (at_builtin; refine wpList_app rfl (.tmp 11) (.tmp 15) 22 rfl w.heap.size 5 Tryd.underlying22 info8 rfl (by decide) _ ((bigK k (n / 256)).map V8) rfl (Hown.out.alloc _) _ [.int .u8 ((n : Int) % 256)] rfl (from_new w1 5 [.int .u8 ((n : Int) % 256)]) (by rw [HE.out]; exact oneC8 [UInt8.ofNat n]) HL.out (by simp; omega) ?_; intro v' w2 hown2 hg2 _)
  go_ret
  refine ⟨_, rfl, ?_, below_app (hb1.alloc hsz _) (Hown.out.alloc _) hg2 (Nat.le_refl _) (by simp; omega)⟩
  show Own _ _ _ _ _
  rw [HE.out] at hown2
  rw [bigK_succ, List.map_append]
  exact hown2

theorem Big_any (k : Nat) (hk : k ≤ 100) : ∀ (n : Nat), n < 2 ^ 64 → ∀ w : World,
    Calls Tryd.prog 22 #[.int .u64 n, .int .i64 k] w fun e w' => ∃ v, e = .returned v ∧ Hid (Own w' w.heap.size 5 v ((bigK k n).map V8)) ∧ Below w.heap.size w w' := by
  induction k with
  | zero => intro n _ w; exact Big_zero n w
  | succ k ih => intro n hn w; exact Big_succ k n (by omega) hn w (ih (by omega) (n / 256) (by omega) w)
theorem Big_at (k : Nat) (hk : k ≤ 100) (n : Nat) (hn : n < 2 ^ 64) (z : Int) (hz : z = (n : Int)) (w : World) :
    Calls Tryd.prog 22 #[.int .u64 z, .int .i64 k] w fun e w' => ∃ v, e = .returned v ∧ Hid (Own w' w.heap.size 5 v ((bigK k n).map V8)) ∧ Below w.heap.size w w' := by
  subst hz
  exact Big_any k hk n hn w

set_option maxRecDepth 100000 in
set_option maxHeartbeats 400000 in
theorem RNonce_any (d : Int) (D : Nat) (hD : (D : Int) = d % 18446744073709551616) (v : Nat) (hv : v < 2 ^ 64) (w : World) :
    Calls Tryd.prog 24 #[.int .i64 d, .int .u64 v] w fun e w' => ∃ r, e = .returned r ∧ Hid (Arg w' r (nnc D v)) ∧ Below w.heap.size w w' := by
  have HD := Lib.hid hD
  clear hD
  go_enter Tryd.func24, Tryd.ntmps24
  go_wp2_with fail
  rw [IntKind.wrap_u64, ← HD.out]
  refine (Big_any 4 (by omega) D (by have := HD.out; omega) w).mono ?_
  rintro e w1 ⟨v1, rfl, Hown1, hb1⟩
  go_wp2_with fail
  refine (Big_any 8 (by omega) v hv w1).mono ?_
  rintro e w2 ⟨v2, rfl, Hown2, hb2⟩
  have hs1 := hb1.size
  have hs2 := hb2.size
  have HO : Hid (Own w2 w.heap.size 5 v1 ((bigK 4 D).map V8)) := Hown1.out.below hb2 (Nat.le_refl _)
  have HL : Hid (((bigK 4 D).map V8).length + ((bigK 8 v).map V8).length ≤ 100000000) := by show _ ≤ _; rw [List.length_map, List.length_map, bigK_length, bigK_length]; omega
  clear Hown1 HD
  go_wp2_with (at_builtin; refine wpList_app rfl (.tmp 7) (.tmp 9) 22 rfl w.heap.size 5 Tryd.underlying22 info8 rfl (by decide) _ ((bigK 4 D).map V8) rfl HO.out _ ((bigK 8 v).map V8) rfl Hown2.out.from_ (oneC8 _) HL.out (by omega) ?_; intro v' w3 hown3 hg3 _)
  go_ret
  refine ⟨_, rfl, ?_, below_app (hb1.trans (hb2.mono hs1)) HO.out hg3 (Nat.le_refl _) (by omega)⟩
  rw [← List.map_append] at hown3
  exact hown3.arg

/-- The reference's key: its words, and the table, lie where it points. -/
def KeyAt (W : World) (p : Nat) (key : List UInt8) : Prop :=
  ∃ ug uc xg xc vs, p < W.heap.size ∧ Sees W p 0 [.slice (some ⟨ug, 0, none⟩) 44 uc, .slice (some ⟨xg, 0, none⟩) 256 xc] ∧ ug < W.heap.size ∧ Sees W ug 0 vs ∧ Vals W vs (wkK key 44) ∧ xg < W.heap.size ∧ Sees W xg 0 (SBL.map V8)
theorem KeyAt.below {W W' : World} {p : Nat} {key : List UInt8} (h : KeyAt W p key) (hb : Below W.heap.size W W') : KeyAt W' p key := by
  obtain ⟨ug, uc, xg, xc, vs, h1, h2, h3, h4, h5, h6, h7⟩ := h
  have := hb.size
  exact ⟨ug, uc, xg, xc, vs, by omega, h2.below hb h1, by omega, h4.below hb h3, h5.below hb, by omega, h7.below hb h6⟩

set_option maxRecDepth 100000 in
set_option maxHeartbeats 400000 in
theorem RNew_any (kb : Nat) (key : List UInt8) (hk : key.length = 16) (w : World) (hkb : kb < w.heap.size) (hks : Sees w kb 0 (key.map V8)) (kc : Nat) (hkc : 16 ≤ kc) :
    Calls Tryd.prog 25 #[.slice (some ⟨kb, 0, none⟩) 16 kc] w fun e w' => ∃ p, e = .returned (.pointer (some ⟨p, 0, none⟩)) ∧ Hid (KeyAt w' p key) ∧ Below w.heap.size w w' := by
  have HK := Lib.hid hks
  have HKl := Lib.hid hk
  clear hks hk
  go_enter Tryd.func25, Tryd.ntmps25
  go_wp2_with fail
  refine (Box_any w).mono ?_
  rintro e w1 ⟨bv, rfl, Hbox, hb1⟩
  have hlen : (SBL.map V8).length = 256 := by rw [List.length_map, SBL_length]
  obtain ⟨xg, xc, hxv, hxB, hxl, hxs⟩ := Hbox.out.form (by rw [hlen]; omega)
  rw [hlen] at hxv
  subst hxv
  have HXs := Lib.hid hxs
  clear hlen hxs Hbox
  go_wp2_with fail
  refine (AWords_any kb xg xc key HKl.out w1 (Nat.lt_of_lt_of_le hkb hb1.size) (HK.out.below hb1 hkb) hxl HXs.out kc hkc).mono ?_
  rintro e w2 ⟨wv, rfl, HRw, hb2⟩
  obtain ⟨ug, uc, vs, huv, hul, hus, hvals⟩ := HRw.out.vals (by rw [wkK_length]; omega)
  rw [wkK_length] at huv
  subst huv
  have HUs := Lib.hid hus
  have HVs := Lib.hid hvals
  have hb02 : Below w.heap.size w w2 := hb1.trans (hb2.mono hb1.size)
  have HX2 : Hid (Sees w2 xg 0 (SBL.map V8)) := HXs.out.below hb2 hxl
  have hx2 : xg < w2.heap.size := Nat.lt_of_lt_of_le hxl hb2.size
  clear hus hvals HRw
  go_wp2
  go_ret
  have hal : Below w2.heap.size w2 (w2.alloc (.cells #[.slice (some ⟨ug, 0, none⟩) 44 uc, .slice (some ⟨xg, 0, none⟩) 256 xc] 78)) := (Below.refl _ _).alloc (Nat.le_refl _) _
  refine ⟨_, rfl, ⟨ug, uc, xg, xc, vs, by simp, (Row.new w2 78 [.slice (some ⟨ug, 0, none⟩) 44 uc, .slice (some ⟨xg, 0, none⟩) 256 xc]).sees, by simp; omega, HUs.out.below hal hul, HVs.out.below hal, by simp; omega, HX2.out.below hal hx2⟩, hb02.trans (hal.mono hb02.size)⟩
end Go.Proofs.YtfodblgoamkgmaaDoor
end

section
/-
  THE WALK of the reference's Stream.
-/
namespace Go.Proofs.YtfodblgoamkgmaaDoor
open Go.RowKit Aes Ctr

theorem Own.shape {w : World} {B : Nat} {e : TypeId} {v : Value} {ys : List Value} (h : Own w B e v ys) : ∃ A cap, v = .slice A ys.length cap ∧ ys.length ≤ cap := by
  rcases h.2 with ⟨rfl, h0⟩ | ⟨g, cap, cur, rfl, _, _, hc, _⟩
  · exact ⟨none, 0, by rw [h0], by omega⟩
  · exact ⟨_, cap, rfl, hc⟩
theorem Arg.front {w : World} {A : Option Addr} {n cap : Nat} {b : List UInt8} (h : Arg w (.slice A n cap) b) (m : Nat) (hm : m ≤ b.length) : Arg w (.slice A m cap) (b.take m) := by
  rcases h with ⟨A', e, rfl⟩ | ⟨x, o, c, e, hx, hl, hs⟩
  · injection e with e1 e2 e3
    obtain rfl : m = 0 := by simpa using hm
    exact .inl ⟨A, by rw [e3], rfl⟩
  · injection e with e1 e2 e3
    refine .inr ⟨x, o, c, by rw [e1, e3, List.length_take, Nat.min_eq_left (by omega)], hx, by rw [List.length_take]; omega, fun j u hu => hs j u ?_⟩
    rw [List.map_take, List.getElem?_take] at hu
    split at hu
    · exact hu
    · cases hu

theorem wrap_small (k : Nat) (h : k < 2 ^ 64) : IntKind.u64.wrap (k : Int) = (k : Int) := by
  rw [IntKind.wrap_u64]; omega

set_option maxRecDepth 100000 in
set_option maxHeartbeats 1000000 in
theorem Stream_any (p : Nat) (key nonce : List UInt8) (hk : key.length = 16) (hn : nonce.length = 12) (nv : Value) (many : Nat) (hm : many ≤ 1000) (w : World) (hK : KeyAt w p key) (hN : Arg w nv nonce) :
    Calls Tryd.prog 34 #[.pointer (some ⟨p, 0, none⟩), nv, .int .i64 many] w fun e w' => ∃ v, e = .returned v ∧ Hid (Arg w' v (strm key nonce many)) ∧ Below w.heap.size w w' := by
  obtain ⟨ug, uc, xg, xc, vs, hpl, hps, hul, hus, hvs, hxl, hxs⟩ := hK
  have HPs := Lib.hid hps
  have HUs := Lib.hid hus
  have HVs := Lib.hid hvs
  have HXs := Lib.hid hxs
  have HN := Lib.hid hN
  have HKl := Lib.hid hk
  have HNl := Lib.hid hn
  have HSW : Hid (∀ W, Below w.heap.size w W → (W.cell? ⟨p, 0, none⟩ = some (.slice (some ⟨ug, 0, none⟩) 44 uc) ∧ W.cell? ⟨p, 1, none⟩ = some (.slice (some ⟨xg, 0, none⟩) 256 xc))) := fun W hW => ⟨(hps.below hW hpl) 0 _ rfl, (hps.below hW hpl) 1 _ rfl⟩
  clear hN hk hn hps hus hvs hxs HPs
  go_enter Tryd.func34, Tryd.ntmps34
  go_wp2
  go_loopw [7, 8] (fun o i wr => ∃ k : Nat, 16 * k < many + 16 ∧ i = .int .i64 k ∧ Hid (Own wr w.heap.size 5 o ((strm key nonce (16 * k)).map V8)) ∧ Below w.heap.size w wr) (fun _ i _ => many + 16 - 16 * (intOf i).toNat)
  case atStart => exact ⟨0, by omega, rfl, Own.nil _ _ _, Below.refl _ _⟩
  case round =>
    obtain ⟨k, hk, rfl, Hown, hbel⟩ := hrel
    obtain ⟨A, cap, rfl, hcap⟩ := Hown.out.shape
    rw [List.length_map, strm_length] at hcap Hown ⊢
    have hszr := hbel.size
    by_cases hlt : 16 * k < many
    · go_wp2
      refine wp_region_held_drew (S := (fun W => (W.cell? ⟨p, 0, none⟩ = some (.slice (some ⟨ug, 0, none⟩) 44 uc) ∧ W.cell? ⟨p, 1, none⟩ = some (.slice (some ⟨xg, 0, none⟩) 256 xc)))) (by kernel_rfl) (HSW.out _ hbel.drew) (fun hHeld => ?_)
      refine wpAnyH_take (i := 0) (oi := ⟨some 15, _, _, _, _, _⟩) (v := ?_) rfl (by kernel_rfl) (by kernel_rfl) (by kernel_rfl) (fun _ _ _ h => h) (Or.inl ⟨by rfl, ?_⟩) hHeld ?_
      rotate_left
      · intro w hSw
        obtain ⟨hSw1, hSw2⟩ := hSw
        go_simp
        with_reducible rfl
      try go_frame
      refine wpAnyH_take (i := 1) (oi := ⟨some 16, _, _, _, _, _⟩) (v := ?_) rfl (by kernel_rfl) (by kernel_rfl) (by kernel_rfl) (fun _ _ _ h => h) (Or.inl ⟨by rfl, ?_⟩) hHeld ?_
      rotate_left
      · intro w hSw
        obtain ⟨hSw1, hSw2⟩ := hSw
        go_simp
        with_reducible rfl
      try go_frame
      refine wpAnyH_take (i := 2) (oi := ⟨some 17, _, _, _, _, _⟩) (v := ?_) rfl (by kernel_rfl) (by kernel_rfl) (by kernel_rfl) (fun _ _ _ h => h) (Or.inl ⟨by rfl, ?_⟩) hHeld ?_
      rotate_left
      · intro w hSw
        obtain ⟨hSw1, hSw2⟩ := hSw
        go_simp
        with_reducible rfl
      try go_frame
      refine wpAnyH_take (i := 3) (oi := ⟨some 18, _, _, _, _, _⟩) (v := ?_) rfl (by kernel_rfl) (by kernel_rfl) (by kernel_rfl) (fun _ _ _ h => h) (Or.inl ⟨by rfl, ?_⟩) hHeld ?_
      rotate_left
      · intro w hSw
        obtain ⟨hSw1, hSw2⟩ := hSw
        go_simp
        with_reducible rfl
      try go_frame
      refine wpAnyH_take (i := 4) (oi := ⟨some 19, _, _, _, _, _⟩) (v := ?_) rfl (by kernel_rfl) (by kernel_rfl) (by kernel_rfl) (fun _ _ _ h => h) (Or.inl ⟨by rfl, ?_⟩) hHeld ?_
      rotate_left
      · intro w hSw
        obtain ⟨hSw1, hSw2⟩ := hSw
        go_simp
        with_reducible rfl
      try go_frame
      refine wpAnyH_take (i := 6) (oi := ⟨some 21, _, _, _, _, _⟩) (v := ?_) rfl (by kernel_rfl) (by kernel_rfl) (by kernel_rfl) (fun _ _ _ h => h) (Or.inl ⟨by rfl, ?_⟩) hHeld ?_
      rotate_left
      · intro w hSw
        obtain ⟨hSw1, hSw2⟩ := hSw
        go_simp
        with_reducible rfl
      try go_frame
      refine wpAnyH_take (i := 8) (oi := ⟨some 23, _, _, _, _, _⟩) (v := ?_) rfl (by kernel_rfl) (by kernel_rfl) (by kernel_rfl) (fun _ _ _ h => h) (Or.inl ⟨by rfl, ?_⟩) hHeld ?_
      rotate_left
      · intro w hSw
        obtain ⟨hSw1, hSw2⟩ := hSw
        go_simp
        with_reducible rfl
      try go_frame
      refine wpAnyH_take (i := 9) (oi := ⟨some 24, _, _, _, _, _⟩) (v := ?_) rfl (by kernel_rfl) (by kernel_rfl) (by kernel_rfl) (fun _ _ _ h => h) (Or.inl ⟨by rfl, ?_⟩) hHeld ?_
      rotate_left
      · intro w hSw
        obtain ⟨hSw1, hSw2⟩ := hSw
        go_simp
        with_reducible rfl
      try go_frame
      refine wpAnyH_take (i := 12) (oi := ⟨some 27, _, _, _, _, _⟩) (v := ?_) rfl (by kernel_rfl) (by kernel_rfl) (by kernel_rfl) (fun _ _ _ h => h) (Or.inl ⟨by rfl, ?_⟩) hHeld ?_
      rotate_left
      · intro w hSw
        obtain ⟨hSw1, hSw2⟩ := hSw
        go_simp
        with_reducible rfl
      try go_frame
      refine wpAnyH_take (i := 13) (oi := ⟨some 28, _, _, _, _, _⟩) (v := ?_) rfl (by kernel_rfl) (by kernel_rfl) (by kernel_rfl) (fun _ _ _ h => h) (Or.inl ⟨by rfl, ?_⟩) hHeld ?_
      rotate_left
      · intro w hSw
        obtain ⟨hSw1, hSw2⟩ := hSw
        go_simp
        with_reducible rfl
      try go_frame
      refine wpAnyH_take (i := 14) (oi := ⟨some 29, _, _, _, _, _⟩) (v := ?_) rfl (by kernel_rfl) (by kernel_rfl) (by kernel_rfl) (fun _ _ _ h => h) (Or.inl ⟨by rfl, ?_⟩) hHeld ?_
      rotate_left
      · intro w hSw
        obtain ⟨hSw1, hSw2⟩ := hSw
        go_simp
        with_reducible rfl
      try go_frame
      refine wpAnyH_take (i := 15) (oi := ⟨some 30, _, _, _, _, _⟩) (v := ?_) rfl (by kernel_rfl) (by kernel_rfl) (by kernel_rfl) (fun _ _ _ h => h) (Or.inl ⟨by rfl, ?_⟩) hHeld ?_
      rotate_left
      · intro w hSw
        obtain ⟨hSw1, hSw2⟩ := hSw
        go_simp
        with_reducible rfl
      try go_frame
      refine wpAnyH_ready (rs := [5]) (by kernel_rfl) (by simp) ?_
      refine AllReadyH.cons (o := ⟨some 20, _, _, _, _, _⟩) rfl (fun K hK => ?_) AllReadyH.nil
      go_simp
      have HB1 : Hid (Below wr.heap.size wr ((wr.alloc (.cells #[] 5)).drew)) := ((Below.refl _ _).alloc (Nat.le_refl _) _).drew
      have HO1 : Hid (Own ((wr.alloc (.cells #[] 5)).drew) wr.heap.size 5 (.slice (some ⟨wr.heap.size, 0, none⟩) 0 0) []) := (Own.lit wr wr.heap.size 5 [] (Nat.le_refl _) (by simp)).drew
      refine hK.out _ _ (HSW.out _ (hbel.trans (HB1.out.mono hszr))) (fun hHeld => ?_)
      clear hK K
      try go_frame
      generalize (wr.alloc (.cells #[] 5)).drew = w1 at *
      refine wpAnyH_ready (rs := [7]) (by kernel_rfl) (by simp) ?_
      refine AllReadyH.cons (o := ⟨some 22, _, _, _, _, _⟩) rfl (fun K hK => ?_) AllReadyH.nil
      refine step_app rfl (.tmp 20) (.tmp 21) 22 rfl wr.heap.size 5 Tryd.underlying22 info8 rfl (by decide) _ ([]) rfl HO1.out _ (nonce.map V8) rfl (arg_from (HN.out.below (hbel.trans (HB1.out.mono hszr)))) (oneC8 _) (by simp [HNl.out]) HB1.out.size ?_
      intro v22 w2 hown2 hg2 _
      have HB2 : Hid (Below wr.heap.size wr w2) := below_app HB1.out HO1.out hg2 (Nat.le_refl _) HB1.out.size
      have HO2 : Hid (Own w2 wr.heap.size 5 v22 (nonce.map V8)) := hown2
      clear hown2 hg2 HO1 HB1
      refine hK.out _ _ (HSW.out _ (hbel.trans (HB2.out.mono hszr))) (fun hHeld => ?_)
      clear hK K
      try go_frame
      refine wpAnyH_ready (rs := [10]) (by kernel_rfl) (by simp) ?_
      refine AllReadyH.cons (o := ⟨some 25, _, _, _, _, _⟩) rfl (fun K hK => ?_) AllReadyH.nil
      go_simp
      go_at_call 22
      refine (Big_at 4 (by omega) k (by omega) _ (wrap_small k (by omega)) w2).mono ?_
      rintro e w3 ⟨v25, rfl, HO25, hb3⟩
      have HB3 : Hid (Below wr.heap.size wr w3) := HB2.out.trans (hb3.mono HB2.out.size)
      have HO3 : Hid (Own w3 wr.heap.size 5 v22 (nonce.map V8)) := HO2.out.below hb3 (Nat.le_refl _)
      clear hb3 HB2 HO2
      refine hK.out _ _ (HSW.out _ (hbel.trans (HB3.out.mono hszr))) (fun hHeld => ?_)
      clear hK K
      try go_frame
      refine wpAnyH_ready (rs := [11]) (by kernel_rfl) (by simp) ?_
      refine AllReadyH.cons (o := ⟨some 26, _, _, _, _, _⟩) rfl (fun K hK => ?_) AllReadyH.nil
      refine step_app rfl (.tmp 22) (.tmp 25) 22 rfl wr.heap.size 5 Tryd.underlying22 info8 rfl (by decide) _ (nonce.map V8) rfl HO3.out _ ((bigK 4 k).map V8) rfl HO25.out.from_ (oneC8 _) (by rw [List.length_map, List.length_map, bigK_length, HNl.out]; omega) HB3.out.size ?_
      intro v26 w4 hown4 hg4 _
      have HB4 : Hid (Below wr.heap.size wr w4) := below_app HB3.out HO3.out hg4 (Nat.le_refl _) HB3.out.size
      rw [← List.map_append] at hown4
      have hl4 : ((nonce ++ bigK 4 k).map V8).length = 16 := by rw [List.length_map, List.length_append, bigK_length, HNl.out]
      obtain ⟨bb, bc, hv26, _, hbb, hbs⟩ := hown4.form (by rw [hl4]; omega)
      rw [hl4] at hv26
      subst hv26
      have HBs := Lib.hid hbs
      clear hbs hown4 hg4 HB3 HO3 HO25 hl4
      refine hK.out _ _ (HSW.out _ (hbel.trans (HB4.out.mono hszr))) (fun hHeld => ?_)
      clear hK K
      try go_frame
      refine wpAnyH_ready (rs := [16]) (by kernel_rfl) (by simp) ?_
      refine AllReadyH.cons (o := ⟨some 31, _, _, _, _, _⟩) rfl (fun K hK => ?_) AllReadyH.nil
      go_simp
      go_at_call 45
      have hlw : w.heap.size ≤ w4.heap.size := Nat.le_trans hszr HB4.out.size
      have hB4 : Below w.heap.size w w4 := hbel.trans (HB4.out.mono hszr)
      refine (Turned_any ug uc bb bc xg xc key (nonce ++ bigK 4 k) HKl.out (by rw [List.length_append, bigK_length, HNl.out]) vs w4 (by omega) (HUs.out.below hB4 hul) (HVs.out.below hB4) hbb HBs.out (by omega) (HXs.out.below hB4 hxl)).mono ?_
      rintro e w5 ⟨v31, rfl, HA31, hb5⟩
      have HB5 : Hid (Below wr.heap.size wr w5) := HB4.out.trans (hb5.mono HB4.out.size)
      have HB05 : Hid (Below w.heap.size w w5) := hbel.trans (HB5.out.mono hszr)
      have HO5 : Hid (Own w5 w.heap.size 5 (.slice A (16 * k) cap) ((strm key nonce (16 * k)).map V8)) := Hown.out.below HB5.out (Nat.le_refl _)
      have HE5 : Hid (Arg w5 v31 (blk key nonce k)) := HA31
      clear hb5 HB4 HBs hbb hB4 HA31
      refine hK.out _ _ (HSW.out _ HB05.out) (fun hHeld => ?_)
      clear hK K
      try go_frame
      refine wpAnyH_ready (rs := [17]) (by kernel_rfl) (by simp) ?_
      refine AllReadyH.cons (o := ⟨some 32, _, _, _, _, _⟩) rfl (fun K hK => ?_) AllReadyH.nil
      refine step_app rfl (.tmp 15) (.tmp 31) 22 rfl w.heap.size 5 Tryd.underlying22 info8 rfl (by decide) _ ((strm key nonce (16 * k)).map V8) rfl HO5.out _ ((blk key nonce k).map V8) rfl (arg_from HE5.out) (oneC8 _) (by rw [List.length_map, List.length_map, strm_length, blk_length key nonce HKl.out HNl.out]; omega) HB05.out.size ?_
      intro v32 w6 hown6 hg6 _
      have HB6 : Hid (Below w.heap.size w w6) := below_app HB05.out HO5.out hg6 (Nat.le_refl _) HB05.out.size
      rw [← List.map_append, ← strm_next key nonce HKl.out HNl.out] at hown6
      have HO6 := Lib.hid hown6
      clear hown6 hg6 HO5 HE5 HB05 HB5
      refine hK.out _ _ (HSW.out _ HB6.out) (fun hHeld => ?_)
      clear hK K
      try go_frame
      refine wpAnyH_take (i := 18) (oi := ⟨some 7, _, _, _, _, _⟩) (v := ?_) rfl (by kernel_rfl) (by kernel_rfl) (by kernel_rfl) (fun _ _ _ h => h) (Or.inl ⟨by rfl, ?_⟩) hHeld ?_
      rotate_left
      · intro w hSw
        obtain ⟨hSw1, hSw2⟩ := hSw
        go_simp
        with_reducible rfl
      try go_frame
      refine wpAnyH_done (by kernel_rfl) ?_ _
      clear hHeld
      go_wp2
      go_roundw
      case rel => exact ⟨k + 1, by omega, by go_num, HO6, HB6.out⟩
      case measure => simp [intOf]; omega
    · go_wp2
      go_ret
      refine ⟨_, rfl, ?_, hbel⟩
      have h1 := Hown.out.arg.front many (by rw [strm_length]; omega)
      rw [strm_take key nonce _ _ (by omega)] at h1
      exact h1
end Go.Proofs.YtfodblgoamkgmaaDoor
end

section
/-
  THE WALK of the reference's Code.
-/
namespace Go.Proofs.YtfodblgoamkgmaaDoor
open Go.RowKit Aes Ctr

theorem xorL_take (a b : List UInt8) (k : Nat) : xorL (a.take k) (b.take k) = (xorL a b).take k := by
  rw [xorL, xorL, List.take_zipWith]
theorem take_code (key nonce b : List UInt8) (k : Nat) (hk : k < b.length) : (code key nonce b).take (k + 1) = (code key nonce b).take k ++ [b.getD k 0 ^^^ (strm key nonce b.length).getD k 0] := by
  rw [code, ← xorL_take, ← xorL_take, take_xor _ _ _ hk (by rw [strm_length]; exact hk)]

set_option maxRecDepth 100000 in
set_option maxHeartbeats 1000000 in
theorem RCode_any (p : Nat) (key nonce b : List UInt8) (hk : key.length = 16) (hn : nonce.length = 12) (hb : b.length ≤ 1000) (nv v : Value) (w : World) (hK : KeyAt w p key) (hN : Arg w nv nonce) (hA : Arg w v b) :
    Calls Tryd.prog 23 #[.pointer (some ⟨p, 0, none⟩), nv, v] w fun e w' => ∃ r, e = .returned r ∧ Hid (Arg w' r (code key nonce b)) ∧ Below w.heap.size w w' := by
  obtain ⟨A, cap, rfl⟩ := hA.form
  obtain ⟨n, hnl⟩ : ∃ n, n = b.length := ⟨_, rfl⟩
  rw [← hnl] at hA hb ⊢
  have HNl := Lib.hid hnl
  have HA := Lib.hid hA
  have HN := Lib.hid hN
  have HK := Lib.hid hK
  have HKl := Lib.hid hk
  have HNo := Lib.hid hn
  clear hA hN hK hk hn hnl
  go_enter Tryd.func23, Tryd.ntmps23
  go_wp2_with fail
  refine (Stream_any p key nonce HKl.out HNo.out nv n hb w HK.out HN.out).mono ?_
  rintro e w1 ⟨sv, rfl, HS, hb1⟩
  obtain ⟨A2, cap2, rfl⟩ := HS.out.form
  rw [strm_length] at HS ⊢
  have HA1 : Hid (Arg w1 (.slice A n cap) b) := HA.out.below hb1
  have hs1 := hb1.size
  have HB1 := Lib.hid hb1
  clear hb1 HA
  go_wp2
  go_loopw [8, 9] (fun o i wr => ∃ k : Nat, k ≤ n ∧ i = .int .i64 k ∧ Own wr w1.heap.size 5 o (((code key nonce b).take k).map V8) ∧ Below w1.heap.size w1 wr) (fun _ i _ => n - (intOf i).toNat)
  case atStart => exact ⟨0, by omega, rfl, Own.nil _ _ _, Below.refl _ _⟩
  case round =>
    obtain ⟨k, hk, rfl, hown, hbel⟩ := hrel
    have hszr := hbel.size
    by_cases hlt : k < n
    · obtain ⟨xb, xo, xc, hxe, hxl, hxs⟩ := HA1.out.word (by rw [← HNl.out]; omega)
      obtain ⟨yb, yo, yc, hye, hyl, hys⟩ := HS.out.word (by rw [strm_length]; omega)
      injection hxe with e1 e2 e3
      injection hye with e4 e5 e6
      subst e1; subst e3; subst e4; subst e6
      clear e2 e5
      have g1 : wr.cell? ⟨xb, xo + k, none⟩ = some (.int .u8 (b.getD k 0).toNat) := at8 (hxs.below hbel hxl) k (by rw [← HNl.out]; exact hlt)
      have g2 : wr.cell? ⟨yb, yo + k, none⟩ = some (.int .u8 ((strm key nonce n).getD k 0).toNat) := at8 (hys.below hbel hyl) k (by rw [strm_length]; exact hlt)
      have HT : Hid ((code key nonce b).take (k + 1) = (code key nonce b).take k ++ [b.getD k 0 ^^^ (strm key nonce n).getD k 0]) := by
        show _ = _
        rw [HNl.out]; exact take_code key nonce b k (by rw [← HNl.out]; exact hlt)
      have HX := Lib.hid (xor8 (b.getD k 0) ((strm key nonce n).getD k 0))
      have HL : Hid ((((code key nonce b).take k).map V8).length + 1 ≤ 100000000) := by show _ ≤ _; simp; omega
      generalize b.getD k 0 = x at *
      generalize (strm key nonce n).getD k 0 = y at *
      have Hown := Lib.hid hown
      clear hown hxs hys
      go_wp2
      have hk' : (k : Int) < n := by omega
      have G0 : wr.drew.cell? ⟨xb, xo + k, none⟩ = some (.int .u8 x.toNat) ∧ wr.drew.cell? ⟨yb, yo + k, none⟩ = some (.int .u8 y.toNat) := ⟨g1, g2⟩
      have G1 : ∀ o, (wr.alloc o).drew.cell? ⟨xb, xo + k, none⟩ = some (.int .u8 x.toNat) ∧ (wr.alloc o).drew.cell? ⟨yb, yo + k, none⟩ = some (.int .u8 y.toNat) := fun o =>
        ⟨(World.cell?_alloc_lt wr o _ (by show xb < _; omega)).trans g1, (World.cell?_alloc_lt wr o _ (by show yb < _; omega)).trans g2⟩
      clear g1 g2
      have Hown2 : Hid (∀ o, Own (wr.alloc o).drew w1.heap.size 5 u8 (((code key nonce b).take k).map V8)) := fun o => (Hown.out.alloc o).drew
      have Hlts : Hid (xb < w1.heap.size ∧ yb < w1.heap.size) := ⟨hxl, hyl⟩
      have HG4 : Hid (∀ w4, (wr.alloc (.cells #[.int .u8 (bits .xor .u8 (x.toNat : Int) y.toNat)] 5)).drew.grownBy w4 u8.ownBlock → w4.cell? ⟨xb, xo + k, none⟩ = some (.int .u8 x.toNat) ∧ w4.cell? ⟨yb, yo + k, none⟩ = some (.int .u8 y.toNat)) := fun w4 hg => by
        have hB : Below w1.heap.size (wr.alloc (.cells #[.int .u8 (bits .xor .u8 (x.toNat : Int) y.toNat)] 5)).drew w4 := below_app (Below.refl _ _) (Hown2.out _) hg (Nat.le_refl _) (by simp; omega)
        obtain ⟨k1, k2⟩ := G1 (.cells #[.int .u8 (bits .xor .u8 (x.toNat : Int) y.toNat)] 5)
        exact ⟨(hB.cell (p := ⟨xb, xo + k, none⟩) Hlts.out.1).trans k1, (hB.cell (p := ⟨yb, yo + k, none⟩) Hlts.out.2).trans k2⟩
      go_region_held3 (fun W => W.cell? ⟨xb, xo + k, none⟩ = some (.int .u8 x.toNat) ∧ W.cell? ⟨yb, yo + k, none⟩ = some (.int .u8 y.toNat)) (first | exact G0 | exact G1 _ | exact G4)
        (first | (refine step_app rfl (.tmp 21) (.tmp 31) 22 rfl w1.heap.size 5 Tryd.underlying22 info8 rfl (by decide) _ (((code key nonce b).take k).map V8) rfl (Hown2.out _) _ [.int .u8 (bits .xor .u8 (x.toNat : Int) y.toNat)] rfl (from_new wr 5 [.int .u8 (bits .xor .u8 (x.toNat : Int) y.toNat)]) (by rw [HX.out]; exact oneC8 [x ^^^ y]) HL.out (by simp; omega) ?_; intro v' w2 hown2 hg2 _; have G4 := HG4.out _ hg2))
      all_goals
        clear G0 G1 G4 HG4 hk'
        go_wp2
        go_roundw
        case rel =>
          rw [HX.out] at hown2
          refine ⟨k + 1, by omega, by go_num, ?_, ?_⟩
          · rw [HT.out, List.map_append]; exact hown2
          · exact below_app (hbel.alloc hszr _).drew (Hown2.out _) hg2 (Nat.le_refl _) (by simp; omega)
        case measure => simp [intOf]; omega
    · obtain rfl : k = n := by omega
      rw [List.take_of_length_le (by rw [code_length, ← HNl.out]; omega)] at hown
      have Hown := Lib.hid hown
      clear hown
      go_wp2
      go_ret
      exact ⟨_, rfl, Hown.out.arg, HB1.out.trans (hbel.mono hs1)⟩
end Go.Proofs.YtfodblgoamkgmaaDoor
end
