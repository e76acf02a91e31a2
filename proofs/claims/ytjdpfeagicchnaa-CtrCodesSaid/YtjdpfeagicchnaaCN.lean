/-
  THE WALKS of the reference's Big (it calls itself), Nonce, New.
-/
import Derived.Test.YtjdpfeagicchnaaET0
import Derived.Test.YtjdpfeagicchnaaCA
namespace Go.Proofs.Ytjdpfeagicchnaa
open Go.RowKit Aes Ctr

def bigK (k n : Nat) : List UInt8 := big k n
theorem bigK_zero (n : Nat) : bigK 0 n = [] := rfl
theorem bigK_succ (k n : Nat) : bigK (k + 1) n = bigK k (n / 256) ++ [UInt8.ofNat n] := rfl
theorem bigK_length (k n : Nat) : (bigK k n).length = k := big_length k n

set_option maxRecDepth 100000 in
set_option maxHeartbeats 400000 in
theorem Big_zero (n : Nat) (w : World) :
    Calls Try.prog 16 #[.int .u64 n, .int .i64 0] w fun e w' => ∃ v, e = .returned v ∧ Hid (Own w' w.heap.size 5 v ((bigK 0 n).map V8)) ∧ Below w.heap.size w w' := by
  go_enter Try.func16, Try.ntmps16
  go_wp2
  go_ret
  exact ⟨_, rfl, Own.nil _ _ _, Below.refl _ _⟩

set_option maxRecDepth 100000 in
set_option maxHeartbeats 400000 in
theorem Big_succ (k n : Nat) (hk : k < 100) (hn : n < 2 ^ 64) (w : World)
    (ih : Calls Try.prog 16 #[.int .u64 ((n / 256 : Nat) : Int), .int .i64 k] w fun e w' => ∃ v, e = .returned v ∧ Hid (Own w' w.heap.size 5 v ((bigK k (n / 256)).map V8)) ∧ Below w.heap.size w w') :
    Calls Try.prog 16 #[.int .u64 n, .int .i64 ((k + 1 : Nat) : Int)] w fun e w' => ∃ v, e = .returned v ∧ Hid (Own w' w.heap.size 5 v ((bigK (k + 1) n).map V8)) ∧ Below w.heap.size w w' := by
  rw [show ((n / 256 : Nat) : Int) = (n : Int) / 256 from Int.natCast_ediv n 256] at ih
  have HI := Lib.hid ih
  clear ih
  go_enter Try.func16, Try.ntmps16
  go_wp2_with fail
  refine HI.out.mono ?_
  rintro e w1 ⟨v1, rfl, Hown, hb1⟩
  have hsz := hb1.size
  have HL : Hid (((bigK k (n / 256)).map V8).length + 1 ≤ 100000000) := by show _ ≤ _; rw [List.length_map, bigK_length]; omega
  have HE : Hid ((n : Int) % 256 = ((UInt8.ofNat n).toNat : Int)) := byte_eq n
  clear HI
  go_wp2_with (at_builtin; refine wpList_app rfl (.tmp 11) (.tmp 15) 24 rfl w.heap.size 5 Try.underlying24 info8 rfl (by decide) _ ((bigK k (n / 256)).map V8) rfl (Hown.out.alloc _) _ [.int .u8 ((n : Int) % 256)] rfl (from_new w1 5 [.int .u8 ((n : Int) % 256)]) (by rw [HE.out]; exact oneC8 [UInt8.ofNat n]) HL.out (by simp; omega) ?_; intro v' w2 hown2 hg2 _)
  go_ret
  refine ⟨_, rfl, ?_, below_app (hb1.alloc hsz _) (Hown.out.alloc _) hg2 (Nat.le_refl _) (by simp; omega)⟩
  show Own _ _ _ _ _
  rw [HE.out] at hown2
  rw [bigK_succ, List.map_append]
  exact hown2

theorem Big_any (k : Nat) (hk : k ≤ 100) : ∀ (n : Nat), n < 2 ^ 64 → ∀ w : World,
    Calls Try.prog 16 #[.int .u64 n, .int .i64 k] w fun e w' => ∃ v, e = .returned v ∧ Hid (Own w' w.heap.size 5 v ((bigK k n).map V8)) ∧ Below w.heap.size w w' := by
  induction k with
  | zero => intro n _ w; exact Big_zero n w
  | succ k ih => intro n hn w; exact Big_succ k n (by omega) hn w (ih (by omega) (n / 256) (by omega) w)
theorem Big_at (k : Nat) (hk : k ≤ 100) (n : Nat) (hn : n < 2 ^ 64) (z : Int) (hz : z = (n : Int)) (w : World) :
    Calls Try.prog 16 #[.int .u64 z, .int .i64 k] w fun e w' => ∃ v, e = .returned v ∧ Hid (Own w' w.heap.size 5 v ((bigK k n).map V8)) ∧ Below w.heap.size w w' := by
  subst hz
  exact Big_any k hk n hn w

set_option maxRecDepth 100000 in
set_option maxHeartbeats 400000 in
theorem RNonce_any (d : Int) (D : Nat) (hD : (D : Int) = d % 18446744073709551616) (v : Nat) (hv : v < 2 ^ 64) (w : World) :
    Calls Try.prog 10 #[.int .i64 d, .int .u64 v] w fun e w' => ∃ r, e = .returned r ∧ Hid (Arg w' r (nnc D v)) ∧ Below w.heap.size w w' := by
  have HD := Lib.hid hD
  clear hD
  go_enter Try.func10, Try.ntmps10
  go_wp2_with fail
  rw [IntKind.wrap_u64, ← HD.out]
  refine (Big_any 4 (by omega) D (by have := HD.out; omega) w).mono ?_
  rintro e w1 ⟨v1, rfl, Hown1, hb1⟩
  go_wp2_with fail
  refine (Big_any 8 (by omega) v hv w1).mono ?_
  rintro e w2 ⟨v2, rfl, Hown2, hb2⟩
  have hs1 := hb1.size
  have hs2 := hb2.size
  have HO : Hid (Own w2 w.heap.size 5 v1 ((bigK 4 D).map V8)) := Hown1.out.below hb2 (Nat.le_refl _)
  have HL : Hid (((bigK 4 D).map V8).length + ((bigK 8 v).map V8).length ≤ 100000000) := by show _ ≤ _; rw [List.length_map, List.length_map, bigK_length, bigK_length]; omega
  clear Hown1 HD
  go_wp2_with (at_builtin; refine wpList_app rfl (.tmp 7) (.tmp 9) 24 rfl w.heap.size 5 Try.underlying24 info8 rfl (by decide) _ ((bigK 4 D).map V8) rfl HO.out _ ((bigK 8 v).map V8) rfl Hown2.out.from_ (oneC8 _) HL.out (by omega) ?_; intro v' w3 hown3 hg3 _)
  go_ret
  refine ⟨_, rfl, ?_, below_app (hb1.trans (hb2.mono hs1)) HO.out hg3 (Nat.le_refl _) (by omega)⟩
  rw [← List.map_append] at hown3
  exact hown3.arg

/-- The reference's key: its words, and the table, lie where it points. -/
def KeyAt (W : World) (p : Nat) (key : List UInt8) : Prop :=
  ∃ ug uc xg xc vs, p < W.heap.size ∧ Sees W p 0 [.slice (some ⟨ug, 0, none⟩) 44 uc, .slice (some ⟨xg, 0, none⟩) 256 xc] ∧ ug < W.heap.size ∧ Sees W ug 0 vs ∧ Vals W vs (wkK key 44) ∧ xg < W.heap.size ∧ Sees W xg 0 (SBL.map V8)
theorem KeyAt.below {W W' : World} {p : Nat} {key : List UInt8} (h : KeyAt W p key) (hb : Below W.heap.size W W') : KeyAt W' p key := by
  obtain ⟨ug, uc, xg, xc, vs, h1, h2, h3, h4, h5, h6, h7⟩ := h
  have := hb.size
  exact ⟨ug, uc, xg, xc, vs, by omega, h2.below hb h1, by omega, h4.below hb h3, h5.below hb, by omega, h7.below hb h6⟩

set_option maxRecDepth 100000 in
set_option maxHeartbeats 400000 in
theorem RNew_any (kb : Nat) (key : List UInt8) (hk : key.length = 16) (w : World) (hkb : kb < w.heap.size) (hks : Sees w kb 0 (key.map V8)) :
    Calls Try.prog 8 #[.slice (some ⟨kb, 0, none⟩) 16 16] w fun e w' => ∃ p, e = .returned (.pointer (some ⟨p, 0, none⟩)) ∧ Hid (KeyAt w' p key) ∧ Below w.heap.size w w' := by
  have HK := Lib.hid hks
  have HKl := Lib.hid hk
  clear hks hk
  go_enter Try.func8, Try.ntmps8
  go_wp2_with fail
  refine (Box_any w).mono ?_
  rintro e w1 ⟨bv, rfl, Hbox, hb1⟩
  have hlen : (SBL.map V8).length = 256 := by rw [List.length_map, SBL_length]
  obtain ⟨xg, xc, hxv, hxB, hxl, hxs⟩ := Hbox.out.form (by rw [hlen]; omega)
  rw [hlen] at hxv
  subst hxv
  have HXs := Lib.hid hxs
  clear hlen hxs Hbox
  go_wp2_with fail
  refine (AWords_any kb xg xc key HKl.out w1 (Nat.lt_of_lt_of_le hkb hb1.size) (HK.out.below hb1 hkb) hxl HXs.out).mono ?_
  rintro e w2 ⟨wv, rfl, HRw, hb2⟩
  obtain ⟨ug, uc, vs, huv, hul, hus, hvals⟩ := HRw.out.vals (by rw [wkK_length]; omega)
  rw [wkK_length] at huv
  subst huv
  have HUs := Lib.hid hus
  have HVs := Lib.hid hvals
  have hb02 : Below w.heap.size w w2 := hb1.trans (hb2.mono hb1.size)
  have HX2 : Hid (Sees w2 xg 0 (SBL.map V8)) := HXs.out.below hb2 hxl
  have hx2 : xg < w2.heap.size := Nat.lt_of_lt_of_le hxl hb2.size
  clear hus hvals HRw
  go_wp2
  go_ret
  have hal : Below w2.heap.size w2 (w2.alloc (.cells #[.slice (some ⟨ug, 0, none⟩) 44 uc, .slice (some ⟨xg, 0, none⟩) 256 xc] 43)) := (Below.refl _ _).alloc (Nat.le_refl _) _
  refine ⟨_, rfl, ⟨ug, uc, xg, xc, vs, by simp, (Row.new w2 43 [.slice (some ⟨ug, 0, none⟩) 44 uc, .slice (some ⟨xg, 0, none⟩) 256 xc]).sees, by simp; omega, HUs.out.below hal hul, HVs.out.below hal, by simp; omega, HX2.out.below hal hx2⟩, hb02.trans (hal.mono hb02.size)⟩
end Go.Proofs.Ytjdpfeagicchnaa
