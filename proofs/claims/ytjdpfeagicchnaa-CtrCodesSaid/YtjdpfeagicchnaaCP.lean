/-
  THE WALK of the reference's Code.
-/
import Derived.Test.YtjdpfeagicchnaaCO
namespace Go.Proofs.Ytjdpfeagicchnaa
open Go.RowKit Aes Ctr

theorem xorL_take (a b : List UInt8) (k : Nat) : xorL (a.take k) (b.take k) = (xorL a b).take k := by
  rw [xorL, xorL, List.take_zipWith]
theorem take_code (key nonce b : List UInt8) (k : Nat) (hk : k < b.length) : (code key nonce b).take (k + 1) = (code key nonce b).take k ++ [b.getD k 0 ^^^ (strm key nonce b.length).getD k 0] := by
  rw [code, ← xorL_take, ← xorL_take, take_xor _ _ _ hk (by rw [strm_length]; exact hk)]

set_option maxRecDepth 100000 in
set_option maxHeartbeats 1000000 in
theorem RCode_any (p : Nat) (key nonce b : List UInt8) (hk : key.length = 16) (hn : nonce.length = 12) (hb : b.length ≤ 1000) (nv v : Value) (w : World) (hK : KeyAt w p key) (hN : Arg w nv nonce) (hA : Arg w v b) :
    Calls Try.prog 9 #[.pointer (some ⟨p, 0, none⟩), nv, v] w fun e w' => ∃ r, e = .returned r ∧ Hid (Arg w' r (code key nonce b)) ∧ Below w.heap.size w w' := by
  obtain ⟨A, cap, rfl⟩ := hA.form
  obtain ⟨n, hnl⟩ : ∃ n, n = b.length := ⟨_, rfl⟩
  rw [← hnl] at hA hb ⊢
  have HNl := Lib.hid hnl
  have HA := Lib.hid hA
  have HN := Lib.hid hN
  have HK := Lib.hid hK
  have HKl := Lib.hid hk
  have HNo := Lib.hid hn
  clear hA hN hK hk hn hnl
  go_enter Try.func9, Try.ntmps9
  go_wp2_with fail
  refine (Stream_any p key nonce HKl.out HNo.out nv n hb w HK.out HN.out).mono ?_
  rintro e w1 ⟨sv, rfl, HS, hb1⟩
  obtain ⟨A2, cap2, rfl⟩ := HS.out.form
  rw [strm_length] at HS ⊢
  have HA1 : Hid (Arg w1 (.slice A n cap) b) := HA.out.below hb1
  have hs1 := hb1.size
  have HB1 := Lib.hid hb1
  clear hb1 HA
  go_wp2
  go_loopw [8, 9] (fun o i wr => ∃ k : Nat, k ≤ n ∧ i = .int .i64 k ∧ Own wr w1.heap.size 5 o (((code key nonce b).take k).map V8) ∧ Below w1.heap.size w1 wr) (fun _ i _ => n - (intOf i).toNat)
  case atStart => exact ⟨0, by omega, rfl, Own.nil _ _ _, Below.refl _ _⟩
  case round =>
    obtain ⟨k, hk, rfl, hown, hbel⟩ := hrel
    have hszr := hbel.size
    by_cases hlt : k < n
    · obtain ⟨xb, xo, xc, hxe, hxl, hxs⟩ := HA1.out.word (by rw [← HNl.out]; omega)
      obtain ⟨yb, yo, yc, hye, hyl, hys⟩ := HS.out.word (by rw [strm_length]; omega)
      injection hxe with e1 e2 e3
      injection hye with e4 e5 e6
      subst e1; subst e3; subst e4; subst e6
      clear e2 e5
      have g1 : wr.cell? ⟨xb, xo + k, none⟩ = some (.int .u8 (b.getD k 0).toNat) := at8 (hxs.below hbel hxl) k (by rw [← HNl.out]; exact hlt)
      have g2 : wr.cell? ⟨yb, yo + k, none⟩ = some (.int .u8 ((strm key nonce n).getD k 0).toNat) := at8 (hys.below hbel hyl) k (by rw [strm_length]; exact hlt)
      have HT : Hid ((code key nonce b).take (k + 1) = (code key nonce b).take k ++ [b.getD k 0 ^^^ (strm key nonce n).getD k 0]) := by
        show _ = _
        rw [HNl.out]; exact take_code key nonce b k (by rw [← HNl.out]; exact hlt)
      have HX := Lib.hid (xor8 (b.getD k 0) ((strm key nonce n).getD k 0))
      have HL : Hid ((((code key nonce b).take k).map V8).length + 1 ≤ 100000000) := by show _ ≤ _; simp; omega
      generalize b.getD k 0 = x at *
      generalize (strm key nonce n).getD k 0 = y at *
      have Hown := Lib.hid hown
      clear hown hxs hys
      go_wp2
      have hk' : (k : Int) < n := by omega
      have G0 : wr.drew.cell? ⟨xb, xo + k, none⟩ = some (.int .u8 x.toNat) ∧ wr.drew.cell? ⟨yb, yo + k, none⟩ = some (.int .u8 y.toNat) := ⟨g1, g2⟩
      have G1 : ∀ o, (wr.alloc o).drew.cell? ⟨xb, xo + k, none⟩ = some (.int .u8 x.toNat) ∧ (wr.alloc o).drew.cell? ⟨yb, yo + k, none⟩ = some (.int .u8 y.toNat) := fun o =>
        ⟨(World.cell?_alloc_lt wr o _ (by show xb < _; omega)).trans g1, (World.cell?_alloc_lt wr o _ (by show yb < _; omega)).trans g2⟩
      clear g1 g2
      have Hown2 : Hid (∀ o, Own (wr.alloc o).drew w1.heap.size 5 u8 (((code key nonce b).take k).map V8)) := fun o => (Hown.out.alloc o).drew
      have Hlts : Hid (xb < w1.heap.size ∧ yb < w1.heap.size) := ⟨hxl, hyl⟩
      have HG4 : Hid (∀ w4, (wr.alloc (.cells #[.int .u8 (bits .xor .u8 (x.toNat : Int) y.toNat)] 5)).drew.grownBy w4 u8.ownBlock → w4.cell? ⟨xb, xo + k, none⟩ = some (.int .u8 x.toNat) ∧ w4.cell? ⟨yb, yo + k, none⟩ = some (.int .u8 y.toNat)) := fun w4 hg => by
        have hB : Below w1.heap.size (wr.alloc (.cells #[.int .u8 (bits .xor .u8 (x.toNat : Int) y.toNat)] 5)).drew w4 := below_app (Below.refl _ _) (Hown2.out _) hg (Nat.le_refl _) (by simp; omega)
        obtain ⟨k1, k2⟩ := G1 (.cells #[.int .u8 (bits .xor .u8 (x.toNat : Int) y.toNat)] 5)
        exact ⟨(hB.cell (p := ⟨xb, xo + k, none⟩) Hlts.out.1).trans k1, (hB.cell (p := ⟨yb, yo + k, none⟩) Hlts.out.2).trans k2⟩
      go_region_held3 (fun W => W.cell? ⟨xb, xo + k, none⟩ = some (.int .u8 x.toNat) ∧ W.cell? ⟨yb, yo + k, none⟩ = some (.int .u8 y.toNat)) (first | exact G0 | exact G1 _ | exact G4)
        (first | (refine step_app rfl (.tmp 21) (.tmp 31) 24 rfl w1.heap.size 5 Try.underlying24 info8 rfl (by decide) _ (((code key nonce b).take k).map V8) rfl (Hown2.out _) _ [.int .u8 (bits .xor .u8 (x.toNat : Int) y.toNat)] rfl (from_new wr 5 [.int .u8 (bits .xor .u8 (x.toNat : Int) y.toNat)]) (by rw [HX.out]; exact oneC8 [x ^^^ y]) HL.out (by simp; omega) ?_; intro v' w2 hown2 hg2 _; have G4 := HG4.out _ hg2))
      all_goals
        clear G0 G1 G4 HG4 hk'
        go_wp2
        go_roundw
        case rel =>
          rw [HX.out] at hown2
          refine ⟨k + 1, by omega, by go_num, ?_, ?_⟩
          · rw [HT.out, List.map_append]; exact hown2
          · exact below_app (hbel.alloc hszr _).drew (Hown2.out _) hg2 (Nat.le_refl _) (by simp; omega)
        case measure => simp [intOf]; omega
    · obtain rfl : k = n := by omega
      rw [List.take_of_length_le (by rw [code_length, ← HNl.out]; omega)] at hown
      have Hown := Lib.hid hown
      clear hown
      go_wp2
      go_ret
      exact ⟨_, rfl, Hown.out.arg, HB1.out.trans (hbel.mono hs1)⟩
end Go.Proofs.Ytjdpfeagicchnaa
