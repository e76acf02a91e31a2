/-
  THE WALK of the reference's Bits.
-/
import Derived.Test.YtoblnmmbcdokgaaFA
import Derived.Test.YtoblnmmbcdokgaaKA
namespace Go.Proofs.Ytoblnmmbcdokgaa
open Go.RowKit Bm

theorem infoB1 : (Try.prog.info? 4).map (fun i => (i.zero, i.size, i.bytes)) = some (some (.bool false), 1, 1) := by kernel_rfl
theorem oneCB (l : List Bool) : ∀ y ∈ l.map Value.bool, y.oneCell' = true := fun y hy => by obtain ⟨x, _, rfl⟩ := List.mem_map.1 hy; rfl
/-- The first m bits of bytes. -/
def bitsN (b : List UInt8) (m : Nat) : List Bool := (List.range m).map (tb b)
theorem bitsN_length (b : List UInt8) (m : Nat) : (bitsN b m).length = m := by simp [bitsN]
theorem bitsN_succ (b : List UInt8) (m : Nat) : bitsN b (m + 1) = bitsN b m ++ [tb b m] := bits_snoc b m
theorem bt_half (x : UInt8) (j : Nat) : (((x.toNat / 2 ^ j : Nat) : Int) % 2 == 1) = bt x j := by
  unfold bt
  rcases Nat.mod_two_eq_zero_or_one (x.toNat / 2 ^ j) with h | h
  · rw [h, show (((x.toNat / 2 ^ j : Nat) : Int) % 2) = 0 by omega]; rfl
  · rw [h, show (((x.toNat / 2 ^ j : Nat) : Int) % 2) = 1 by omega]; rfl

set_option maxRecDepth 100000 in
set_option maxHeartbeats 1000000 in
theorem RBits_any (b : List UInt8) (hl : b.length ≤ 1000) (v : Value) (w : World) (h : Arg w v b) :
    Calls Try.prog 6 #[v] w fun e w' => ∃ r, e = .returned r ∧ Hid (Own w' w.heap.size 4 r ((bitsOf b).map Value.bool)) ∧ Below w.heap.size w w' := by
  obtain ⟨A, cap, rfl, hs⟩ := (arg_from h).parts
  rw [List.length_map] at hs ⊢
  obtain ⟨n, hnl⟩ : ∃ n, n = b.length := ⟨_, rfl⟩
  rw [← hnl] at hs hl ⊢
  have HS := Lib.hid hs
  have HNl := Lib.hid hnl
  clear hs hnl h
  go_enter Try.func6, Try.ntmps6
  go_wp2
  go_loopw [3, 4, 5, 6] (fun out i _ _ wr => ∃ k : Nat, k ≤ n ∧ i = .int .i64 k ∧ Hid (Own wr w.heap.size 4 out ((bitsN b (8 * k)).map Value.bool)) ∧ Hid (Below w.heap.size w wr)) (fun _ i _ _ _ => n - (intOf i).toNat)
  case atStart => exact ⟨0, by omega, rfl, Own.nil _ _ _, Below.refl _ _⟩
  case round =>
    obtain ⟨k, hk, rfl, Hown, Hbel⟩ := hrel
    by_cases hlt : k < n
    · obtain ⟨bb, o, rfl, hb, hsee⟩ := HS.out (by omega)
      have hx := at8 (hsee.below Hbel.out hb) k (by rw [← HNl.out]; exact hlt)
      have Htb := Lib.hid (tb_at b k)
      clear hsee HS
      generalize b.getD k 0 = x at *
      have hx8 := lt8 x
      go_wp2
      go_loopw [3, 5, 6] (fun out nn kk wr => ∃ j y : Nat, j ≤ 8 ∧ kk = .int .i64 j ∧ nn = .int .u8 y ∧ y < 256 ∧ Hid (y = x.toNat / 2 ^ j) ∧ Hid (Own wr w.heap.size 4 out ((bitsN b (8 * k + j)).map Value.bool)) ∧ Hid (Below w.heap.size w wr)) (fun _ _ kk _ => 8 - (intOf kk).toNat)
      case atStart => exact ⟨0, x.toNat, by omega, rfl, rfl, hx8, by show _ = _; simp, Hown, Hbel⟩
      case round =>
        rename World => w2
        clear hx Hown Hbel
        obtain ⟨j, y, hj, rfl, rfl, hy, Hy, Hown, Hbel⟩ := hrel
        by_cases hj8 : j < 8
        · have HB : Hid (((y : Int) % 2 == 1) = tb b (8 * k + j)) := by
            show _ = _
            rw [Hy.out, bt_half, Htb.out j hj8]
          have HL : Hid (((bitsN b (8 * k + j)).map Value.bool).length + 1 ≤ 100000000) := by show _ ≤ _; rw [List.length_map, bitsN_length]; omega
          have HB2 := Lib.hid (Hbel.out.size)
          go_wp2_with (at_builtin; refine wpList_app rfl (.tmp 21) (.tmp 25) 24 rfl w.heap.size 4 Try.underlying24 infoB1 rfl (by decide) _ ((bitsN b (8 * k + j)).map Value.bool) rfl (Hown.out.alloc _) _ [.bool ((y : Int) % 2 == 1)] rfl (from_new w2 4 [.bool ((y : Int) % 2 == 1)]) (oneCB [(y : Int) % 2 == 1]) HL.out (by have := HB2.out; simp; omega) ?_; intro v' w3 hown3 hg3 _)
          have HO3 : Hid (Own w3 w.heap.size 4 v' ((bitsN b (8 * k + (j + 1))).map Value.bool)) := by
            rw [← Nat.add_assoc, bitsN_succ, List.map_append, ← HB.out]
            exact hown3
          have HB3 : Hid (Below w.heap.size w w3) := below_app (Hbel.out.alloc Hbel.out.size _) (Hown.out.alloc _) hg3 (Nat.le_refl _) (by have := HB2.out; simp; omega)
          clear hown3 hg3 Hown Hbel HB HL HB2
          have Hy' : Hid (y / 2 = x.toNat / 2 ^ (j + 1)) := by show _ = _; rw [Hy.out, Nat.pow_succ, Nat.div_div_eq_div_mul]
          go_wp2
          go_roundw
          case rel => exact ⟨j + 1, y / 2, by omega, by go_num, by rw [Int.natCast_ediv]; rfl, by omega, Hy', HO3, HB3⟩
          case measure => simp [intOf] <;> omega
        · obtain rfl : j = 8 := by omega
          go_wp2
          go_roundw
          case rel => exact ⟨k + 1, by omega, by go_num, by rw [show 8 * (k + 1) = 8 * k + 8 by omega]; exact Hown, Hbel⟩
          case measure => simp [intOf] <;> omega
    · obtain rfl : k = n := by omega
      go_wp2
      go_ret
      have : bitsOf b = bitsN b (8 * k) := by rw [HNl.out]; rfl
      rw [this]
      exact ⟨_, rfl, Hown, Hbel.out⟩

/-- A slice of bytes that lie from block B on. -/
def ArgHi (w : World) (B : Nat) (v : Value) (bs : List UInt8) : Prop :=
  (∃ A, v = .slice A 0 0 ∧ bs = []) ∨ ∃ b o cap, v = .slice (some ⟨b, o, none⟩) bs.length cap ∧ B ≤ b ∧ b < w.heap.size ∧ bs.length ≤ cap ∧ Sees w b o (bs.map V8)
theorem ArgHi.arg {w : World} {B : Nat} {v : Value} {bs : List UInt8} (h : ArgHi w B v bs) : Arg w v bs := by
  rcases h with h | ⟨b, o, cap, e, _, hl, hc, hs⟩
  · exact .inl h
  · exact .inr ⟨b, o, cap, e, hl, hc, hs⟩
theorem ArgHi.below {w w' : World} {B : Nat} {v : Value} {bs : List UInt8} (h : ArgHi w B v bs) (hb : Below w.heap.size w w') : ArgHi w' B v bs := by
  rcases h with h | ⟨b, o, cap, e, hB, hl, hc, hs⟩
  · exact .inl h
  · exact .inr ⟨b, o, cap, e, hB, Nat.lt_of_lt_of_le hl hb.size, hc, hs.below hb hl⟩
/-- A cell below is turned. -/
theorem ArgHi.turned {w : World} {B : Nat} {v : Value} {bs : List UInt8} (h : ArgHi w B v bs) {p : Addr} (hp : p.block < B) (u : Value) : Arg (w.setCell p u) v bs := by
  rcases h with h | ⟨b, o, cap, e, hB, hl, hc, hs⟩
  · exact .inl h
  · exact .inr ⟨b, o, cap, e, by simpa [World.setCell] using hl, hc, hs.setCell (by omega) u⟩
theorem Own.argHi {w : World} {B : Nat} {v : Value} {bs : List UInt8} (h : Own w B 5 v (bs.map V8)) : ArgHi w B v bs := by
  rcases h.2 with ⟨rfl, h0⟩ | ⟨g, cap, cur, rfl, hB, hg, hc, _⟩
  · exact .inl ⟨none, rfl, List.eq_nil_of_length_eq_zero (by simpa using h0)⟩
  · rw [List.length_map] at hc
    refine .inr ⟨g, 0, cap, by rw [List.length_map], hB, (Array.getElem?_eq_some_iff.1 hg).1, hc, fun j u hu => ?_⟩
    have := World.ownsRow.cells h (g := g) rfl j u hu
    rwa [add_off] at this
end Go.Proofs.Ytoblnmmbcdokgaa
