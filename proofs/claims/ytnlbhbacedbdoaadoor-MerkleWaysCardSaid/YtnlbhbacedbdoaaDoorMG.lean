/-
  THE WALK of the reference's Way.
-/
import Derived.Test.YtnlbhbacedbdoaaDoorMF
namespace Go.Proofs.YtnlbhbacedbdoaaDoor
open Go.RowKit Mk

theorem fourAt_length (l : List Tg) (p : Nat) (h : p < l.length) (hm : l.length % 4 = 0) : (fourAt l p).length = 4 := by
  rw [fourAt, List.length_take, List.length_drop]; omega
def wayTo (key : Tg) (R0 : List Tg) (place k : Nat) : List (List Tg) := (List.range k).map fun i => fourAt (lev key R0 i) (place / 4 ^ i)
theorem wayTo_length (key : Tg) (R0 : List Tg) (place k : Nat) : (wayTo key R0 place k).length = k := by simp [wayTo]
theorem wayTo_succ (key : Tg) (R0 : List Tg) (place k : Nat) : wayTo key R0 place (k + 1) = wayTo key R0 place k ++ [fourAt (lev key R0 k) (place / 4 ^ k)] := by
  rw [wayTo, List.range_succ, List.map_append]; rfl

set_option maxRecDepth 100000 in
set_option maxHeartbeats 2000000 in
theorem RMWay_any (pm : Value) (key : Tg) (l : List Tg) (h32 : ∀ t ∈ l, t.length = 32) (hl : l.length ≤ 70) (p : Nat) (hp : p < l.length) (x : Value) (w : World) (hK : Hm.KeyAt w pm key) (hx : From w x (l.map VS)) :
    Calls Tryd.prog 16 #[pm, x, .int .i64 p] w fun e w' => (∃ (h : Nat) (r : Value), Hid (IsH l.length h) ∧ e = .returned r ∧ Hid (RowsAt w' r (way key l h p))) ∧ Below w.heap.size w w' := by
  obtain ⟨gm, rb, rc, cb, cc, rfl, hin⟩ := hK.named
  obtain ⟨A, cap, rfl, hsx⟩ := hx.parts
  rw [List.length_map] at hsx hx
  obtain ⟨n, hnl⟩ : ∃ n, n = l.length := ⟨_, rfl⟩
  have HNl := Lib.hid hnl
  have HC := Lib.hid (RMRows_any _ key l h32 hl _ w hK hx)
  rw [List.length_map, ← hnl]
  rw [← hnl] at HC hl hp
  clear hsx hx hnl hin
  go_enter Tryd.func16, Tryd.ntmps16
  go_wp2_with fail
  refine HC.out.mono ?_
  rintro e w1 ⟨⟨h, r, HH, h9, rfl, HR⟩, hb1⟩
  have hl1 : l.length ≤ 4 ^ h := by
    have h1 := HH.out.2.1
    have h2 := pow_int h
    have h3 := HNl.out
    omega
  obtain ⟨R0, HR0⟩ : ∃ R, Hid (R = full l h) := ⟨_, rfl⟩
  rw [← HR0.out] at HR
  have HRl : Hid (R0.length = 4 ^ h) := by show _ = _; rw [HR0.out, full_length l h hl1]
  have hp4 : p < 4 ^ h := by have := HNl.out; omega
  obtain ⟨g, c1, rfl, _, hg, hr⟩ := HR.out.at_ (by rw [rowsTo_length]; omega)
  rw [rowsTo_length]
  have HRr := Lib.hid hr
  have HB1 := Lib.hid hb1
  clear HR HC hr hb1 hl1
  go_wp2
  go_loopw [2, 8, 9] (fun pl out i wr => ∃ (k P : Nat), k ≤ h ∧ i = .int .i64 k ∧ pl = .int .i64 P ∧ Hid (P = p / 4 ^ k) ∧ Hid (Rowed VS 34 w1.heap.size wr out (wayTo key R0 p k)) ∧ Hid (Below w1.heap.size w1 wr)) (fun _ _ i _ => 10 - (intOf i).toNat)
  case atStart => exact ⟨0, p, by omega, rfl, rfl, by show _ = _; simp, Rowed.nil, Below.refl _ _⟩
  case round =>
    obtain ⟨k, P, hk, rfl, rfl, HP, HO, HB⟩ := hrel
    have hsr := HB.out.size
    by_cases hlt : k < h
    · obtain ⟨L, HL⟩ : ∃ L, Hid (L = lev key R0 k) := ⟨_, rfl⟩
      obtain ⟨m, hm⟩ : ∃ m, m = 4 ^ (h - (k + 1)) := ⟨_, rfl⟩
      have hLl : L.length = 4 * m := by
        rw [HL.out, lev_length key R0 h HRl.out k (by omega), hm, show h - k = (h - (k + 1)) + 1 by omega, Nat.pow_succ]; omega
      have hPL : P < 4 * m := by
        rw [HP.out, Nat.div_lt_iff_lt_mul (Nat.pow_pos (by omega)), ← hLl, HL.out, lev_length key R0 h HRl.out k (by omega), ← Nat.pow_add, show h - k + k = h by omega]
        exact hp4
      have hm9 : m ≤ 262144 := by
        have h3 : (4 ^ 9 : Nat) = 262144 := by decide
        rw [hm, ← h3]
        exact Nat.pow_le_pow_right (by omega) (by omega)
      obtain ⟨b, o, c, hc, hcl, hb, _, hs⟩ := HRr.out k L (by rw [rowsTo_at key R0 h k hk, HL.out])
      rw [hLl] at hc hcl
      have hcr : wr.cell? ⟨g, k, none⟩ = some (.slice (some ⟨b, o, none⟩) (4 * m) c) := (World.cell?_of_block (w := w1) (HB.out.block g hg)).trans hc
      obtain ⟨a, Ha⟩ : ∃ a, Hid (a = P - P % 4) := ⟨_, rfl⟩
      have ha4 : a + 4 ≤ 4 * m := by have := Ha.out; omega
      have e1 : (P : Int) - (P : Int) % 4 = (a : Int) := by have := Ha.out; omega
      have hsl := fun W => cut_four b o (4 * m) c a (by omega) W
      have HF : Hid (fourAt L P = (L.drop a).take 4) := by show _ = _; rw [Ha.out]; rfl
      have HFl : Hid ((fourAt L P).length = 4) := fourAt_length L P (by omega) (by omega)
      obtain ⟨w6, hw6⟩ : ∃ w6, w6 = wr.alloc (.cells #[.slice (some ⟨b, o + a, none⟩) 4 (c - a)] 34) := ⟨_, rfl⟩
      have hal : Below wr.heap.size wr w6 := by rw [hw6]; exact Joins.below_alloc1 wr _
      have hsz6 : w6.heap.size = wr.heap.size + 1 := by rw [hw6]; simp
      have HRb : Hid (Rowed VS 34 w1.heap.size w6 u8 (wayTo key R0 p k)) := HO.out.below hal
      have HSo : Hid (Sees w6 wr.heap.size 0 [.slice (some ⟨b, o + a, none⟩) (fourAt L P).length (c - a)]) := by
        rw [HFl.out, hw6]; exact (Row.new wr 34 [.slice (some ⟨b, o + a, none⟩) 4 (c - a)]).sees
      have HSt : Hid (Sees w6 b (o + a) ((fourAt L P).map VS)) := by rw [HF.out]; exact sees_four (hs.below (HB.out.trans (hal.mono hsr)) hb) a
      have Hne : Hid (u8.ownBlock ≠ some b) := by
        obtain ⟨vs, ho, _⟩ := HO.out
        intro h
        have := (ho.lt h).1
        omega
      have Hln : Hid ((wayTo key R0 p k).length ≤ 1000) := by show _ ≤ _; rw [wayTo_length]; omega
      have Hc1 : Hid ((fourAt L P).length ≤ c - a) := by show _ ≤ _; rw [HFl.out]; omega
      have HB6 : Hid (Below w1.heap.size w1 w6) := HB.out.trans (hal.mono hsr)
      have Hlt1 : Hid (wr.heap.size < w6.heap.size) := by show _ < _; omega
      have Hlt2 : Hid (b < w6.heap.size) := by show _ < _; omega
      have Hlt3 : Hid (w1.heap.size ≤ w6.heap.size) := by show _ ≤ _; omega
      have HP4 : Hid (P / 4 = p / 4 ^ (k + 1)) := by show _ = _; rw [HP.out, Nat.div_div_eq_div_mul, Nat.pow_succ]
      have HWs : Hid (wayTo key R0 p (k + 1) = wayTo key R0 p k ++ [fourAt L P]) := by show _ = _; rw [wayTo_succ, HL.out, HP.out]
      clear hs hc hLl hm hal HO HB
      go_wp2_with (at_builtin; rw [← hw6]; refine wpList_rowed rfl (.tmp 25) (.tmp 34) 41 rfl Tryd.underlying41 infoSS _ rfl HRb.out wr.heap.size 1 rfl Hlt1.out HSo.out Hlt2.out Hne.out Hc1.out HSt.out Hln.out Hlt3.out ?_; intro v9 w9 HR9 hg9 _)
      go_roundw
      case rel =>
        refine ⟨k + 1, P / 4, by omega, by go_num, by go_num, HP4, ?_, ?_⟩
        · show Rowed _ _ _ _ _ _
          rw [HWs.out]; exact HR9.out
        · obtain ⟨vs, ho, _⟩ := HRb.out
          exact below_app HB6.out ho hg9 (Nat.le_refl _) Hlt3.out
      case measure => simp [intOf]; omega
    · obtain rfl : k = h := by omega
      have HWf : Hid (RowsAt wr u8 (way key l k p)) := by
        show RowsAt _ _ _
        rw [way, ← HR0.out]
        exact HO.out.rows
      have hs1 := HB1.out.size
      go_wp2
      go_ret
      exact ⟨⟨k, u8, HH, rfl, HWf⟩, HB1.out.trans (HB.out.mono hs1)⟩
end Go.Proofs.YtnlbhbacedbdoaaDoor
