/-
  THE WALKS of the reference's with, Key.Sum and Joined.
-/
import Derived.Test.YtcmledlghipcbaaDoorTG
namespace Go.Proofs.YtcmledlghipcbaaDoor
open Go.RowKit Sha

set_option maxRecDepth 100000 in
set_option maxHeartbeats 400000 in
theorem with_any (p : Value) (key : List UInt8) (m : UInt8) (w : World) (h : KeyAt w p key) :
    Calls Tryd.prog 17 #[p, .int .u8 m.toNat] w fun e w' => ∃ v, e = .returned v ∧ Own w' w.heap.size 5 v ((xorK (fullK key) m).map V8) ∧ Below w.heap.size w w' := by
  obtain ⟨g, kb, kc, rb, rc, cb, cc, rfl, hg, hs, hkb, hkc, hk, _⟩ := h
  have HC : Hid (w.cell? ⟨g, 0, none⟩ = some (.slice (some ⟨kb, 0, none⟩) 64 kc)) := hs 0 _ rfl
  have HK := Lib.hid hk
  have HKl := Lib.hid (fullK_length key)
  clear hs hk
  generalize fullK key = k at *
  go_enter Tryd.func17, Tryd.ntmps17
  go_wp2
  go_loopw [5, 6] (fun v i wr => ∃ j : Nat, j ≤ 64 ∧ i = .int .i64 j ∧ Own wr w.heap.size 5 v ((xorK (k.take j) m).map V8) ∧ Below w.heap.size w wr) (fun _ i _ => 64 - (intOf i).toNat)
  case atStart => exact ⟨0, by omega, rfl, Own.nil _ _ _, Below.refl _ _⟩
  case round =>
    obtain ⟨j, hj, rfl, hown, hbel⟩ := hrel
    have hszr := hbel.size
    by_cases hlt : j < 64
    · have hc : wr.cell? ⟨g, 0, none⟩ = some (.slice (some ⟨kb, 0, none⟩) 64 kc) := (World.cell?_of_block (w := w) (hbel.block g hg)).trans HC.out
      have hx : wr.cell? ⟨kb, j, none⟩ = some (.int .u8 (k.getD j 0).toNat) := by
        have := at8 (HK.out.below hbel hkb) j (by rw [HKl.out]; exact hlt)
        rwa [Nat.zero_add] at this
      have HT2 := Lib.hid (xorK_take k m j (by rw [HKl.out]; exact hlt))
      have HXr := Lib.hid (xor8 (k.getD j 0) m)
      have HL : Hid (((xorK (k.take j) m).map V8).length + 1 ≤ 100000000) := by show _ ≤ _; rw [List.length_map, xorK_length, List.length_take]; omega
      generalize k.getD j 0 = x at *
      have Hown := Lib.hid hown
      clear hown
      go_wp2_with (at_builtin; refine wpList_app rfl (.tmp 11) (.tmp 21) 22 rfl w.heap.size 5 Tryd.underlying22 info8 rfl (by decide) _ ((xorK (k.take j) m).map V8) rfl (Hown.out.alloc _) _ [.int .u8 (bits .xor .u8 (x.toNat : Int) m.toNat)] rfl (from_new wr 5 [.int .u8 (bits .xor .u8 (x.toNat : Int) m.toNat)]) (by rw [HXr.out]; exact oneC8 [x ^^^ m]) HL.out (by simp; omega) ?_; intro v' w2 hown2 hg2 _)
      go_roundw
      case rel =>
        refine ⟨j + 1, by omega, by go_num, ?_, ?_⟩
        · rw [HXr.out] at hown2
          rw [HT2.out, List.map_append]; exact hown2
        · exact below_app (hbel.alloc (by omega) _) (Hown.out.alloc _) hg2 (Nat.le_refl _) (by simp; omega)
      case measure => simp [intOf]; omega
    · obtain rfl : j = 64 := by omega
      rw [show ((64 : Nat) : Int) = 64 from rfl]
      rw [List.take_of_length_le (by rw [HKl.out]; omega)] at hown
      have Hown := Lib.hid hown
      clear hown
      go_wp2
      go_ret
      exact ⟨_, rfl, Hown.out, hbel⟩

set_option maxRecDepth 100000 in
set_option maxHeartbeats 400000 in
theorem Joined_any (A : Option Addr) (n cap : Nat) (ps : List (List UInt8)) (hs : Small ps) (w : World) (h : Parts w (.slice A n cap) ps) :
    Calls Tryd.prog 11 #[.slice A n cap] w fun e w' => ∃ v, e = .returned v ∧ Own w' w.heap.size 5 v ((joined ps).map V8) ∧ Below w.heap.size w w' := by
  have HS := Lib.hid hs
  have HP := Lib.hid h
  have HL := Lib.hid h.len
  have hn : n ≤ 100 := by rw [← h.len]; exact hs.1
  clear hs h
  go_enter Tryd.func11, Tryd.ntmps11
  go_wp2
  go_loopw [3, 4, 5] (fun t i _ wr => ∃ k : Nat, k ≤ n ∧ i = .int .i64 k ∧ Own wr w.heap.size 5 t ((joined (ps.take k)).map V8) ∧ Below w.heap.size w wr) (fun _ i _ _ => n - (intOf i).toNat)
  case atStart => exact ⟨0, by omega, rfl, Own.nil _ _ _, Below.refl _ _⟩
  case round =>
    obtain ⟨k, hk, rfl, hown, hbel⟩ := hrel
    have hszr := hbel.size
    have Hown := Lib.hid hown
    clear hown
    by_cases hlt : k < n
    · obtain ⟨b, o, A', c', p, rfl, hbl, hpj, hcell0, harg⟩ := HP.out.at_ k hlt
      have hcell : wr.cell? ⟨b, o + k, none⟩ = some (.slice A' p.length c') := (World.cell?_of_block (w := w) (hbel.block b hbl)).trans hcell0
      have hpl : p.length ≤ 1000 := HS.out.part hpj
      have HT := Lib.hid (joined_take ps k p hpj)
      have HA := Lib.hid harg
      have HC0 := Lib.hid hcell0
      clear hpj harg hcell0
      obtain ⟨m, hm⟩ : ∃ m, m = p.length := ⟨_, rfl⟩
      rw [← hm] at hcell hpl HA HT HC0
      have HM := Lib.hid hm
      clear hm
      have HF4 := Lib.hid (lenB_cells m hpl)
      have HL1 : Hid (((joined (ps.take k)).map V8).length + 4 ≤ 100000000) := by show _ ≤ _; rw [List.length_map]; have := HS.out.take k; omega
      have HL2 : Hid (((joined (ps.take k)).map V8 ++ (lenB m).map V8).length + (p.map V8).length ≤ 100000000) := by show _ ≤ _; rw [List.length_append, List.length_map, List.length_map, List.length_map, lenB_length, ← HM.out]; have := HS.out.take k; omega
      have H1 := Lib.hid (oneC8 p)
      go_wp2_with (at_builtin; first
        | (refine wpList_app rfl (.tmp 17) (.tmp 29) 22 rfl w.heap.size 5 Tryd.underlying22 info8 rfl (by decide) _ ((joined (ps.take k)).map V8) rfl (Hown.out.alloc _) _ [.int .u8 ((m : Int) / 16777216), .int .u8 ((m : Int) / 65536), .int .u8 ((m : Int) / 256), .int .u8 ((m : Int) % 256)] rfl (from_new wr 5 [.int .u8 ((m : Int) / 16777216), .int .u8 ((m : Int) / 65536), .int .u8 ((m : Int) / 256), .int .u8 ((m : Int) % 256)]) (by rw [HF4.out]; exact oneC8 _) HL1.out (by simp; omega) ?_; intro v2 w2 hown2 hg2 _; rw [HF4.out] at hown2; have Hown2 := Lib.hid hown2; have hb2 : Below w.heap.size w w2 := below_app (hbel.alloc hszr _) (Hown.out.alloc _) hg2 (Nat.le_refl _) (by simp; omega); have hsz2 := hb2.size; have HF2 : Hid (From w2 (.slice A' m c') (p.map V8)) := arg_from (HA.out.below hb2); have hcell2 : w2.cell? ⟨b, o + k, none⟩ = some (.slice A' m c') := (World.cell?_of_block (w := w) (hb2.block b hbl)).trans HC0.out; clear hown2 hg2)
        | (refine wpList_app rfl (.tmp 31) (.tmp 35) 22 rfl w.heap.size 5 Tryd.underlying22 info8 rfl (by decide) _ ((joined (ps.take k)).map V8 ++ (lenB m).map V8) rfl Hown2.out _ (p.map V8) rfl HF2.out H1.out HL2.out (by omega) ?_; intro v3 w3 hown3 hg3 _))
      go_roundw
      case rel =>
        refine ⟨k + 1, by omega, by go_num, ?_, ?_⟩
        · rw [HT.out, List.map_append, List.map_append, ← List.append_assoc]; exact hown3
        · exact below_app hb2 Hown2.out hg3 (Nat.le_refl _) (by omega)
      case measure => simp [intOf]; omega
    · obtain rfl : k = n := by omega
      have hfin : ps.take k = ps := List.take_of_length_le (by rw [HL.out]; omega)
      rw [hfin] at Hown
      clear hfin
      go_wp2
      go_ret
      exact ⟨_, rfl, Hown.out, hbel⟩
end Go.Proofs.YtcmledlghipcbaaDoor
