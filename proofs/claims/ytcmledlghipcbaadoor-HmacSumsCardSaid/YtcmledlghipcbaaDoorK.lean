/-
  THE WALK of the reference's Summed.
-/
import Derived.Test.YtcmledlghipcbaaDoorJ
import Derived.Test.YtcmledlghipcbaaDoorD
import Derived.Deep.RegionHeld3
namespace Go.Proofs.YtcmledlghipcbaaDoor
open Go.RowKit Sha

theorem four_eq (x : UInt32) :
    [Value.int .u8 ((x.toNat : Int) / 16777216 % 4294967296 % 256), .int .u8 ((x.toNat : Int) / 65536 % 4294967296 % 256), .int .u8 ((x.toNat : Int) / 256 % 4294967296 % 256), .int .u8 ((x.toNat : Int) % 256)] = (b4 x).map V8 := by
  have h := lt32 x
  have e1 := byte_eq' x.toNat 16777216
  have e2 := byte_eq' x.toNat 65536
  have e3 := byte_eq' x.toNat 256
  have e4 := byte_eq x.toNat
  simp only [b4, List.map_cons, List.map_nil, V8]
  rw [← e1, ← e2, ← e3, ← e4]
  have h1 : ((x.toNat : Int) / 16777216 % 4294967296) = (x.toNat : Int) / 16777216 := by omega
  have h2 : ((x.toNat : Int) / 65536 % 4294967296) = (x.toNat : Int) / 65536 := by omega
  have h3 : ((x.toNat : Int) / 256 % 4294967296) = (x.toNat : Int) / 256 := by omega
  rw [h1, h2, h3]
  rfl

theorem cell_app {w w' : World} {B : Nat} {e : TypeId} {v : Value} {ys : List Value} {p : Addr} {u : Value} (h : Own w B e v ys) (hg : w.grownBy w' v.ownBlock) (hB : B ≤ w.heap.size) (hp : p.block < B) (hc : w.cell? p = some u) : w'.cell? p = some u :=
  (World.cell?_of_block (w := w) (hg.block p.block (by omega) (fun e => by have := (h.lt e.symm).1; omega))).trans hc

set_option maxRecDepth 100000 in
set_option maxHeartbeats 1000000 in
theorem Summed_gen (A : Option Addr) (n cap : Nat) (bs : List UInt8) (hn : bs.length = n) (hl : n ≤ 1000000) (rb ro rc : Nat) (s : St) (cb co cc : Nat) (C : List UInt32) (hC : C.length = 64) (w : World)
    (hA : From w (.slice A n cap) (bs.map V8))
    (hrl : rb < w.heap.size) (hr : Sees w rb ro (s.list.map V32)) (hcl : cb < w.heap.size) (hc : Sees w cb co (C.map V32)) :
    Calls Tryd.prog 13 #[.slice A n cap, .slice (some ⟨rb, ro, none⟩) 8 rc, .slice (some ⟨cb, co, none⟩) 64 cc] w fun e w' =>
      ∃ v, e = .returned v ∧ Own w' w.heap.size 5 v ((dig (run C s (filled bs) ((filled bs).length / 64))).map V8) ∧ Below w.heap.size w w' := by
  have HC := Lib.hid hC
  have HLf := Lib.hid (filled_length bs)
  have HMf := Lib.hid (filled_mod bs)
  clear hC
  go_enter Tryd.func13, Tryd.ntmps13
  go_wp2_with fail
  refine (Filled_gen A n cap bs hn hl w hA).mono ?_
  rintro e w1 ⟨v1, rfl, hown1, hb1⟩
  obtain ⟨La, hLa⟩ : ∃ La, La = (filled bs).length := ⟨_, rfl⟩
  rw [← hLa] at HLf HMf
  have hLa1 : La ≤ 1000200 := by rw [HLf.out, hn]; omega
  have hLa2 : 0 < La := by rw [HLf.out]; omega
  obtain ⟨ga, ca, hv, _, hgal, hca, hsee⟩ := hown1.form_cap (by rw [List.length_map, ← hLa]; exact hLa2)
  rw [List.length_map, ← hLa] at hv hca
  rw [hv]
  have HLa := Lib.hid hLa
  have hsz1 := hb1.size
  have HX : Hid (Sees w1 ga 0 ((filled bs).map V8)) := hsee
  have HR : Hid (Sees w1 rb ro (s.list.map V32)) := hr.below hb1 hrl
  have HCs : Hid (Sees w1 cb co (C.map V32)) := hc.below hb1 hcl
  clear hA hr hc hown1 hv hsee hLa HLf hn
  go_wp2
  go_loopw [7, 9] (fun v i wr => ∃ k sb so sc : Nat, 64 * k ≤ La ∧ i = .int .i64 ((64 * k : Nat) : Int) ∧ v = .slice (some ⟨sb, so, none⟩) 8 sc ∧ sb < wr.heap.size ∧ Hid (Sees wr sb so ((run C s (filled bs) k).list.map V32)) ∧ Below w1.heap.size w1 wr) (fun _ i _ => La - (intOf i).toNat)
  case atStart => exact ⟨0, rb, ro, rc, by omega, rfl, rfl, by omega, HR.out, Below.refl _ _⟩
  case round =>
    obtain ⟨k, sb, so, sc, hk, rfl, rfl, hsl, Hs, hbel⟩ := hrel
    have hsz := hbel.size
    by_cases hlt : 64 * k < La
    · have hk64 : 64 * k + 64 ≤ La := by have := HMf.out; omega
      have Hpl : Hid ((((filled bs).drop (64 * k)).take 64).length = 64) := by show _ = _; rw [List.length_take, List.length_drop, ← HLa.out]; omega
      have HP : Hid (Sees wr ga (64 * k) ((((filled bs).drop (64 * k)).take 64).map V8)) := by
        have h2 := (HX.out.below hbel hgal).piece (64 * k) 64
        rwa [← List.map_drop, ← List.map_take, Nat.zero_add] at h2
      have Hrun : Hid (run C s (filled bs) (k + 1) = come C (run C s (filled bs) k) (((filled bs).drop (64 * k)).take 64)) := rfl
      generalize run C s (filled bs) k = sk at *
      generalize ((filled bs).drop (64 * k)).take 64 = piece at *
      have hkc : 64 * k < ca := by omega
      have hkc2 : 64 * k + 64 ≤ ca := by omega
      go_wp2_with fail
      refine (Come_any sb so sc sk ga _ _ piece Hpl.out cb co cc C HC.out wr hsl Hs.out (by omega) HP.out (by omega) (HCs.out.below hbel (by omega))).mono ?_
      rintro e w2 ⟨v2, rfl, hown2, hb2⟩
      obtain ⟨g2, c2, hv2, _, hg2l, hsee2⟩ := hown2.form (by simp [St.list])
      rw [show ((come C sk piece).list.map V32).length = 8 from rfl] at hv2
      rw [hv2]
      clear hown2 hv2
      go_wp2
      go_roundw
      case rel => exact ⟨k + 1, g2, 0, c2, by omega, by go_num, rfl, hg2l, by rw [Hrun.out]; exact hsee2, hbel.trans (hb2.mono hsz)⟩
      case measure => simp [intOf]; omega
    · have hk2 : k = La / 64 := by omega
      have Hfin : Hid (run C s (filled bs) ((filled bs).length / 64) = run C s (filled bs) k) := by show _ = _; rw [← HLa.out, hk2]
      generalize run C s (filled bs) k = t at *
      have hbx : Below w.heap.size w wr := hb1.trans (hbel.mono hsz1)
      obtain ⟨wx, hwx⟩ : ∃ wx : World, wx = wr := ⟨_, rfl⟩
      subst hwx
      clear hbel HX HR HCs hk2
      obtain ⟨q, hq⟩ : ∃ q, q = 64 * k := ⟨_, rfl⟩
      rw [← hq] at hlt ⊢
      clear hq
      go_wp2
      go_loopw [10, 11] (fun out i wr => ∃ j : Nat, j ≤ 8 ∧ i = .int .i64 j ∧ Own wr wx.heap.size 5 out ((bytesOf (t.list.take j)).map V8) ∧ Below wx.heap.size wx wr) (fun _ i _ => 8 - (intOf i).toNat)
      case atStart => exact ⟨0, by omega, rfl, Own.nil _ _ _, Below.refl _ _⟩
      case round =>
        obtain ⟨j, hj, rfl, hown, hbel⟩ := hrel
        have hszr := hbel.size
        by_cases hlt8 : j < 8
        · have gS : wr.cell? ⟨sb, so + j, none⟩ = some (.int .u32 (t.list.getD j 0).toNat) := at32 (Hs.out.below hbel hsl) j (by simpa [St.list] using hlt8)
          have HT := Lib.hid (list_take_succ t j hlt8)
          have HF4 := Lib.hid (four_eq (t.list.getD j 0))
          have HL : Hid (((bytesOf (t.list.take j)).map V8).length + 4 ≤ 100000000) := by show _ ≤ _; rw [List.length_map, bytesOf_length]; simp [St.list]; omega
          generalize t.list.getD j 0 = x at *
          have Hown := Lib.hid hown
          clear hown
          go_wp2
          have gS0 : wr.drew.cell? ⟨sb, so + j, none⟩ = some (.int .u32 x.toNat) := gS
          have gS1 : ∀ o, (wr.alloc o).drew.cell? ⟨sb, so + j, none⟩ = some (.int .u32 x.toNat) := fun o => (World.cell?_alloc_lt wr o _ (by show sb < _; omega)).trans gS
          go_region_held3 (fun w' => w'.cell? ⟨sb, so + j, none⟩ = some (.int .u32 x.toNat)) (first | exact gS0 | exact gS1 _ | exact gS4)
            (first | (refine step_app rfl (.tmp 33) (.tmp 57) 22 rfl wx.heap.size 5 Tryd.underlying22 info8 rfl (by decide) _ ((bytesOf (t.list.take j)).map V8) rfl (Hown.out.alloc _).drew _ [.int .u8 ((x.toNat : Int) / 16777216 % 4294967296 % 256), .int .u8 ((x.toNat : Int) / 65536 % 4294967296 % 256), .int .u8 ((x.toNat : Int) / 256 % 4294967296 % 256), .int .u8 ((x.toNat : Int) % 256)] rfl (from_new wr 5 [.int .u8 ((x.toNat : Int) / 16777216 % 4294967296 % 256), .int .u8 ((x.toNat : Int) / 65536 % 4294967296 % 256), .int .u8 ((x.toNat : Int) / 256 % 4294967296 % 256), .int .u8 ((x.toNat : Int) % 256)]) (HF4.out ▸ oneC8 _) HL.out (by simp; omega) ?_; intro v' w4 hown4 hg4 _; have gS4 : w4.cell? ⟨sb, so + j, none⟩ = some (.int .u32 x.toNat) := cell_app (Hown.out.alloc _).drew hg4 (by simp; omega) (by show sb < _; omega) (gS1 _)))
          all_goals
            go_wp2
            go_roundw
            case rel =>
              rw [HF4.out] at hown4
              refine ⟨j + 1, by omega, by go_num, ?_, ?_⟩
              · rw [HT.out, bytesOf_snoc, List.map_append]; exact hown4
              · exact below_app (hbel.alloc hszr _).drew (Hown.out.alloc _).drew hg4 (Nat.le_refl _) (by simp; omega)
            case measure => simp [intOf]; omega
        · obtain rfl : j = 8 := by omega
          rw [show ((8 : Nat) : Int) = 8 from rfl]
          have hfin : Hid (Own wr w.heap.size 5 u10 ((dig (run C s (filled bs) ((filled bs).length / 64))).map V8)) := by
            rw [Hfin.out]
            exact Own.base hown hbx.size
          clear hown
          go_wp2
          go_ret
          exact ⟨_, rfl, hfin.out, hbx.trans (hbel.mono hbx.size)⟩
end Go.Proofs.YtcmledlghipcbaaDoor
