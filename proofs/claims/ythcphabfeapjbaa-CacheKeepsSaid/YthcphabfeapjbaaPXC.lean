/-
  THE WALK of Put.
-/
import Derived.Test.YthcphabfeapjbaaPXB
namespace Go.Proofs.Ythcphabfeapjbaa
open Go.RowKit Ca

set_option maxRecDepth 100000 in
set_option maxHeartbeats 2000000 in
theorem CPut_any {w0 : World} {F : Nat → Prop} {D sh room q : Nat} {s : St} (h : Lies w0 F D sh room q s) (i : Int) (v : Value) (bs : List UInt8) (hi : In64 i) (hl : bs.length ≤ 1000) (hA : Arg w0 v bs) :
    Calls Try.prog 9 #[.pointer (some ⟨D, 0, none⟩), .int .i64 i, v] w0 fun e w' => e = .returned (.bool (put sh room s i bs).2) ∧ AfterC Lies w0 F w' D sh room q (put sh room s i bs).1 := by
  obtain ⟨ro, a, ca, ps, rs, vs, hF, hR⟩ := h
  obtain ⟨p, r, hr, HS, HFd, hp1, hp2⟩ := Cat_any hR i
  have HR := Lib.hid hR
  have HFF := Lib.hid hF
  have HA := Lib.hid hA
  have HL9 := Lib.hid hl
  clear hF hA hl
  by_cases h0 : i < 0
  · have HP : Hid (put sh room s i bs = (s, false)) := by show _ = _; unfold put; rw [if_pos h0]
    obtain rfl := hp2 h0
    clear hr hR hp1 hp2 h0
    go_enter Try.func9, Try.ntmps9
    go_wp2_with (refine (HS.out _ (Below.refl _ _)).mono ?_; rintro e w1 ⟨rfl, hb1⟩; have HB1 := Lib.hid hb1; clear hb1 HS HFd)
    go_ret
    rw [HP.out]
    exact ⟨rfl, Leaves.after (Leaves.here (HR.out.below HB1.out) (Chg.below HB1.out _) (Nat.le_refl _)) HFF.out⟩
  have h1 : 0 ≤ i := by omega
  obtain rfl := hp1 h1
  rcases hr with ⟨rfl, hf⟩ | ⟨t, j, ht, hj, rfl, hf⟩
  · -- no entry yet
    obtain ⟨t, hat⟩ : ∃ t, i.toNat % sh = t := ⟨_, rfl⟩
    have ht : t < sh := by rw [← hat]; exact Nat.mod_lt _ hR.sh1.1
    have HAD : Hid (∀ W, Below w0.heap.size w0 W → Calls Try.prog 25 #[.pointer (some ⟨a, t * 2, none⟩), .int .i64 i] W fun e w' => e = .returned (placeP ps t ((place room s t).2.map (· - t * room))) ∧ Leaves W ro w' D a ca sh room q ps rs (added room s t i) ∧ Args W w') := fun W hW => Cadd_at (hR.below hW) ht i h1 hi.2 hat
    have hlt := place_lt2 hR.fit hR.rm1.1 t
    obtain ⟨r3, hr3⟩ : ∃ r, r = (place room s t).2 := ⟨_, rfl⟩
    rw [← hr3] at HAD hlt
    rw [hat] at HS HFd
    cases r3 with
    | none =>
      have HP : Hid (put sh room s i bs = (added room s t i, false)) := by
        show _ = _
        unfold put added
        rw [if_neg h0, hf]
        show (match (place room s (i.toNat % sh)).2 with | some k => _ | none => _) = _
        rw [hat, ← hr3]
      rw [show placeP ps t ((none : Option Nat).map (· - t * room)) = .pointer none from rfl] at HAD
      clear hR hr3 hf hp1 hp2 hlt h0 hat
      go_enter Try.func9, Try.ntmps9
      go_wp2_with (first
        | (refine (HS.out _ (Below.refl _ _)).mono ?_; rintro e w1 ⟨rfl, hb1⟩; have HB1 := Lib.hid hb1; have HF1 := Lib.hid (HFd.out w1 hb1); clear hb1 HS HFd)
        | (refine HF1.out.mono ?_; rintro e w2 ⟨rfl, hb2⟩; have HB2 := Lib.hid (HB1.out.trans (hb2.mono HB1.out.size)); have HA2 := Lib.hid (HAD.out w2 HB2.out); clear hb2 HF1 HAD)
        | (refine HA2.out.mono ?_; rintro e w3 ⟨rfl, hL, hG⟩; have HL := Lib.hid hL; clear hL hG HA2))
      go_ret
      rw [HP.out]
      exact ⟨rfl, Leaves.after (Leaves.then (Chg.below HB2.out _) (fun _ _ => rfl) (fun _ h => .inl h) HL.out) HFF.out⟩
    | some k =>
      have hk := hlt k rfl
      obtain ⟨j, rfl⟩ : ∃ j, k = t * room + j := ⟨k - t * room, by omega⟩
      have hj : j < room := by omega
      have hPE : put sh room s i bs = ({ (place room s t).1 with L := (place room s t).1.L.set (t * room + j) ⟨i, bs, true, 0⟩ }, true) := by
        unfold put
        rw [if_neg h0, hf]
        show (match (place room s (i.toNat % sh)).2 with | some k => _ | none => _) = _
        rw [hat, ← hr3]
      have hkl : t * room + j < (place room s t).1.L.length := (hR.fit.place hR.rm1.1 t).lt ht (by omega)
      have hAE : added room s t i = { (place room s t).1 with L := (place room s t).1.L.set (t * room + j) ⟨i, [], false, 0⟩ } := by unfold added; rw [← hr3]
      have HP : Hid (put sh room s i bs = ({ added room s t i with L := (added room s t i).L.set (t * room + j) { (added room s t i).L.getD (t * room + j) Ent.free with b := bs, flag := true } }, true)) := by
        show _ = _
        rw [hPE, hAE]
        show _ = (({ (place room s t).1 with L := ((place room s t).1.L.set (t * room + j) ⟨i, [], false, 0⟩).set (t * room + j) { ((place room s t).1.L.set (t * room + j) ⟨i, [], false, 0⟩).getD (t * room + j) Ent.free with b := bs, flag := true } } : St), true)
        rw [getD_set _ _ _ _ hkl, if_pos rfl, List.set_set]
      rw [show placeP ps t ((some (t * room + j)).map (· - t * room)) = .pointer (some ⟨ps t, j * 5, none⟩) from by simp] at HAD
      have HFI : Hid (∀ w2 w3 w4 v3, Leaves w2 ro w3 D a ca sh room q ps rs (added room s t i) → Below w3.heap.size w3 w4 → Own w4 w3.heap.size 5 v3 (bs.map V8) → There5 w4 (ps t) (j * 5) ∧ Leaves w2 ro ((w4.setCell ⟨ps t, j * 5 + 2, none⟩ v3).setCell ⟨ps t, j * 5 + 3, none⟩ (.bool true)) D a ca sh room q ps rs (put sh room s i bs).1) := fun w2 w3 w4 v3 hL hb hO => by
        obtain ⟨ro2, vs2, c, k2, n2, C2⟩ := hL
        obtain ⟨g1, g2⟩ := c.fill hb hO HL9.out ht hj
        refine ⟨g1, Leaves.then C2 k2 n2 ?_⟩
        rw [HP.out]
        exact g2
      clear hR hr3 hf hp1 hp2 hlt h0 hat hPE hAE hkl hk
      go_enter Try.func9, Try.ntmps9
      go_wp2_with (first
        | (refine (HS.out _ (Below.refl _ _)).mono ?_; rintro e w1 ⟨rfl, hb1⟩; have HB1 := Lib.hid hb1; have HF1 := Lib.hid (HFd.out w1 hb1); clear hb1 HS HFd)
        | (refine HF1.out.mono ?_; rintro e w2 ⟨rfl, hb2⟩; have HB2 := Lib.hid (HB1.out.trans (hb2.mono HB1.out.size)); have HA2 := Lib.hid (HAD.out w2 HB2.out); clear hb2 HF1 HAD)
        | (refine HA2.out.mono ?_; rintro e w3 ⟨rfl, hL, hG⟩; have HL := Lib.hid hL; have HAA := Lib.hid (hG _ _ (HA.out.below HB2.out)); clear hL hG HA2 HA)
        | (refine (Cclone_any _ bs _ HL9.out HAA.out).mono ?_; rintro e w4 ⟨vc, rfl, HO, hb4⟩; obtain ⟨A3, n3, c3', rfl⟩ := own_formC HO.out; obtain ⟨⟨⟨v0, v1, v2, v3, v4, c0, c1, c2, c3, c4⟩, f0, f1, f2, f3, f4⟩, hL2⟩ := HFI.out w2 w3 w4 _ HL.out hb4 HO.out; have HL2 := Lib.hid hL2; clear hL2 HFI hb4))
      go_ret
      refine ⟨?_, Leaves.after (Leaves.then (Chg.below HB2.out _) (fun _ _ => rfl) (fun _ h => .inl h) HL2.out) HFF.out⟩
      rw [HP.out]
      rfl
  · have HP : Hid (put sh room s i bs = ({ s with L := s.L.set (t * room + j) { s.L.getD (t * room + j) Ent.free with b := bs, flag := true } }, true)) := by show _ = _; unfold put; rw [if_neg h0, hf]
    have HFI : Hid (∀ w2 w4 v3, Below w0.heap.size w0 w2 → Below w2.heap.size w2 w4 → Own w4 w2.heap.size 5 v3 (bs.map V8) → There5 w4 (ps t) (j * 5) ∧ Leaves w0 ro ((w4.setCell ⟨ps t, j * 5 + 2, none⟩ v3).setCell ⟨ps t, j * 5 + 3, none⟩ (.bool true)) D a ca sh room q ps rs (put sh room s i bs).1) := fun w2 w4 v3 hb2 hb hO => by
      obtain ⟨g1, g2⟩ := (HR.out.below hb2).fill hb hO HL9.out ht hj
      refine ⟨g1, Leaves.then (Chg.below hb2 _) (fun _ _ => rfl) (fun _ h => .inl h) ?_⟩
      rw [HP.out]
      exact g2
    clear hR hf hp1 hp2 h0
    go_enter Try.func9, Try.ntmps9
    go_wp2_with (first
      | (refine (HS.out _ (Below.refl _ _)).mono ?_; rintro e w1 ⟨rfl, hb1⟩; have HB1 := Lib.hid hb1; have HF1 := Lib.hid (HFd.out w1 hb1); clear hb1 HS HFd)
      | (refine HF1.out.mono ?_; rintro e w2 ⟨rfl, hb2⟩; have HB2 := Lib.hid (HB1.out.trans (hb2.mono HB1.out.size)); have HAA := Lib.hid (HA.out.below HB2.out); clear hb2 HF1 HA)
      | (refine (Cclone_any _ bs _ HL9.out HAA.out).mono ?_; rintro e w4 ⟨vc, rfl, HO, hb4⟩; obtain ⟨A3, n3, c3', rfl⟩ := own_formC HO.out; obtain ⟨⟨⟨v0, v1, v2, v3, v4, c0, c1, c2, c3, c4⟩, f0, f1, f2, f3, f4⟩, hL2⟩ := HFI.out w2 w4 _ HB2.out hb4 HO.out; have HL2 := Lib.hid hL2; clear hL2 HFI hb4))
    go_ret
    refine ⟨?_, Leaves.after HL2.out HFF.out⟩
    rw [HP.out]
    rfl
end Go.Proofs.Ythcphabfeapjbaa
