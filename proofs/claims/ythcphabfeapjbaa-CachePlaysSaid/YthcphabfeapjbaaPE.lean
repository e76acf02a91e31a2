/-
  THE WALK of the reference cache's place.
-/
import Derived.Test.YthcphabfeapjbaaPD
namespace Go.Proofs.Ythcphabfeapjbaa
open Go.RowKit Ca

section
variable {w w' : World} {G : Nat → Prop} {M a b ca cb sh room q : Nat} {s : St}
theorem RefC.hand (h : RefC w G M a b ca cb sh room q s) {i : Nat} (hi : i < sh) : w.cell? ⟨b, i, none⟩ = some (.int .i64 ((s.hands.getD i 0 : Nat) : Int)) := by
  refine h.hnds.head ?_
  rw [List.getElem?_map, List.getElem?_eq_getElem (by rw [h.hlen]; exact hi), List.getD_eq_getElem?_getD, List.getElem?_eq_getElem (by rw [h.hlen]; exact hi)]
  rfl
theorem RefC.handFree (h : RefC w G M a b ca cb sh room q s) {i : Nat} (hi : i < sh) : w.frozen? ⟨b, i, none⟩ = false := h.hnds.headFree (by simpa [h.hlen] using hi)
theorem RefC.handLt (h : RefC w G M a b ca cb sh room q s) {i : Nat} (hi : i < sh) : s.hands.getD i 0 < room := by
  rw [List.getD_eq_getElem?_getD, List.getElem?_eq_getElem (by rw [h.hlen]; exact hi)]
  exact h.hlt _ (List.getElem_mem _)
theorem RefC.putHand (h : RefC w G M a b ca cb sh room q s) {i : Nat} (hi : i < sh) (x : Nat) (hx : x < room) :
    RefC (w.setCell ⟨b, i, none⟩ (.int .i64 (x : Int))) G M a b ca cb sh room q { s with hands := s.hands.set i x } ∧ Chg (fun g _ => G g) w (w.setCell ⟨b, i, none⟩ (.int .i64 (x : Int))) := by
  have h1 := h.hnds.put i (by simpa [h.hlen] using hi) (.int .i64 (x : Int))
  rw [Nat.zero_add, show (s.hands.map fun (h : Nat) => Value.int .i64 (h : Int)).set i (.int .i64 (x : Int)) = (s.hands.set i x).map fun (h : Nat) => Value.int .i64 (h : Int) from List.map_set.symm] at h1
  refine ⟨⟨h.head.putOff (p := ⟨b, i, none⟩) h.Mb _, h.ents.putOff (p := ⟨b, i, none⟩) h.ab _, h1, h.len, by simp [h.hlen], fun y hy => ?_, h.gq, h.pq, h.sh1, h.rm1, h.Ma, h.Mb, h.ab, h.gM, h.ga, h.gb, fun g hg => by have := h.lt g hg; simpa using this⟩, ?_⟩
  · rcases List.mem_or_eq_of_mem_set hy with h2 | h2
    · exact h.hlt y h2
    · rw [h2]; exact hx
  · exact (Chg.refl _ w).setCell (p := ⟨b, i, none⟩) rfl (fun _ => h.gb) (by rw [h.hand hi]; rfl) _
end

set_option maxRecDepth 100000 in
set_option maxHeartbeats 1000000 in
theorem RCplace_any {w0 : World} {G : Nat → Prop} {M sh room q : Nat} {s : St} (h : RefK w0 G M sh room q s) (i : Nat) (hi : i < sh) :
    Calls Try.prog 28 #[.pointer (some ⟨M, 0, none⟩), .int .i64 (i : Int)] w0 fun e w' => e = .returned (.int .i64 (atI (place room s i).2)) ∧ RK w0 G w' M sh room q (place room s i).1 := by
  obtain ⟨a, b, ca, cb, hR⟩ := h
  have HR := Lib.hid hR
  have hbd : sh * room ≤ 64 * 64 := Nat.mul_le_mul hR.sh1.2 hR.rm1.2
  have hib : i * room + room ≤ sh * room := by
    have : (i + 1) * room ≤ sh * room := Nat.mul_le_mul_right _ hi
    rw [Nat.succ_mul] at this; exact this
  obtain ⟨n, hn⟩ : ∃ n, n = sh * room := ⟨_, rfl⟩
  obtain ⟨lo, hlo⟩ : ∃ n, n = i * room := ⟨_, rfl⟩
  have HN := Lib.hid hn
  have HLO := Lib.hid hlo
  have hrm := hR.rm1
  have hsh := hR.sh1
  have c1 := hR.c1
  have c2 := hR.c2
  rw [← hn] at hbd hib c2
  rw [← hlo] at hib
  have hmul : (i : Int) * (room : Int) = (lo : Int) := by rw [hlo]; simp
  clear hR hn hlo
  go_enter Try.func28, Try.ntmps28
  go_wp2

  go_loop [6] (fun k => ∃ j : Nat, j ≤ room ∧ k = .int .i64 ((lo + j : Nat) : Int) ∧ Hid (freeFrom s.L lo room = freeFrom s.L (lo + j) (room - j))) (fun k => lo + room - (intOf k).toNat)
  case atStart => exact ⟨0, by omega, rfl, rfl⟩
  case round =>
    obtain ⟨j, hj, rfl, HF⟩ := hrel
    by_cases hlt : j < room
    · have c0 := HR.out.ent (k := lo + j) (by rw [← HN.out]; omega) 0 (.int .i64 (s.L.getD (lo + j) Ent.free).block) rfl
      rw [Nat.add_zero] at c0
      have Hst : Hid (freeFrom s.L (lo + j) (room - j) = if (s.L.getD (lo + j) Ent.free).block < 0 then some (lo + j) else freeFrom s.L (lo + (j + 1)) (room - (j + 1))) := by
        show _ = _
        rw [show room - j = (room - (j + 1)) + 1 by omega, freeFrom, Nat.add_assoc]
      obtain ⟨bk, hbk⟩ : ∃ x, x = (s.L.getD (lo + j) Ent.free).block := ⟨_, rfl⟩
      rw [← hbk] at c0 Hst
      clear hbk
      by_cases he : bk < 0
      · have HP : Hid (place room s i = (s, some (lo + j))) := by
          show _ = _
          unfold place
          rw [← HLO.out, HF.out, Hst.out, if_pos he]
        go_wp2
        go_ret
        rw [HP.out]
        exact ⟨rfl, ⟨a, b, ca, cb, HR.out⟩, Chg.refl _ _⟩
      · have HF2 : Hid (freeFrom s.L lo room = freeFrom s.L (lo + (j + 1)) (room - (j + 1))) := by show _ = _; rw [HF.out, Hst.out, if_neg he]
        go_wp2
        go_round
        case rel => exact ⟨j + 1, by omega, by go_num, HF2⟩
        case measure => rw [iO10, show intOf (.int .i64 ((lo + j : Nat) : Int)) = ((lo + j : Nat) : Int) from rfl]; omega
    · have hh0 : s.hands.getD i 0 < room := HR.out.handLt hi
      obtain ⟨h0, hh⟩ : ∃ x, x = s.hands.getD i 0 := ⟨_, rfl⟩
      have HH0 := Lib.hid hh
      rw [← hh] at hh0
      have hset : s.hands.set i h0 = s.hands := by
        rw [hh, List.getD_eq_getElem?_getD, List.getElem?_eq_getElem (by rw [HR.out.hlen]; exact hi)]
        exact List.set_getElem_self _
      have HSET := Lib.hid hset
      have hil : i < s.hands.length := by rw [HR.out.hlen]; exact hi
      have HIL := Lib.hid hil
      have HP : Hid (∀ r, sweep lo room (2 * room) s.L h0 = r → place room s i = ({ s with L := r.1, hands := s.hands.set i r.2.1 }, r.2.2)) := fun r hr => by
        unfold place
        rw [← HLO.out, HF.out, show room - j = 0 by omega, ← HH0.out]
        show (_, _) = _
        rw [hr]
      obtain rfl : j = room := by omega
      clear hh hset hil HF
      go_wp2
      go_loopw [7, 8] (fun nn _ wr => ∃ (t hd : Nat) (L' : List Ent), t ≤ 2 * j ∧ nn = .int .i64 (t : Int) ∧ hd < j ∧ Hid (RefC wr G M a b ca cb sh j q { s with L := L', hands := s.hands.set i hd } ∧ Chg (fun g _ => G g) w0 wr ∧ sweep lo j (2 * j) s.L h0 = sweep lo j (2 * j - t) L' hd)) (fun nn _ _ => 2 * j - (intOf nn).toNat)
      case atStart => exact ⟨0, h0, s.L, by omega, rfl, hh0, by rw [HSET.out]; exact HR.out, Chg.refl _ _, rfl⟩
      case round =>
        obtain ⟨t, hd, L', ht, rfl, hhd, HJ⟩ := hrel
        clear c1 c2
        have HR1 := Lib.hid HJ.out.1
        have HC1 := Lib.hid HJ.out.2.1
        have HS1 := Lib.hid HJ.out.2.2
        have c1 := HR1.out.c1
        clear HJ
        by_cases ht2 : t < 2 * j
        · have hgd : (s.hands.set i hd).getD i 0 = hd := by rw [List.getD_eq_getElem?_getD, List.getElem?_set_self HIL.out]; rfl
          have c3 := HR1.out.c3
          have ch := HR1.out.hand hi
          rw [show (({ s with L := L', hands := s.hands.set i hd } : St).hands.getD i 0) = hd from hgd] at ch
          have Hch := Lib.hid ch
          obtain ⟨h1, hh1⟩ : ∃ x, x = (hd + 1) % j := ⟨_, rfl⟩
          have HH1 := Lib.hid hh1
          have Hh1 : Hid (h1 < j) := by show _ < _; rw [hh1]; exact Nat.mod_lt _ (by omega)
          have hrem : Int.tmod ((hd : Int) + 1) (j : Int) = (h1 : Int) := by rw [hh1]; show Int.tmod ((hd + 1 : Nat) : Int) _ = _; rw [Int.ofNat_tmod]
          have hj0 : ¬ j = 0 := by omega
          have hw1 : IntKind.i64.wrap ((hd : Int) + 1) = (hd : Int) + 1 := by rw [IntKind.wrap_i64] <;> omega
          have HL1 : Hid (L'.length = n) := by show _ = _; rw [HN.out]; exact HR1.out.len
          have hk : lo + hd < n := by omega
          have Hk : Hid (lo + hd < sh * j) := by show _ < _; rw [← HN.out]; exact hk
          have Hkl : Hid (lo + hd < L'.length) := by show _ < _; rw [HL1.out]; exact hk
          obtain ⟨e, he⟩ : ∃ e, e = L'.getD (lo + hd) Ent.free := ⟨_, rfl⟩
          obtain ⟨p, hp⟩ : ∃ p, p = e.pins := ⟨_, rfl⟩
          obtain ⟨fl, hfl⟩ : ∃ f, f = e.flag := ⟨_, rfl⟩
          have HE := Lib.hid he
          have HPN := Lib.hid hp
          have HFL := Lib.hid hfl
          have Hpq : Hid (p ≤ q) := by show _ ≤ _; rw [hp, he]; exact HR1.out.pq _ (by rw [List.getD_eq_getElem?_getD, List.getElem?_eq_getElem Hkl.out]; exact List.getElem_mem _)
          have Hst : Hid (sweep lo j (2 * j - t) L' hd = if 0 < p then sweep lo j (2 * j - (t + 1)) L' h1 else if fl = false then (L', h1, some (lo + hd)) else sweep lo j (2 * j - (t + 1)) (L'.set (lo + hd) { e with flag := false }) h1) := by
            show _ = _
            rw [show 2 * j - t = (2 * j - (t + 1)) + 1 by omega, sweep, ← he, ← hp, ← hfl, ← hh1]
          have Hlb : Hid (b < wr.heap.size) := HR1.out.lt _ HR1.out.gb
          have HKeep : Hid (∀ X, Below wr.heap.size wr X → X.cell? ⟨M, 3, none⟩ = some (.slice (some ⟨b, 0, none⟩) sh cb) ∧ X.cell? ⟨M, 1, none⟩ = some (.int .i64 (j : Int))) := fun X hX => ⟨(World.cell?_of_block (w := wr) (hX.block M (HR1.out.lt _ HR1.out.gM))).trans c3, (World.cell?_of_block (w := wr) (hX.block M (HR1.out.lt _ HR1.out.gM))).trans c1⟩
          clear he hp hfl hh1 hgd
          go_wp2_with fail
          clear ch c1 c3
          have hC : Below wr.heap.size wr wr.drew := below_drewN (Below.refl _ _) 1
          refine wp_region_held_drew (S := (fun X => X.cell? ⟨M, 3, none⟩ = some (.slice (some ⟨b, 0, none⟩) sh cb) ∧ X.cell? ⟨M, 1, none⟩ = some (.int .i64 (j : Int)))) (by kernel_rfl) (HKeep.out _ hC) (fun hHeld => ?_)
          generalize wr.drew = wrd at *
          refine wpAnyH_take (i := 0) (oi := ⟨some 54, _, _, _, _, _⟩) (v := ?_) rfl (by kernel_rfl) (by kernel_rfl) (by kernel_rfl) (fun _ _ _ h => h) (Or.inl ⟨by rfl, ?_⟩) hHeld ?_
          rotate_left
          · intro w hSw
            go_simp
            with_reducible rfl
          try go_frame
          refine wpAnyH_take (i := 1) (oi := ⟨some 55, _, _, _, _, _⟩) (v := ?_) rfl (by kernel_rfl) (by kernel_rfl) (by kernel_rfl) (fun _ _ _ h => h) (Or.inl ⟨by rfl, ?_⟩) hHeld ?_
          rotate_left
          · intro w hSw
            go_simp
            with_reducible rfl
          try go_frame
          refine wpAnyH_take (i := 2) (oi := ⟨some 56, _, _, _, _, _⟩) (v := ?_) rfl (by kernel_rfl) (by kernel_rfl) (by kernel_rfl) (fun _ _ _ h => h) (Or.inl ⟨by rfl, ?_⟩) hHeld ?_
          rotate_left
          · intro w hSw
            go_simp
            with_reducible rfl
          try go_frame
          refine wpAnyH_take (i := 3) (oi := ⟨some 57, _, _, _, _, _⟩) (v := ?_) rfl (by kernel_rfl) (by kernel_rfl) (by kernel_rfl) (fun _ _ _ h => h) (Or.inl ⟨by rfl, ?_⟩) hHeld ?_
          rotate_left
          · intro w hSw
            have hc := hSw.1
            go_simp
            with_reducible rfl
          try go_frame
          refine wpAnyH_take (i := 4) (oi := ⟨some 58, _, _, _, _, _⟩) (v := ?_) rfl (by kernel_rfl) (by kernel_rfl) (by kernel_rfl) (fun _ _ _ h => h) (Or.inl ⟨by rfl, ?_⟩) hHeld ?_
          rotate_left
          · intro w hSw
            go_simp
            with_reducible rfl
          try go_frame
          refine wpAnyH_take (i := 5) (oi := ⟨some 59, _, _, _, _, _⟩) (v := ?_) rfl (by kernel_rfl) (by kernel_rfl) (by kernel_rfl) (fun _ _ _ h => h) (Or.inl ⟨by rfl, ?_⟩) hHeld ?_
          rotate_left
          · intro w hSw
            go_simp
            with_reducible rfl
          try go_frame
          refine wpAnyH_take (i := 6) (oi := ⟨some 60, _, _, _, _, _⟩) (v := ?_) rfl (by kernel_rfl) (by kernel_rfl) (by kernel_rfl) (fun _ _ _ h => h) (Or.inl ⟨by rfl, ?_⟩) hHeld ?_
          rotate_left
          · intro w hSw
            go_simp
            with_reducible rfl
          try go_frame
          refine wpAnyH_take (i := 7) (oi := ⟨some 61, _, _, _, _, _⟩) (v := ?_) rfl (by kernel_rfl) (by kernel_rfl) (by kernel_rfl) (fun _ _ _ h => h) (Or.inl ⟨by rfl, ?_⟩) hHeld ?_
          rotate_left
          · intro w hSw
            go_simp
            with_reducible rfl
          try go_frame
          refine wpAnyH_take (i := 8) (oi := ⟨some 62, _, _, _, _, _⟩) (v := ?_) rfl (by kernel_rfl) (by kernel_rfl) (by kernel_rfl) (fun _ _ _ h => h) (Or.inl ⟨by rfl, ?_⟩) hHeld ?_
          rotate_left
          · intro w hSw
            have hc := hSw.1
            go_simp
            with_reducible rfl
          try go_frame
          refine wpAnyH_take (i := 9) (oi := ⟨some 63, _, _, _, _, _⟩) (v := ?_) rfl (by kernel_rfl) (by kernel_rfl) (by kernel_rfl) (fun _ _ _ h => h) (Or.inl ⟨by rfl, ?_⟩) hHeld ?_
          rotate_left
          · intro w hSw
            go_simp
            with_reducible rfl
          try go_frame
          refine wpAnyH_take (i := 10) (oi := ⟨some 64, _, _, _, _, _⟩) (v := ?_) rfl (by kernel_rfl) (by kernel_rfl) (by kernel_rfl) (fun _ _ _ h => h) (Or.inl ⟨by rfl, ?_⟩) hHeld ?_
          rotate_left
          · intro w hSw
            have hi2 : 0 ≤ (i : Int) ∧ (i : Int) < (sh : Int) := by have := hi; omega
            go_simp
            with_reducible rfl
          try go_frame
          refine wpAnyH_take (i := 13) (oi := ⟨some 67, _, _, _, _, _⟩) (v := ?_) rfl (by kernel_rfl) (by kernel_rfl) (by kernel_rfl) (fun _ _ _ h => h) (Or.inl ⟨by rfl, ?_⟩) hHeld ?_
          rotate_left
          · intro w hSw
            go_simp
            with_reducible rfl
          try go_frame
          refine wpAnyH_take (i := 14) (oi := ⟨some 68, _, _, _, _, _⟩) (v := ?_) rfl (by kernel_rfl) (by kernel_rfl) (by kernel_rfl) (fun _ _ _ h => h) (Or.inl ⟨by rfl, ?_⟩) hHeld ?_
          rotate_left
          · intro w hSw
            go_simp
            with_reducible rfl
          try go_frame
          refine wpAnyH_take (i := 15) (oi := ⟨some 69, _, _, _, _, _⟩) (v := ?_) rfl (by kernel_rfl) (by kernel_rfl) (by kernel_rfl) (fun _ _ _ h => h) (Or.inl ⟨by rfl, ?_⟩) hHeld ?_
          rotate_left
          · intro w hSw
            go_simp
            with_reducible rfl
          try go_frame
          refine wpAnyH_take (i := 16) (oi := ⟨some 70, _, _, _, _, _⟩) (v := ?_) rfl (by kernel_rfl) (by kernel_rfl) (by kernel_rfl) (fun _ _ _ h => h) (Or.inl ⟨by rfl, ?_⟩) hHeld ?_
          rotate_left
          · intro w hSw
            have hc := hSw.2
            go_simp
            with_reducible rfl
          try go_frame
          refine wpAnyH_ready (rs := [11]) (by kernel_rfl) (by simp) ?_
          refine AllReadyH.cons (o := ⟨some 65, _, _, _, _, _⟩) rfl (fun K hK => ?_) AllReadyH.nil
          have cL : wrd.cell? ⟨b, i, none⟩ = some (.int .i64 (hd : Int)) := (World.cell?_of_block (w := wr) (hC.block b Hlb.out)).trans Hch.out
          go_simp
          refine hK.out _ _ (HKeep.out _ hC) (fun hHeld => ?_)
          clear hK K
          try go_frame
          clear cL
          refine wpAnyH_take (i := 12) (oi := ⟨some 66, _, _, _, _, _⟩) (v := ?_) rfl (by kernel_rfl) (by kernel_rfl) (by kernel_rfl) (fun _ _ _ h => h) (Or.inl ⟨by rfl, ?_⟩) hHeld ?_
          rotate_left
          · intro w hSw
            go_simp
            with_reducible rfl
          try go_frame
          refine wpAnyH_take (i := 17) (oi := ⟨some 71, _, _, _, _, _⟩) (v := ?_) rfl (by kernel_rfl) (by kernel_rfl) (by kernel_rfl) (fun _ _ _ h => h) (Or.inl ⟨by rfl, ?_⟩) hHeld ?_
          rotate_left
          · intro w hSw
            go_simp
            with_reducible rfl
          try go_frame
          refine wpAnyH_take (i := 18) (oi := ⟨some 72, _, _, _, _, _⟩) (v := ?_) rfl (by kernel_rfl) (by kernel_rfl) (by kernel_rfl) (fun _ _ _ h => h) (Or.inl ⟨by rfl, ?_⟩) hHeld ?_
          rotate_left
          · intro w hSw
            have hi2 : 0 ≤ (i : Int) ∧ (i : Int) < (sh : Int) := by have := hi; omega
            go_simp
            with_reducible rfl
          try go_frame
          refine wpAnyH_ready (rs := [19]) (by kernel_rfl) (by simp) ?_
          refine AllReadyH.cons (o := ⟨none, _, _, _, _, _⟩) rfl (fun K hK => ?_) AllReadyH.nil
          have hRc := (HR1.out.stay (Chg.below hC fun _ _ => False) fun _ _ _ x => x)
          obtain ⟨hR2, hC2⟩ := hRc.putHand hi h1 Hh1.out
          have cs := (World.cell?_of_block (w := wr) (hC.block b Hlb.out)).trans Hch.out
          have fs := hRc.handFree hi
          have HR2 := Lib.hid hR2
          have HC2 : Hid (Chg (fun g _ => G g) w0 (wrd.setCell ⟨b, i, none⟩ (.int .i64 (h1 : Int)))) := (HC1.out.then (Chg.below hC _)).then hC2
          clear hR2 hC2 hRc
          go_simp
          refine hK.out _ _ ⟨HR2.out.c3, HR2.out.c1⟩ (fun hHeld => ?_)
          clear hK K cs fs
          try go_frame
          refine wpAnyH_done (by kernel_rfl) ?_ _
          clear hHeld hC HKeep Hch Hlb
          generalize wrd.setCell ⟨b, i, none⟩ (.int .i64 (h1 : Int)) = w9 at *
          have HR3 : Hid (RefC w9 G M a b ca cb sh j q { s with L := L', hands := s.hands.set i h1 }) := by
            show RefC _ _ _ _ _ _ _ _ _ _ _
            have := HR2.out
            simp only [List.set_set] at this
            exact this
          have cA := HR3.out.c2
          rw [← HN.out] at cA
          have cp := HR3.out.ent (k := lo + hd) Hk.out 3 (.int .i64 (p : Int)) (by show (L'.getD (lo + hd) Ent.free).cells[3]? = _; rw [← HE.out, HPN.out]; rfl)
          have cf := HR3.out.ent (k := lo + hd) Hk.out 2 (.bool fl) (by show (L'.getD (lo + hd) Ent.free).cells[2]? = _; rw [← HE.out, HFL.out]; rfl)
          have ff := HR3.out.entFree (k := lo + hd) Hk.out 2 (by omega)
          have HLW : Hid ((lo : Int) + (hd : Int) = ((lo + hd : Nat) : Int)) := by show _ = _; omega
          rw [HLW.out]
          clear HR2 hrem hw1 hj0
          by_cases hp0 : 0 < p
          · go_wp2
            go_round
            case rel => exact ⟨t + 1, h1, L', by omega, by go_num, Hh1.out, HR3.out, HC2.out, by rw [HS1.out, Hst.out, if_pos hp0]⟩
            case measure => rw [iO10, show intOf (.int .i64 (t : Int)) = (t : Int) from rfl]; omega
          · cases fl with
            | false =>
              have HF : Hid (place j s i = ({ s with L := L', hands := s.hands.set i h1 }, some (lo + hd))) := HP.out (L', h1, some (lo + hd)) (by rw [HS1.out, Hst.out, if_neg hp0, if_pos rfl])
              go_wp2
              go_ret
              rw [HF.out]
              exact ⟨rfl, ⟨a, b, ca, cb, HR3.out⟩, HC2.out⟩
            | true =>
              obtain ⟨hR4, hC4⟩ := HR3.out.putEnt (k := lo + hd) (j := 2) Hk.out (by omega) (.bool false) { e with flag := false } (by show _ = (L'.getD (lo + hd) Ent.free).cells.set _ _; rw [← HE.out]; rfl) q (Nat.le_refl _) (by show e.pins ≤ q; rw [← HPN.out]; exact Hpq.out)
              have HR4 := Lib.hid hR4
              have HC4 := Lib.hid (HC2.out.then hC4)
              clear hR4 hC4
              go_wp2
              go_round
              case rel => exact ⟨t + 1, h1, L'.set (lo + hd) { e with flag := false }, by omega, by go_num, Hh1.out, HR4.out, HC4.out, by rw [HS1.out, Hst.out, if_neg hp0, if_neg (by simp)]⟩
              case measure => rw [iO10, show intOf (.int .i64 (t : Int)) = (t : Int) from rfl]; omega
        · have HF : Hid (place j s i = ({ s with L := L', hands := s.hands.set i hd }, none)) := HP.out (L', hd, none) (by rw [HS1.out, show 2 * j - t = 0 by omega, sweep])
          obtain rfl : t = 2 * j := by omega
          go_wp2
          go_ret
          rw [HF.out]
          exact ⟨rfl, ⟨a, b, ca, cb, HR1.out⟩, HC1.out⟩
end Go.Proofs.Ythcphabfeapjbaa
