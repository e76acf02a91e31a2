/-
  THE WALKS of the reference cache's Get, Pin, Drop, Ints (Pin's region by wip/mkcref.py).
-/
import Derived.Test.YthcphabfeapjbaaPB
namespace Go.Proofs.Ythcphabfeapjbaa
open Go.RowKit Ca

section
variable {w w' : World} {G : Nat → Prop} {M a b ca cb sh room q : Nat} {s : St}
theorem RefC.putGets (h : RefC w G M a b ca cb sh room q s) : RefC (w.setCell ⟨M, 4, none⟩ (.int .i64 ((s.gets + 1 : Nat) : Int))) G M a b ca cb sh room (q + 1) { s with gets := s.gets + 1 } ∧ Chg (fun g _ => G g) w (w.setCell ⟨M, 4, none⟩ (.int .i64 ((s.gets + 1 : Nat) : Int))) := by
  have h1 := h.head.put 4 (by simp) (.int .i64 ((s.gets + 1 : Nat) : Int))
  rw [Nat.zero_add] at h1
  refine ⟨⟨h1, h.ents.putOff (p := ⟨M, 4, none⟩) (fun e => h.Ma e.symm) _, h.hnds.putOff (p := ⟨M, 4, none⟩) (fun e => h.Mb e.symm) _, h.len, h.hlen, h.hlt, ⟨Nat.succ_le_succ h.gq.1, Nat.le_trans h.gq.2 (Nat.le_succ _)⟩, fun e he => Nat.le_trans (h.pq e he) (Nat.le_succ _), h.sh1, h.rm1, h.Ma, h.Mb, h.ab, h.gM, h.ga, h.gb, fun g hg => by have := h.lt g hg; simpa using this⟩, ?_⟩
  exact (Chg.refl _ w).setCell (p := ⟨M, 4, none⟩) rfl (fun _ => h.gM) (by rw [h.c4]; rfl) _
theorem RefC.putHits (h : RefC w G M a b ca cb sh room q s) (hh : s.hits + 1 ≤ s.gets) : RefC (w.setCell ⟨M, 5, none⟩ (.int .i64 ((s.hits + 1 : Nat) : Int))) G M a b ca cb sh room q { s with hits := s.hits + 1 } ∧ Chg (fun g _ => G g) w (w.setCell ⟨M, 5, none⟩ (.int .i64 ((s.hits + 1 : Nat) : Int))) := by
  have h1 := h.head.put 5 (by simp) (.int .i64 ((s.hits + 1 : Nat) : Int))
  rw [Nat.zero_add] at h1
  refine ⟨⟨h1, h.ents.putOff (p := ⟨M, 5, none⟩) (fun e => h.Ma e.symm) _, h.hnds.putOff (p := ⟨M, 5, none⟩) (fun e => h.Mb e.symm) _, h.len, h.hlen, h.hlt, ⟨h.gq.1, hh⟩, h.pq, h.sh1, h.rm1, h.Ma, h.Mb, h.ab, h.gM, h.ga, h.gb, fun g hg => by have := h.lt g hg; simpa using this⟩, ?_⟩
  exact (Chg.refl _ w).setCell (p := ⟨M, 5, none⟩) rfl (fun _ => h.gM) (by rw [h.c5]; rfl) _
end
/-- What a call of the reference's leaves. -/
def RK (w : World) (G : Nat → Prop) (w' : World) (M sh room q : Nat) (s : St) : Prop := RefK w' G M sh room q s ∧ Chg (fun g _ => G g) w w'

set_option maxRecDepth 100000 in
set_option maxHeartbeats 1000000 in
theorem RCGet_any {w0 : World} {G : Nat → Prop} {M sh room q : Nat} {s : St} (h : RefK w0 G M sh room q s) (hq : q ≤ 1000000) (i : Int) :
    Calls Try.prog 12 #[.pointer (some ⟨M, 0, none⟩), .int .i64 i] w0 fun e w' => e = .returned (.tuple #[VSt (getC s i).2.1, .bool (getC s i).2.2]) ∧ RK w0 G w' M sh room (q + 1) (getC s i).1 := by
  obtain ⟨a, b, ca, cb, hR⟩ := h
  obtain ⟨hR1, hC1⟩ := hR.putGets
  have c4 := hR.c4
  have f4 := hR.free 4 (by omega)
  have hg := hR.gq.1
  obtain ⟨g1, hg1⟩ : ∃ g, g = s.gets + 1 := ⟨_, rfl⟩
  have e1 : (s.gets : Int) + 1 = (g1 : Int) := by omega
  obtain ⟨s1, hs1⟩ : ∃ t, t = { s with gets := s.gets + 1 } := ⟨_, rfl⟩
  have hL1 : s1.L = s.L := by rw [hs1]
  have hG1 : s1.gets = g1 := by rw [hs1, hg1]
  have hH1 : s1.hits = s.hits := by rw [hs1]
  rw [← hs1, ← hg1] at hR1
  rw [← hg1] at hC1
  have HR1 := Lib.hid hR1
  have HC1 := Lib.hid hC1
  have HL1 := Lib.hid hL1
  have HG1 := Lib.hid hG1
  have HH1 := Lib.hid hH1
  have Hg1 := Lib.hid hg1
  have Hh : Hid (s.hits ≤ s.gets) := hR.gq.2
  have HS1 := Lib.hid hs1
  clear hR hR1 hC1 hs1 hL1 hG1 hH1 hg1
  go_enter Try.func12, Try.ntmps12
  go_wp2_with fail
  refine (RCAt_any ⟨a, b, ca, cb, HR1.out⟩ i).mono ?_
  rintro e w1 ⟨rfl, rfl⟩
  rw [HL1.out]
  clear c4 f4 e1
  cases hf : find s.L i with
  | none =>
    have HF : Hid (getC s i = (s1, [], false)) := by show _ = _; unfold getC; rw [hf, HS1.out]
    rw [show atI none = -1 from rfl]
    go_wp2
    refine bodyPost_ret (results_tmp2 rfl _ _ _) rfl ?_
    rw [HF.out]
    exact ⟨rfl, ⟨a, b, ca, cb, HR1.out⟩, HC1.out⟩
  | some k =>
    obtain ⟨_, hkl, _⟩ := find_some hf
    have Hkn : Hid (k < sh * room) := by show _ < _; rw [← HR1.out.len, HL1.out]; exact hkl
    rw [show atI (some k) = (k : Int) from rfl]
    generalize w0.setCell ⟨M, 4, none⟩ (.int .i64 (g1 : Int)) = w1 at *
    obtain ⟨hR2, hC2⟩ := HR1.out.putHits (by rw [HG1.out, HH1.out, Hg1.out]; exact Nat.succ_le_succ Hh.out)
    have c5 := HR1.out.c5
    have f5 := HR1.out.free 5 (by omega)
    obtain ⟨h1, hh1⟩ : ∃ x, x = s1.hits + 1 := ⟨_, rfl⟩
    have e5 : (s1.hits : Int) + 1 = (h1 : Int) := by omega
    have hhb : h1 ≤ 1000001 := by have := HR1.out.gq; rw [hh1]; have := Hh.out; rw [HH1.out]; omega
    rw [← hh1] at hR2 hC2
    obtain ⟨s2, hs2⟩ : ∃ t : St, t = { s1 with hits := h1 } := ⟨_, rfl⟩
    rw [← hs2] at hR2
    have hL2 : s2.L = s.L := by rw [hs2]; exact HL1.out
    have hen : (s.L.getD k Ent.free).cells[1]? = some (VSt (s.L.getD k Ent.free).b) := rfl
    obtain ⟨hR3, hC3⟩ := hR2.putEnt (k := k) (j := 2) Hkn.out (by omega) (.bool true) { s.L.getD k Ent.free with flag := true } (by rw [hL2]; rfl) (q + 1) (Nat.le_refl _) (by
      have := hR2.pq (s.L.getD k Ent.free) (by rw [hL2, List.getD_eq_getElem?_getD, List.getElem?_eq_getElem hkl]; exact List.getElem_mem _)
      exact this)
    have cA := hR2.c2
    have cF := hR2.ent (k := k) Hkn.out 2 (.bool (s.L.getD k Ent.free).flag) (by rw [hL2]; rfl)
    have fF := hR2.entFree (k := k) Hkn.out 2 (by omega)
    have cA3 := hR3.c2
    have cB3 := hR3.ent (k := k) Hkn.out 1 (VSt (s.L.getD k Ent.free).b) (by
      show ((s2.L.set k { s.L.getD k Ent.free with flag := true }).getD k Ent.free).cells[1]? = _
      rw [hL2, List.getD_eq_getElem?_getD, List.getElem?_set_self hkl]; rfl)
    obtain ⟨n, hn⟩ : ∃ n, n = sh * room := ⟨_, rfl⟩
    have hkn2 : k < n := by rw [hn]; exact Hkn.out
    rw [← hn] at cA cA3
    have HF : Hid (getC s i = ({ s2 with L := s.L.set k { s.L.getD k Ent.free with flag := true } }, (s.L.getD k Ent.free).b, true)) := by
      show _ = _
      unfold getC
      rw [hf, hs2]
      simp only [HS1.out, hh1]
    have HR3 := Lib.hid hR3
    have HC3 : Hid (Chg (fun g _ => G g) w0 ((w1.setCell ⟨M, 5, none⟩ (.int .i64 (h1 : Int))).setCell ⟨a, k * 4 + 2, none⟩ (.bool true))) := (HC1.out.then hC2).then hC3
    have HL2 := Lib.hid hL2
    obtain ⟨bs, hbs⟩ : ∃ x, x = strB (s.L.getD k Ent.free).b := ⟨_, rfl⟩
    obtain ⟨fl, hfl⟩ : ∃ x, x = (s.L.getD k Ent.free).flag := ⟨_, rfl⟩
    rw [VSt, ← hbs] at cB3
    rw [← hfl] at cF
    have HBs := Lib.hid hbs
    clear hR2 hC2 hR3 hC3 hs2 hL2 hen hbs hfl hh1 hn hkl HR1 HC1 hf
    go_wp2
    refine bodyPost_ret (results_tmp2 rfl _ _ _) rfl ?_
    rw [HF.out]
    refine ⟨by rw [VSt, ← HBs.out]; rfl, ⟨a, b, ca, cb, ?_⟩, HC3.out⟩
    have := HR3.out
    rwa [HL2.out] at this

def E2 (s : St) (k p2 : Nat) : Ent := { s.L.getD k Ent.free with pins := p2 }
set_option maxRecDepth 100000 in
set_option maxHeartbeats 1000000 in
theorem RCPin_one {w0 : World} {G : Nat → Prop} {M sh room q : Nat} {s : St} (h : RefK w0 G M sh room q s) (hq : q ≤ 1000000) (i : Int) :
    Calls Try.prog 14 #[.pointer (some ⟨M, 0, none⟩), .int .i64 i, .int .i64 1] w0 fun e w' => e = .returned (.bool (pin s i).2) ∧ RK w0 G w' M sh room (q + 1) (pin s i).1 := by
  obtain ⟨a, b, ca, cb, hR⟩ := h
  have HR := Lib.hid hR
  obtain ⟨n, hn⟩ : ∃ n, n = sh * room := ⟨_, rfl⟩
  have HN := Lib.hid hn
  clear hn hR
  go_enter Try.func14, Try.ntmps14
  go_wp2_with fail
  refine (RCAt_any ⟨a, b, ca, cb, HR.out⟩ i).mono ?_
  rintro e w1 ⟨rfl, hw⟩
  obtain rfl := hw.symm
  cases hf : find s.L i with
  | none =>
    have HF : Hid (pin s i = (s, false)) := by show _ = _; unfold pin; rw [hf]
    rw [show atI none = -1 from rfl]
    go_wp2
    go_ret
    rw [HF.out]
    have hR := HR.out
    exact ⟨rfl, ⟨a, b, ca, cb, { hR with gq := ⟨Nat.le_trans hR.gq.1 (Nat.le_succ _), hR.gq.2⟩, pq := fun e he => Nat.le_trans (hR.pq e he) (Nat.le_succ _) }⟩, Chg.refl _ _⟩
  | some k =>
    obtain ⟨_, hkl, _⟩ := find_some hf
    have Hkn : Hid (k < sh * room) := by show _ < _; rw [← HR.out.len]; exact hkl
    rw [show atI (some k) = (k : Int) from rfl]
    obtain ⟨p, hp⟩ : ∃ p, p = (s.L.getD k Ent.free).pins := ⟨_, rfl⟩
    have hpe : (s.L.getD k Ent.free).cells[3]? = some (.int .i64 (p : Int)) := by rw [hp]; rfl
    have Hpe := Lib.hid hpe
    have cp := HR.out.ent (k := k) Hkn.out 3 _ hpe
    have Hcp := Lib.hid cp
    have c2 := HR.out.c2
    rw [← HN.out] at c2
    have hpb : p ≤ q := by rw [hp]; exact HR.out.pq _ (by rw [List.getD_eq_getElem?_getD, List.getElem?_eq_getElem hkl]; exact List.getElem_mem _)
    obtain ⟨p2, hp2⟩ : ∃ x, x = p + 1 := ⟨_, rfl⟩
    have HVp : Hid (IntKind.i64.wrap ((p : Int) + 1) = (p2 : Int)) := by show _ = _; rw [IntKind.wrap_i64]; omega
    have HE2 : Hid ((E2 s k p2).cells = (s.L.getD k Ent.free).cells.set 3 (.int .i64 (p2 : Int))) := rfl
    have HP2 : Hid ((E2 s k p2).pins ≤ q + 1) := by show p2 ≤ _; omega
    have Hal : Hid (a < w0.heap.size) := HR.out.lt _ HR.out.ga
    have HKeep : Hid (∀ X, Below w0.heap.size w0 X → X.cell? ⟨M, 2, none⟩ = some (.slice (some ⟨a, 0, none⟩) n ca)) := fun X hX => (World.cell?_of_block (w := w0) (hX.block M (HR.out.lt _ HR.out.gM))).trans c2
    have hkn2 : k < n := by rw [HN.out]; exact Hkn.out
    have HFin : Hid (∀ w9, RefC w9 G M a b ca cb sh room (q + 1) { s with L := s.L.set k (E2 s k p2) } → Chg (fun g _ => G g) w0 w9 → Ending.returned (.bool true) = .returned (.bool (pin s i).2) ∧ RK w0 G w9 M sh room (q + 1) (pin s i).1) := fun w9 h1 h2 => by
      have hpn : pin s i = ({ s with L := s.L.set k (E2 s k p2) }, true) := by unfold pin; rw [hf]; simp only [E2, hp2, hp]
      rw [hpn]
      exact ⟨rfl, ⟨a, b, ca, cb, h1⟩, h2⟩
    clear hf hkl hp hpe hp2
    go_wp2_with fail
    clear cp c2
    have hC : Below w0.heap.size w0 w0.drew := below_drewN (Below.refl _ _) 1
    refine wp_region_held_drew (S := (fun X => X.cell? ⟨M, 2, none⟩ = some (.slice (some ⟨a, 0, none⟩) n ca))) (by kernel_rfl) (HKeep.out _ hC) (fun hHeld => ?_)
    generalize w0.drew = w0d at *
    refine wpAnyH_take (i := 0) (oi := ⟨some 24, _, _, _, _, _⟩) (v := ?_) rfl (by kernel_rfl) (by kernel_rfl) (by kernel_rfl) (fun _ _ _ h => h) (Or.inl ⟨by rfl, ?_⟩) hHeld ?_
    rotate_left
    · intro w hSw
      go_simp
      with_reducible rfl
    try go_frame
    refine wpAnyH_take (i := 1) (oi := ⟨some 25, _, _, _, _, _⟩) (v := ?_) rfl (by kernel_rfl) (by kernel_rfl) (by kernel_rfl) (fun _ _ _ h => h) (Or.inl ⟨by rfl, ?_⟩) hHeld ?_
    rotate_left
    · intro w hSw
      go_simp
      with_reducible rfl
    try go_frame
    refine wpAnyH_take (i := 2) (oi := ⟨some 26, _, _, _, _, _⟩) (v := ?_) rfl (by kernel_rfl) (by kernel_rfl) (by kernel_rfl) (fun _ _ _ h => h) (Or.inl ⟨by rfl, ?_⟩) hHeld ?_
    rotate_left
    · intro w hSw
      go_simp
      with_reducible rfl
    try go_frame
    refine wpAnyH_take (i := 3) (oi := ⟨some 27, _, _, _, _, _⟩) (v := ?_) rfl (by kernel_rfl) (by kernel_rfl) (by kernel_rfl) (fun _ _ _ h => h) (Or.inl ⟨by rfl, ?_⟩) hHeld ?_
    rotate_left
    · intro w hSw
      have hc := hSw
      go_simp
      with_reducible rfl
    try go_frame
    refine wpAnyH_take (i := 4) (oi := ⟨some 28, _, _, _, _, _⟩) (v := ?_) rfl (by kernel_rfl) (by kernel_rfl) (by kernel_rfl) (fun _ _ _ h => h) (Or.inl ⟨by rfl, ?_⟩) hHeld ?_
    rotate_left
    · intro w hSw
      go_simp
      with_reducible rfl
    try go_frame
    refine wpAnyH_take (i := 5) (oi := ⟨some 29, _, _, _, _, _⟩) (v := ?_) rfl (by kernel_rfl) (by kernel_rfl) (by kernel_rfl) (fun _ _ _ h => h) (Or.inl ⟨by rfl, ?_⟩) hHeld ?_
    rotate_left
    · intro w hSw
      go_simp
      with_reducible rfl
    try go_frame
    refine wpAnyH_take (i := 6) (oi := ⟨some 30, _, _, _, _, _⟩) (v := ?_) rfl (by kernel_rfl) (by kernel_rfl) (by kernel_rfl) (fun _ _ _ h => h) (Or.inl ⟨by rfl, ?_⟩) hHeld ?_
    rotate_left
    · intro w hSw
      go_simp
      with_reducible rfl
    try go_frame
    refine wpAnyH_take (i := 7) (oi := ⟨some 31, _, _, _, _, _⟩) (v := ?_) rfl (by kernel_rfl) (by kernel_rfl) (by kernel_rfl) (fun _ _ _ h => h) (Or.inl ⟨by rfl, ?_⟩) hHeld ?_
    rotate_left
    · intro w hSw
      go_simp
      with_reducible rfl
    try go_frame
    refine wpAnyH_take (i := 8) (oi := ⟨some 32, _, _, _, _, _⟩) (v := ?_) rfl (by kernel_rfl) (by kernel_rfl) (by kernel_rfl) (fun _ _ _ h => h) (Or.inl ⟨by rfl, ?_⟩) hHeld ?_
    rotate_left
    · intro w hSw
      have hc := hSw
      go_simp
      with_reducible rfl
    try go_frame
    refine wpAnyH_take (i := 9) (oi := ⟨some 33, _, _, _, _, _⟩) (v := ?_) rfl (by kernel_rfl) (by kernel_rfl) (by kernel_rfl) (fun _ _ _ h => h) (Or.inl ⟨by rfl, ?_⟩) hHeld ?_
    rotate_left
    · intro w hSw
      go_simp
      with_reducible rfl
    try go_frame
    refine wpAnyH_take (i := 10) (oi := ⟨some 34, _, _, _, _, _⟩) (v := ?_) rfl (by kernel_rfl) (by kernel_rfl) (by kernel_rfl) (fun _ _ _ h => h) (Or.inl ⟨by rfl, ?_⟩) hHeld ?_
    rotate_left
    · intro w hSw
      have hk2 : 0 ≤ (k : Int) ∧ (k : Int) < (n : Int) := by have := Hkn.out; rw [← HN.out] at this; omega
      go_simp
      with_reducible rfl
    try go_frame
    refine wpAnyH_take (i := 11) (oi := ⟨some 35, _, _, _, _, _⟩) (v := ?_) rfl (by kernel_rfl) (by kernel_rfl) (by kernel_rfl) (fun _ _ _ h => h) (Or.inl ⟨by rfl, ?_⟩) hHeld ?_
    rotate_left
    · intro w hSw
      go_simp
      with_reducible rfl
    try go_frame
    refine wpAnyH_take (i := 13) (oi := ⟨some 37, _, _, _, _, _⟩) (v := ?_) rfl (by kernel_rfl) (by kernel_rfl) (by kernel_rfl) (fun _ _ _ h => h) (Or.inl ⟨by rfl, ?_⟩) hHeld ?_
    rotate_left
    · intro w hSw
      go_simp
      with_reducible rfl
    try go_frame
    refine wpAnyH_ready (rs := [12]) (by kernel_rfl) (by simp) ?_
    refine AllReadyH.cons (o := ⟨some 36, _, _, _, _, _⟩) rfl (fun K hK => ?_) AllReadyH.nil
    have cL : w0d.cell? ⟨a, k * 4 + 3, none⟩ = some (.int .i64 (p : Int)) := (World.cell?_of_block (w := w0) (hC.block a Hal.out)).trans Hcp.out
    go_simp
    refine hK.out _ _ (HKeep.out _ hC) (fun hHeld => ?_)
    clear hK K
    try go_frame
    clear cL
    refine wpAnyH_take (i := 14) (oi := ⟨some 38, _, _, _, _, _⟩) (v := ?_) rfl (by kernel_rfl) (by kernel_rfl) (by kernel_rfl) (fun _ _ _ h => h) (Or.inl ⟨by rfl, ?_⟩) hHeld ?_
    rotate_left
    · intro w hSw
      go_simp
      with_reducible rfl
    try go_frame
    refine wpAnyH_take (i := 15) (oi := ⟨some 39, _, _, _, _, _⟩) (v := ?_) rfl (by kernel_rfl) (by kernel_rfl) (by kernel_rfl) (fun _ _ _ h => h) (Or.inl ⟨by rfl, ?_⟩) hHeld ?_
    rotate_left
    · intro w hSw
      have hk2 : 0 ≤ (k : Int) ∧ (k : Int) < (n : Int) := by have := Hkn.out; rw [← HN.out] at this; omega
      go_simp
      with_reducible rfl
    try go_frame
    refine wpAnyH_take (i := 16) (oi := ⟨some 40, _, _, _, _, _⟩) (v := ?_) rfl (by kernel_rfl) (by kernel_rfl) (by kernel_rfl) (fun _ _ _ h => h) (Or.inl ⟨by rfl, ?_⟩) hHeld ?_
    rotate_left
    · intro w hSw
      go_simp
      with_reducible rfl
    try go_frame
    refine wpAnyH_ready (rs := [17]) (by kernel_rfl) (by simp) ?_
    refine AllReadyH.cons (o := ⟨none, _, _, _, _, _⟩) rfl (fun K hK => ?_) AllReadyH.nil
    rw [HVp.out]
    have hRc := (HR.out.stay (Chg.below hC fun _ _ => False) fun _ _ _ x => x)
    obtain ⟨hR2, hC2⟩ := hRc.putEnt (k := k) (j := 3) Hkn.out (by omega) (.int .i64 (p2 : Int)) (E2 s k p2) (HE2.out) (q + 1) (by omega) HP2.out
    have cs := hRc.ent (k := k) Hkn.out 3 (.int .i64 (p : Int)) Hpe.out
    have fs := hRc.entFree (k := k) Hkn.out 3 (by omega)
    have HR2 := Lib.hid hR2
    have HC2 : Hid (Chg (fun g _ => G g) w0 (w0d.setCell ⟨a, k * 4 + 3, none⟩ (.int .i64 (p2 : Int)))) := (Chg.below hC _).then hC2
    clear hR2 hC2 hRc
    go_simp
    refine hK.out _ _ (by have h9 := HR2.out.c2; rwa [← HN.out] at h9) (fun hHeld => ?_)
    clear hK K cs fs
    try go_frame
    refine wpAnyH_done (by kernel_rfl) ?_ _
    clear hHeld hC HKeep
    generalize w0d.setCell ⟨a, k * 4 + 3, none⟩ (.int .i64 (p2 : Int)) = w9 at *
    go_wp2
    go_ret
    exact HFin.out w9 HR2.out HC2.out
set_option maxRecDepth 100000 in
set_option maxHeartbeats 1000000 in
theorem RCPin_sub {w0 : World} {G : Nat → Prop} {M sh room q : Nat} {s : St} (h : RefK w0 G M sh room q s) (hq : q ≤ 1000000) (i : Int) :
    Calls Try.prog 14 #[.pointer (some ⟨M, 0, none⟩), .int .i64 i, .int .i64 (-1)] w0 fun e w' => e = .returned (.bool (unpin s i).2) ∧ RK w0 G w' M sh room (q + 1) (unpin s i).1 := by
  obtain ⟨a, b, ca, cb, hR⟩ := h
  have HR := Lib.hid hR
  obtain ⟨n, hn⟩ : ∃ n, n = sh * room := ⟨_, rfl⟩
  have HN := Lib.hid hn
  clear hn hR
  go_enter Try.func14, Try.ntmps14
  go_wp2_with fail
  refine (RCAt_any ⟨a, b, ca, cb, HR.out⟩ i).mono ?_
  rintro e w1 ⟨rfl, hw⟩
  obtain rfl := hw.symm
  cases hf : find s.L i with
  | none =>
    have HF : Hid (unpin s i = (s, false)) := by show _ = _; unfold unpin; rw [hf]
    rw [show atI none = -1 from rfl]
    go_wp2
    go_ret
    rw [HF.out]
    have hR := HR.out
    exact ⟨rfl, ⟨a, b, ca, cb, { hR with gq := ⟨Nat.le_trans hR.gq.1 (Nat.le_succ _), hR.gq.2⟩, pq := fun e he => Nat.le_trans (hR.pq e he) (Nat.le_succ _) }⟩, Chg.refl _ _⟩
  | some k =>
    obtain ⟨_, hkl, _⟩ := find_some hf
    have Hkn : Hid (k < sh * room) := by show _ < _; rw [← HR.out.len]; exact hkl
    rw [show atI (some k) = (k : Int) from rfl]
    obtain ⟨p, hp⟩ : ∃ p, p = (s.L.getD k Ent.free).pins := ⟨_, rfl⟩
    have hpe : (s.L.getD k Ent.free).cells[3]? = some (.int .i64 (p : Int)) := by rw [hp]; rfl
    have Hpe := Lib.hid hpe
    have cp := HR.out.ent (k := k) Hkn.out 3 _ hpe
    have Hcp := Lib.hid cp
    have c2 := HR.out.c2
    rw [← HN.out] at c2
    have hpb : p ≤ q := by rw [hp]; exact HR.out.pq _ (by rw [List.getD_eq_getElem?_getD, List.getElem?_eq_getElem hkl]; exact List.getElem_mem _)
    have hkn2 : k < n := by rw [HN.out]; exact Hkn.out
    by_cases h0 : p = 0
    · have HF : Hid (unpin s i = (s, false)) := by show _ = _; unfold unpin; rw [hf]; simp only [← hp, h0, if_pos]
      have e0 : IntKind.i64.wrap ((p : Int) + -1) = -1 := by rw [h0]; rfl
      clear hf hkl hp hpe
      subst h0
      go_wp2
      go_ret
      rw [HF.out]
      have hR := HR.out
      exact ⟨rfl, ⟨a, b, ca, cb, { hR with gq := ⟨Nat.le_trans hR.gq.1 (Nat.le_succ _), hR.gq.2⟩, pq := fun e he => Nat.le_trans (hR.pq e he) (Nat.le_succ _) }⟩, Chg.refl _ _⟩
    obtain ⟨p2, hp2⟩ : ∃ x, x = p - 1 := ⟨_, rfl⟩
    have hp0 : 0 ≤ (p : Int) + -1 := by omega
    have HVp : Hid (IntKind.i64.wrap ((p : Int) + -1) = (p2 : Int)) := by show _ = _; rw [IntKind.wrap_i64]; omega
    have HE2 : Hid ((E2 s k p2).cells = (s.L.getD k Ent.free).cells.set 3 (.int .i64 (p2 : Int))) := rfl
    have HP2 : Hid ((E2 s k p2).pins ≤ q + 1) := by show p2 ≤ _; omega
    have Hal : Hid (a < w0.heap.size) := HR.out.lt _ HR.out.ga
    have HKeep : Hid (∀ X, Below w0.heap.size w0 X → X.cell? ⟨M, 2, none⟩ = some (.slice (some ⟨a, 0, none⟩) n ca)) := fun X hX => (World.cell?_of_block (w := w0) (hX.block M (HR.out.lt _ HR.out.gM))).trans c2
    have hkn2 : k < n := by rw [HN.out]; exact Hkn.out
    have HFin : Hid (∀ w9, RefC w9 G M a b ca cb sh room (q + 1) { s with L := s.L.set k (E2 s k p2) } → Chg (fun g _ => G g) w0 w9 → Ending.returned (.bool true) = .returned (.bool (unpin s i).2) ∧ RK w0 G w9 M sh room (q + 1) (unpin s i).1) := fun w9 h1 h2 => by
      have hpn : unpin s i = ({ s with L := s.L.set k (E2 s k p2) }, true) := by unfold unpin; rw [hf]; simp only [E2, hp2, hp]; rw [if_neg (by rw [← hp]; exact h0)]
      rw [hpn]
      exact ⟨rfl, ⟨a, b, ca, cb, h1⟩, h2⟩
    clear hf hkl hp hpe hp2
    go_wp2_with fail
    clear cp c2
    have hC : Below w0.heap.size w0 w0.drew := below_drewN (Below.refl _ _) 1
    refine wp_region_held_drew (S := (fun X => X.cell? ⟨M, 2, none⟩ = some (.slice (some ⟨a, 0, none⟩) n ca))) (by kernel_rfl) (HKeep.out _ hC) (fun hHeld => ?_)
    generalize w0.drew = w0d at *
    refine wpAnyH_take (i := 0) (oi := ⟨some 24, _, _, _, _, _⟩) (v := ?_) rfl (by kernel_rfl) (by kernel_rfl) (by kernel_rfl) (fun _ _ _ h => h) (Or.inl ⟨by rfl, ?_⟩) hHeld ?_
    rotate_left
    · intro w hSw
      go_simp
      with_reducible rfl
    try go_frame
    refine wpAnyH_take (i := 1) (oi := ⟨some 25, _, _, _, _, _⟩) (v := ?_) rfl (by kernel_rfl) (by kernel_rfl) (by kernel_rfl) (fun _ _ _ h => h) (Or.inl ⟨by rfl, ?_⟩) hHeld ?_
    rotate_left
    · intro w hSw
      go_simp
      with_reducible rfl
    try go_frame
    refine wpAnyH_take (i := 2) (oi := ⟨some 26, _, _, _, _, _⟩) (v := ?_) rfl (by kernel_rfl) (by kernel_rfl) (by kernel_rfl) (fun _ _ _ h => h) (Or.inl ⟨by rfl, ?_⟩) hHeld ?_
    rotate_left
    · intro w hSw
      go_simp
      with_reducible rfl
    try go_frame
    refine wpAnyH_take (i := 3) (oi := ⟨some 27, _, _, _, _, _⟩) (v := ?_) rfl (by kernel_rfl) (by kernel_rfl) (by kernel_rfl) (fun _ _ _ h => h) (Or.inl ⟨by rfl, ?_⟩) hHeld ?_
    rotate_left
    · intro w hSw
      have hc := hSw
      go_simp
      with_reducible rfl
    try go_frame
    refine wpAnyH_take (i := 4) (oi := ⟨some 28, _, _, _, _, _⟩) (v := ?_) rfl (by kernel_rfl) (by kernel_rfl) (by kernel_rfl) (fun _ _ _ h => h) (Or.inl ⟨by rfl, ?_⟩) hHeld ?_
    rotate_left
    · intro w hSw
      go_simp
      with_reducible rfl
    try go_frame
    refine wpAnyH_take (i := 5) (oi := ⟨some 29, _, _, _, _, _⟩) (v := ?_) rfl (by kernel_rfl) (by kernel_rfl) (by kernel_rfl) (fun _ _ _ h => h) (Or.inl ⟨by rfl, ?_⟩) hHeld ?_
    rotate_left
    · intro w hSw
      go_simp
      with_reducible rfl
    try go_frame
    refine wpAnyH_take (i := 6) (oi := ⟨some 30, _, _, _, _, _⟩) (v := ?_) rfl (by kernel_rfl) (by kernel_rfl) (by kernel_rfl) (fun _ _ _ h => h) (Or.inl ⟨by rfl, ?_⟩) hHeld ?_
    rotate_left
    · intro w hSw
      go_simp
      with_reducible rfl
    try go_frame
    refine wpAnyH_take (i := 7) (oi := ⟨some 31, _, _, _, _, _⟩) (v := ?_) rfl (by kernel_rfl) (by kernel_rfl) (by kernel_rfl) (fun _ _ _ h => h) (Or.inl ⟨by rfl, ?_⟩) hHeld ?_
    rotate_left
    · intro w hSw
      go_simp
      with_reducible rfl
    try go_frame
    refine wpAnyH_take (i := 8) (oi := ⟨some 32, _, _, _, _, _⟩) (v := ?_) rfl (by kernel_rfl) (by kernel_rfl) (by kernel_rfl) (fun _ _ _ h => h) (Or.inl ⟨by rfl, ?_⟩) hHeld ?_
    rotate_left
    · intro w hSw
      have hc := hSw
      go_simp
      with_reducible rfl
    try go_frame
    refine wpAnyH_take (i := 9) (oi := ⟨some 33, _, _, _, _, _⟩) (v := ?_) rfl (by kernel_rfl) (by kernel_rfl) (by kernel_rfl) (fun _ _ _ h => h) (Or.inl ⟨by rfl, ?_⟩) hHeld ?_
    rotate_left
    · intro w hSw
      go_simp
      with_reducible rfl
    try go_frame
    refine wpAnyH_take (i := 10) (oi := ⟨some 34, _, _, _, _, _⟩) (v := ?_) rfl (by kernel_rfl) (by kernel_rfl) (by kernel_rfl) (fun _ _ _ h => h) (Or.inl ⟨by rfl, ?_⟩) hHeld ?_
    rotate_left
    · intro w hSw
      have hk2 : 0 ≤ (k : Int) ∧ (k : Int) < (n : Int) := by have := Hkn.out; rw [← HN.out] at this; omega
      go_simp
      with_reducible rfl
    try go_frame
    refine wpAnyH_take (i := 11) (oi := ⟨some 35, _, _, _, _, _⟩) (v := ?_) rfl (by kernel_rfl) (by kernel_rfl) (by kernel_rfl) (fun _ _ _ h => h) (Or.inl ⟨by rfl, ?_⟩) hHeld ?_
    rotate_left
    · intro w hSw
      go_simp
      with_reducible rfl
    try go_frame
    refine wpAnyH_take (i := 13) (oi := ⟨some 37, _, _, _, _, _⟩) (v := ?_) rfl (by kernel_rfl) (by kernel_rfl) (by kernel_rfl) (fun _ _ _ h => h) (Or.inl ⟨by rfl, ?_⟩) hHeld ?_
    rotate_left
    · intro w hSw
      go_simp
      with_reducible rfl
    try go_frame
    refine wpAnyH_ready (rs := [12]) (by kernel_rfl) (by simp) ?_
    refine AllReadyH.cons (o := ⟨some 36, _, _, _, _, _⟩) rfl (fun K hK => ?_) AllReadyH.nil
    have cL : w0d.cell? ⟨a, k * 4 + 3, none⟩ = some (.int .i64 (p : Int)) := (World.cell?_of_block (w := w0) (hC.block a Hal.out)).trans Hcp.out
    go_simp
    refine hK.out _ _ (HKeep.out _ hC) (fun hHeld => ?_)
    clear hK K
    try go_frame
    clear cL
    refine wpAnyH_take (i := 14) (oi := ⟨some 38, _, _, _, _, _⟩) (v := ?_) rfl (by kernel_rfl) (by kernel_rfl) (by kernel_rfl) (fun _ _ _ h => h) (Or.inl ⟨by rfl, ?_⟩) hHeld ?_
    rotate_left
    · intro w hSw
      go_simp
      with_reducible rfl
    try go_frame
    refine wpAnyH_take (i := 15) (oi := ⟨some 39, _, _, _, _, _⟩) (v := ?_) rfl (by kernel_rfl) (by kernel_rfl) (by kernel_rfl) (fun _ _ _ h => h) (Or.inl ⟨by rfl, ?_⟩) hHeld ?_
    rotate_left
    · intro w hSw
      have hk2 : 0 ≤ (k : Int) ∧ (k : Int) < (n : Int) := by have := Hkn.out; rw [← HN.out] at this; omega
      go_simp
      with_reducible rfl
    try go_frame
    refine wpAnyH_take (i := 16) (oi := ⟨some 40, _, _, _, _, _⟩) (v := ?_) rfl (by kernel_rfl) (by kernel_rfl) (by kernel_rfl) (fun _ _ _ h => h) (Or.inl ⟨by rfl, ?_⟩) hHeld ?_
    rotate_left
    · intro w hSw
      go_simp
      with_reducible rfl
    try go_frame
    refine wpAnyH_ready (rs := [17]) (by kernel_rfl) (by simp) ?_
    refine AllReadyH.cons (o := ⟨none, _, _, _, _, _⟩) rfl (fun K hK => ?_) AllReadyH.nil
    rw [HVp.out]
    have hRc := (HR.out.stay (Chg.below hC fun _ _ => False) fun _ _ _ x => x)
    obtain ⟨hR2, hC2⟩ := hRc.putEnt (k := k) (j := 3) Hkn.out (by omega) (.int .i64 (p2 : Int)) (E2 s k p2) (HE2.out) (q + 1) (by omega) HP2.out
    have cs := hRc.ent (k := k) Hkn.out 3 (.int .i64 (p : Int)) Hpe.out
    have fs := hRc.entFree (k := k) Hkn.out 3 (by omega)
    have HR2 := Lib.hid hR2
    have HC2 : Hid (Chg (fun g _ => G g) w0 (w0d.setCell ⟨a, k * 4 + 3, none⟩ (.int .i64 (p2 : Int)))) := (Chg.below hC _).then hC2
    clear hR2 hC2 hRc
    go_simp
    refine hK.out _ _ (by have h9 := HR2.out.c2; rwa [← HN.out] at h9) (fun hHeld => ?_)
    clear hK K cs fs
    try go_frame
    refine wpAnyH_done (by kernel_rfl) ?_ _
    clear hHeld hC HKeep
    generalize w0d.setCell ⟨a, k * 4 + 3, none⟩ (.int .i64 (p2 : Int)) = w9 at *
    go_wp2
    go_ret
    exact HFin.out w9 HR2.out HC2.out
end Go.Proofs.Ythcphabfeapjbaa
