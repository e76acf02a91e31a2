/-
  THE WALK of the reference cache's Put.
-/
import Derived.Test.YthcphabfeapjbaaPE
namespace Go.Proofs.Ythcphabfeapjbaa
open Go.RowKit Ca

theorem freeFrom_lt (L : List Ent) : ∀ (m k r : Nat), freeFrom L k m = some r → k ≤ r ∧ r < k + m
  | 0, k, r, h => by cases h
  | m + 1, k, r, h => by
    rw [freeFrom] at h
    split at h
    · injection h with h; omega
    · have := freeFrom_lt L m (k + 1) r h; omega
theorem sweep_lt (lo room : Nat) (h0 : 0 < room) : ∀ (m : Nat) (L : List Ent) (h r : Nat), h < room → (sweep lo room m L h).2.2 = some r → lo ≤ r ∧ r < lo + room
  | 0, L, h, r, hh, e => by cases e
  | m + 1, L, h, r, hh, e => by
    rw [sweep] at e
    split at e
    · exact sweep_lt lo room h0 m L _ r (Nat.mod_lt _ h0) e
    · split at e
      · injection e with e; omega
      · exact sweep_lt lo room h0 m _ _ r (Nat.mod_lt _ h0) e
theorem place_lt (room : Nat) (s : St) (sh : Nat) (h0 : 0 < room) (hh : s.hands.getD sh 0 < room) (r : Nat) (e : (place room s sh).2 = some r) : sh * room ≤ r ∧ r < sh * room + room := by
  unfold place at e
  split at e
  · rename_i k hk
    injection e with e
    subst e
    exact freeFrom_lt _ _ _ _ hk
  · exact sweep_lt _ _ h0 _ _ _ _ hh e

set_option maxRecDepth 100000 in
set_option maxHeartbeats 1000000 in
theorem RCPut_any {w0 : World} {G : Nat → Prop} {M sh room q : Nat} {s : St} (h : RefK w0 G M sh room q s) (i : Int) (bs : List UInt8) :
    Calls Try.prog 10 #[.pointer (some ⟨M, 0, none⟩), .int .i64 i, VSt bs] w0 fun e w' => e = .returned (.bool (put sh room s i bs).2) ∧ RK w0 G w' M sh room q (put sh room s i bs).1 := by
  obtain ⟨a, b, ca, cb, hR⟩ := h
  have HR := Lib.hid hR
  obtain ⟨n, hn⟩ : ∃ n, n = sh * room := ⟨_, rfl⟩
  have HN := Lib.hid hn
  have hsh := hR.sh1
  obtain ⟨vb, hvb⟩ : ∃ v, v = strB bs := ⟨_, rfl⟩
  have HVB := Lib.hid hvb
  rw [VSt, ← hvb]
  clear hn hR hvb
  go_enter Try.func10, Try.ntmps10
  by_cases hi : i < 0
  · have HF : Hid (put sh room s i bs = (s, false)) := by show _ = _; unfold put; rw [if_pos hi]
    go_wp2
    go_ret
    rw [HF.out]
    exact ⟨rfl, ⟨a, b, ca, cb, HR.out⟩, Chg.refl _ _⟩
  go_wp2_with fail
  refine (RCAt_any ⟨a, b, ca, cb, HR.out⟩ i).mono ?_
  rintro e w1 ⟨rfl, hw⟩
  obtain rfl := hw.symm
  cases hf : find s.L i with
  | some k =>
    obtain ⟨_, hkl, _⟩ := find_some hf
    have Hkn : Hid (k < sh * room) := by show _ < _; rw [← HR.out.len]; exact hkl
    rw [show atI (some k) = (k : Int) from rfl]
    have HF : Hid (put sh room s i bs = ({ s with L := s.L.set k { s.L.getD k Ent.free with b := bs, flag := true } }, true)) := by show _ = _; unfold put; rw [if_neg (by omega), hf]
    have hpq : (s.L.getD k Ent.free).pins ≤ q := HR.out.pq _ (by rw [List.getD_eq_getElem?_getD, List.getElem?_eq_getElem hkl]; exact List.getElem_mem _)
    obtain ⟨hR1, hC1⟩ := HR.out.putEnt (k := k) (j := 1) Hkn.out (by omega) (VSt bs) { s.L.getD k Ent.free with b := bs } rfl q (Nat.le_refl _) hpq
    obtain ⟨hR2, hC2⟩ := hR1.putEnt (k := k) (j := 2) Hkn.out (by omega) (.bool true) { s.L.getD k Ent.free with b := bs, flag := true } (by show _ = ((s.L.set k _).getD k Ent.free).cells.set _ _; rw [setD _ _ _ hkl]; rfl) q (Nat.le_refl _) hpq
    simp only [List.set_set] at hR2
    have e1 := HR.out.ent (k := k) Hkn.out 1 _ rfl
    have f1 := HR.out.entFree (k := k) Hkn.out 1 (by omega)
    have e2 := hR1.ent (k := k) Hkn.out 2 _ rfl
    have f2 := hR1.entFree (k := k) Hkn.out 2 (by omega)
    have c2 := HR.out.c2
    have c2' := hR1.c2
    rw [← HN.out] at c2 c2'
    rw [VSt, ← HVB.out] at hR2 hC2 e2 f2 c2'
    have hkn2 : k < n := by rw [HN.out]; exact Hkn.out
    have HR2 := Lib.hid hR2
    rw [VSt, ← HVB.out] at hC1
    have HC2 := Lib.hid (hC1.then hC2)
    clear hf hkl hR1 hC1 hR2 hC2 hpq
    go_wp2
    go_ret
    rw [HF.out]
    refine ⟨rfl, ⟨a, b, ca, cb, HR2.out⟩, ?_⟩
    exact HC2.out
  | none =>
    rw [show atI none = -1 from rfl]
    have hsh0 : ¬ sh = 0 := by omega
    have c0 := HR.out.c0
    obtain ⟨u, hu⟩ : ∃ u : Nat, i = (u : Int) := ⟨i.toNat, by omega⟩
    subst hu
    obtain ⟨x, hx⟩ : ∃ x, x = u % sh := ⟨_, rfl⟩
    have hxl : x < sh := by rw [hx]; exact Nat.mod_lt _ (by omega)
    have hrem : Int.tmod (u : Int) (sh : Int) = (x : Int) := by rw [hx, Int.ofNat_tmod]
    have HPT : Hid (put sh room s (u : Int) bs = match (place room s x).2 with | some k => ({ (place room s x).1 with L := (place room s x).1.L.set k ⟨u, bs, true, 0⟩ }, true) | none => ((place room s x).1, false)) := by
      show _ = _
      unfold put
      rw [if_neg (by omega), hf]
      simp only [Int.toNat_natCast, ← hx]
      cases (place room s x).2 <;> rfl
    have Hhl := Lib.hid (HR.out.handLt hxl)
    have Hr0 : Hid (0 < room) := HR.out.rm1.1
    have Hlx : Hid (x * room + room ≤ sh * room) := by
      have : (x + 1) * room ≤ sh * room := Nat.mul_le_mul_right _ hxl
      rw [Nat.succ_mul] at this; exact this
    clear hx hf
    go_wp2_with fail
    refine (RCplace_any ⟨a, b, ca, cb, HR.out⟩ x hxl).mono ?_
    rintro e w1 ⟨rfl, ⟨a1, b1, ca1, cb1, hR1⟩, hC1⟩
    have HR1 := Lib.hid hR1
    have HC1 := Lib.hid hC1
    clear hR1 hC1 c0
    cases hp : (place room s x).2 with
    | none =>
      have HF : Hid (put sh room s (u : Int) bs = ((place room s x).1, false)) := by show _ = _; rw [HPT.out, hp]
      rw [show atI none = -1 from rfl]
      clear hp
      go_wp2
      go_ret
      rw [HF.out]
      exact ⟨rfl, ⟨a1, b1, ca1, cb1, HR1.out⟩, HC1.out⟩
    | some k =>
      have HF : Hid (put sh room s (u : Int) bs = ({ (place room s x).1 with L := (place room s x).1.L.set k ⟨u, bs, true, 0⟩ }, true)) := by show _ = _; rw [HPT.out, hp]
      rw [show atI (some k) = (k : Int) from rfl]
      have hkb := place_lt room s x Hr0.out Hhl.out k hp
      have Hkn : Hid (k < sh * room) := by have := Hlx.out; show _ < _; omega
      obtain ⟨s1, hs1⟩ : ∃ t, t = (place room s x).1 := ⟨_, rfl⟩
      rw [← hs1] at HR1 HF
      obtain ⟨hR2, hC2⟩ := HR1.out.putAll Hkn.out ⟨u, bs, true, 0⟩ q (Nat.le_refl _) (Nat.zero_le _)
      have e0 := HR1.out.ent (k := k) Hkn.out 0 _ rfl
      have e1 := HR1.out.ent (k := k) Hkn.out 1 _ rfl
      have e2 := HR1.out.ent (k := k) Hkn.out 2 _ rfl
      have e3 := HR1.out.ent (k := k) Hkn.out 3 _ rfl
      have f0 := HR1.out.entFree (k := k) Hkn.out 0 (by omega)
      have f1 := HR1.out.entFree (k := k) Hkn.out 1 (by omega)
      have f2 := HR1.out.entFree (k := k) Hkn.out 2 (by omega)
      have f3 := HR1.out.entFree (k := k) Hkn.out 3 (by omega)
      rw [Nat.add_zero] at e0 f0
      have c2 := HR1.out.c2
      rw [← HN.out] at c2
      have hkn2 : k < n := by rw [HN.out]; exact Hkn.out
      have HR2 := Lib.hid hR2
      have HC2 := Lib.hid (HC1.out.then hC2)
      obtain ⟨x0, hx0⟩ : ∃ x, x = (s1.L.getD k Ent.free).block := ⟨_, rfl⟩
      obtain ⟨x1, hx1⟩ : ∃ x, x = strB (s1.L.getD k Ent.free).b := ⟨_, rfl⟩
      obtain ⟨x2, hx2⟩ : ∃ x, x = (s1.L.getD k Ent.free).flag := ⟨_, rfl⟩
      obtain ⟨x3, hx3⟩ : ∃ x, x = (s1.L.getD k Ent.free).pins := ⟨_, rfl⟩
      rw [← hx0] at e0
      rw [VSt, ← hx1] at e1
      rw [← hx2] at e2
      rw [← hx3] at e3
      clear hp hkb hs1 hR2 hC2 hx0 hx1 hx2 hx3 hrem hsh0 hsh HPT Hhl Hlx Hr0 HR
      go_wp2
      go_ret
      rw [HF.out]
      refine ⟨rfl, ⟨a1, b1, ca1, cb1, ?_⟩, ?_⟩
      · have := HR2.out
        rw [cells4, VSt, ← HVB.out] at this
        exact this
      · have := HC2.out
        rw [cells4, VSt, ← HVB.out] at this
        exact this
end Go.Proofs.Ythcphabfeapjbaa
