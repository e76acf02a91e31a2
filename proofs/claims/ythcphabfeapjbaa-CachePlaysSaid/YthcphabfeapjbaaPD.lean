/-
  THE WALKS of the reference cache's Drop, Ints; an entry laid anew.
-/
import Derived.Test.YthcphabfeapjbaaPC
namespace Go.Proofs.Ythcphabfeapjbaa
open Go.RowKit Ca

theorem setD (l : List Ent) (k : Nat) (x : Ent) (hk : k < l.length) : (l.set k x).getD k Ent.free = x := by
  rw [List.getD_eq_getElem?_getD, List.getElem?_set_self hk]; rfl
def cells4 (w : World) (a o : Nat) (e : Ent) : World :=
  (((w.setCell ⟨a, o, none⟩ (.int .i64 e.block)).setCell ⟨a, o + 1, none⟩ (VSt e.b)).setCell ⟨a, o + 2, none⟩ (.bool e.flag)).setCell ⟨a, o + 3, none⟩ (.int .i64 (e.pins : Int))
section
variable {w w' : World} {G : Nat → Prop} {M a b ca cb sh room q : Nat} {s : St}
theorem RefC.putAll (h : RefC w G M a b ca cb sh room q s) {k : Nat} (hk : k < sh * room) (e' : Ent) (q' : Nat) (hq : q ≤ q') (hp : e'.pins ≤ q') :
    RefC (cells4 w a (k * 4) e') G M a b ca cb sh room q' { s with L := s.L.set k e' } ∧ Chg (fun g _ => G g) w (cells4 w a (k * 4) e') := by
  have hkl : k < s.L.length := by rw [h.len]; exact hk
  have hpp : (s.L.getD k Ent.free).pins ≤ q := h.pq _ (by rw [List.getD_eq_getElem?_getD, List.getElem?_eq_getElem hkl]; exact List.getElem_mem _)
  obtain ⟨e0, he0⟩ : ∃ e, e = s.L.getD k Ent.free := ⟨_, rfl⟩
  rw [← he0] at hpp
  obtain ⟨h1, d1⟩ := h.putEnt (j := 0) hk (by omega) (.int .i64 e'.block) { e0 with block := e'.block } (by rw [← he0]; rfl) q (Nat.le_refl _) hpp
  obtain ⟨h2, d2⟩ := h1.putEnt (j := 1) hk (by omega) (VSt e'.b) { e0 with block := e'.block, b := e'.b } (by show _ = ((s.L.set k _).getD k Ent.free).cells.set _ _; rw [setD _ _ _ hkl]; rfl) q (Nat.le_refl _) hpp
  obtain ⟨h3, d3⟩ := h2.putEnt (j := 2) hk (by omega) (.bool e'.flag) { e0 with block := e'.block, b := e'.b, flag := e'.flag } (by show _ = (((s.L.set k _).set k _).getD k Ent.free).cells.set _ _; rw [List.set_set, setD _ _ _ hkl]; rfl) q (Nat.le_refl _) hpp
  obtain ⟨h4, d4⟩ := h3.putEnt (j := 3) hk (by omega) (.int .i64 (e'.pins : Int)) e' (by show _ = ((((s.L.set k _).set k _).set k _).getD k Ent.free).cells.set _ _; rw [List.set_set, List.set_set, setD _ _ _ hkl]; rfl) q' hq hp
  simp only [List.set_set] at h4
  exact ⟨h4, ((d1.then d2).then d3).then d4⟩
end

set_option maxRecDepth 100000 in
set_option maxHeartbeats 1000000 in
theorem RCDrop_any {w0 : World} {G : Nat → Prop} {M sh room q : Nat} {s : St} (h : RefK w0 G M sh room q s) (i : Int) :
    Calls Try.prog 17 #[.pointer (some ⟨M, 0, none⟩), .int .i64 i] w0 fun e w' => e = .returned (.bool (drop s i).2) ∧ RK w0 G w' M sh room q (drop s i).1 := by
  obtain ⟨a, b, ca, cb, hR⟩ := h
  have HR := Lib.hid hR
  obtain ⟨n, hn⟩ : ∃ n, n = sh * room := ⟨_, rfl⟩
  have HN := Lib.hid hn
  clear hn hR
  go_enter Try.func17, Try.ntmps17
  go_wp2_with fail
  refine (RCAt_any ⟨a, b, ca, cb, HR.out⟩ i).mono ?_
  rintro e w1 ⟨rfl, hw⟩
  obtain rfl := hw.symm
  cases hf : find s.L i with
  | none =>
    have HF : Hid (drop s i = (s, false)) := by show _ = _; unfold drop; rw [hf]
    rw [show atI none = -1 from rfl]
    go_wp2
    go_ret
    rw [HF.out]
    exact ⟨rfl, ⟨a, b, ca, cb, HR.out⟩, Chg.refl _ _⟩
  | some k =>
    obtain ⟨_, hkl, _⟩ := find_some hf
    have Hkn : Hid (k < sh * room) := by show _ < _; rw [← HR.out.len]; exact hkl
    rw [show atI (some k) = (k : Int) from rfl]
    obtain ⟨p, hp⟩ : ∃ p, p = (s.L.getD k Ent.free).pins := ⟨_, rfl⟩
    have hpe : (s.L.getD k Ent.free).cells[3]? = some (.int .i64 (p : Int)) := by rw [hp]; rfl
    have cp := HR.out.ent (k := k) Hkn.out 3 _ hpe
    have c2 := HR.out.c2
    rw [← HN.out] at c2
    have hkn2 : k < n := by rw [HN.out]; exact Hkn.out
    by_cases h0 : 0 < p
    · have HF : Hid (drop s i = (s, false)) := by show _ = _; unfold drop; rw [hf]; simp only [← hp, if_pos h0]
      clear hf hkl hp hpe
      go_wp2
      go_ret
      rw [HF.out]
      exact ⟨rfl, ⟨a, b, ca, cb, HR.out⟩, Chg.refl _ _⟩
    · have HF : Hid (drop s i = ({ s with L := s.L.set k Ent.free }, true)) := by show _ = _; unfold drop; rw [hf]; simp only [← hp, if_neg h0]
      obtain ⟨hR2, hC2⟩ := HR.out.putAll Hkn.out Ent.free q (Nat.le_refl _) (Nat.zero_le _)
      have HR2 := Lib.hid hR2
      have HC2 := Lib.hid hC2
      have e0 := HR.out.ent (k := k) Hkn.out 0 _ rfl
      have e1 := HR.out.ent (k := k) Hkn.out 1 _ rfl
      have e2 := HR.out.ent (k := k) Hkn.out 2 _ rfl
      have f0 := HR.out.entFree (k := k) Hkn.out 0 (by omega)
      have f1 := HR.out.entFree (k := k) Hkn.out 1 (by omega)
      have f2 := HR.out.entFree (k := k) Hkn.out 2 (by omega)
      have f3 := HR.out.entFree (k := k) Hkn.out 3 (by omega)
      rw [Nat.add_zero] at e0 f0
      clear hf hkl hp hpe hR2 hC2
      go_wp2
      go_ret
      rw [HF.out]
      exact ⟨rfl, ⟨a, b, ca, cb, HR2.out⟩, HC2.out⟩
end Go.Proofs.Ythcphabfeapjbaa
