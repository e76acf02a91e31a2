/-
  THE WALKS of the cache's shard, a ring's next, an entry's stays.
-/
import Derived.Test.YthcphabfeapjbaaPU
import Derived.Deep.QuietTactic
namespace Go.Proofs.Ythcphabfeapjbaa
open Go.RowKit Ca

section
variable {w : World} {ro : Nat → Nat} {D a ca sh room q : Nat} {ps rs : Nat → Nat} {vs : Nat → Value} {s : St}
set_option maxRecDepth 100000 in
set_option maxHeartbeats 1000000 in
theorem Cshard_neg (w : World) (D : Nat) (i : Int) (h0 : i < 0) :
    Calls Try.prog 23 #[.pointer (some ⟨D, 0, none⟩), .int .i64 i] w fun e w' => e = .returned (.pointer none) ∧ Below w.heap.size w w' := by
  go_enter Try.func23, Try.ntmps23
  go_wp2
  go_ret
  exact ⟨rfl, Below.refl _ _⟩
set_option maxRecDepth 100000 in
set_option maxHeartbeats 1000000 in
theorem Cshard_pos (h : CacL w ro D a ca sh room q ps rs vs s) (i : Int) (h0 : 0 ≤ i) :
    Calls Try.prog 23 #[.pointer (some ⟨D, 0, none⟩), .int .i64 i] w fun e w' => e = .returned (.pointer (some ⟨a, i.toNat % sh * 2, none⟩)) ∧ Below w.heap.size w w' := by
  obtain ⟨u, rfl⟩ : ∃ u : Nat, i = (u : Int) := ⟨i.toNat, by omega⟩
  obtain ⟨x, hx⟩ : ∃ x, x = u % sh := ⟨_, rfl⟩
  have hxl : x < sh := by rw [hx]; exact Nat.mod_lt _ h.sh1.1
  have hrem : Int.tmod (u : Int) (sh : Int) = (x : Int) := by rw [hx, Int.ofNat_tmod]
  have hs0 : ¬ (sh : Int) = 0 := by have := h.sh1.1; omega
  have e1 : ((sh : Int) == 0) = false := by simpa using hs0
  have e2 : decide ((u : Int) < 0) = false := by simp
  rw [Int.toNat_natCast, ← hx]
  have c0 := h.c0
  have hs64 := h.sh1.2
  clear hx h
  go_enter Try.func23, Try.ntmps23
  go_wp2_with fail
  go_quiet (fail)
  go_wp2
  go_ret
  exact ⟨rfl, below_drewN (Below.refl _ _) _⟩
set_option maxRecDepth 100000 in
set_option maxHeartbeats 1000000 in
theorem Cnext_any (h : CacL w ro D a ca sh room q ps rs vs s) {t : Nat} (ht : t < sh) (hd : Nat) (hhd : s.hands.getD t 0 = hd) :
    Calls Try.prog 30 #[.pointer (some ⟨rs t, 0, none⟩)] w fun e w' => e = .returned (.int .i64 (hd : Int)) ∧ w' = w.setCell ⟨rs t, 0, none⟩ (.int .i64 (((hd + 1) % room : Nat) : Int)) := by
  have r0 := h.r0 ht
  have r1 := h.r1 ht
  have hrm := h.rm1
  have hfr := (h.rng t ht).headFree (j := 0) (by simp)
  have hhl : hd < room := by rw [← hhd]; exact h.fit.handLt hrm.1 t
  rw [hhd] at r0
  obtain ⟨x, hx⟩ : ∃ x, x = (hd + 1) % room := ⟨_, rfl⟩
  have hrem : Int.tmod ((hd : Int) + 1) (room : Int) = (x : Int) := by rw [hx]; show Int.tmod ((hd + 1 : Nat) : Int) _ = _; rw [Int.ofNat_tmod]
  have hr0 : ¬ (room : Int) = 0 := by omega
  rw [← hx]
  generalize rs t = rt at r0 r1 hfr ⊢
  clear h hx hhd
  go_enter Try.func30, Try.ntmps30
  go_wp2
  go_ret
  exact ⟨rfl, rfl⟩
/-- Whether the hand passes an entry. -/
theorem Cstays_pins (h : CacL w ro D a ca sh room q ps rs vs s) {t j : Nat} (ht : t < sh) (hj : j < room) (hp : 0 < (s.L.getD (t * room + j) Ent.free).pins) :
    Calls Try.prog 38 #[.pointer (some ⟨ps t, j * 5, none⟩)] w fun e w' => e = .returned (.bool true) ∧ w' = w := by
  have c4 := h.ent ht hj 4 _ rfl
  generalize (s.L.getD (t * room + j) Ent.free).pins = p at hp c4
  have hp2 : (0 : Int) < (p : Int) := by omega
  clear h
  go_enter Try.func38, Try.ntmps38
  go_wp2
  go_ret
  exact ⟨rfl, rfl⟩
theorem Cstays_flag (h : CacL w ro D a ca sh room q ps rs vs s) {t j : Nat} (ht : t < sh) (hj : j < room) (hp : (s.L.getD (t * room + j) Ent.free).pins = 0) (f : Bool) (hf : (s.L.getD (t * room + j) Ent.free).flag = f) :
    Calls Try.prog 38 #[.pointer (some ⟨ps t, j * 5, none⟩)] w fun e w' => e = .returned (.bool f) ∧ w' = w.setCell ⟨ps t, j * 5 + 3, none⟩ (.bool false) := by
  have c4 := h.ent ht hj 4 _ rfl
  have c3 := h.ent ht hj 3 _ rfl
  have f3 := h.entFree ht hj 3 (by omega)
  rw [hp] at c4
  rw [hf] at c3
  clear h hp hf
  go_enter Try.func38, Try.ntmps38
  go_wp2
  go_ret
  exact ⟨rfl, rfl⟩
end
end Go.Proofs.Ythcphabfeapjbaa
