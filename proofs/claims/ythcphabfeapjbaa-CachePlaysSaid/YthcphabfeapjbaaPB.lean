/-
  THE REFERENCE'S CACHE: how it lies in memory; THE WALK of its At.
-/
import Derived.Test.YthcphabfeapjbaaPA
import Derived.Deep.RegionHeld3
import Derived.StillTailTactics
namespace Go.Proofs.Ythcphabfeapjbaa
open Go.RowKit Ca

abbrev VSt (b : List UInt8) : Value := .string (strB b)
def Ca.Ent.cells (e : Ent) : List Value := [.int .i64 e.block, VSt e.b, .bool e.flag, .int .i64 (e.pins : Int)]
def entCells (L : List Ent) : List Value := L.flatMap Ent.cells
theorem entCells_length (L : List Ent) : (entCells L).length = 4 * L.length := by
  induction L with
  | nil => rfl
  | cons e r ih => simp only [entCells, List.flatMap_cons, List.length_append, List.length_cons] at ih ⊢; rw [ih]; simp [Ent.cells]; omega
theorem entCells_get : ∀ (L : List Ent) (k : Nat) (e : Ent) (j : Nat) (v : Value), L[k]? = some e → e.cells[j]? = some v → (entCells L)[k * 4 + j]? = some v
  | [], k, e, j, v, hk, _ => by simp at hk
  | e :: r, 0, e', j, v, hk, hj => by
    simp only [List.getElem?_cons_zero, Option.some.injEq] at hk
    subst hk
    have hlt := (List.getElem?_eq_some_iff.1 hj).1
    rw [entCells, List.flatMap_cons, Nat.zero_mul, Nat.zero_add, List.getElem?_append_left hlt]
    exact hj
  | e :: r, k + 1, e', j, v, hk, hj => by
    simp only [List.getElem?_cons_succ] at hk
    have h4 : e.cells.length = 4 := rfl
    rw [entCells, List.flatMap_cons, List.getElem?_append_right (by omega), show (k + 1) * 4 + j - e.cells.length = k * 4 + j by omega]
    exact entCells_get r k e' j v hk hj
theorem entCells_set : ∀ (L : List Ent) (k j : Nat) (e : Ent) (v : Value) (e' : Ent), L[k]? = some e → j < 4 → e'.cells = e.cells.set j v → entCells (L.set k e') = (entCells L).set (k * 4 + j) v
  | [], k, j, e, v, e', hk, _, _ => by simp at hk
  | e :: r, 0, j, e0, v, e', hk, hj, hc => by
    simp only [List.getElem?_cons_zero, Option.some.injEq] at hk
    subst hk
    have h4 : e.cells.length = 4 := rfl
    rw [List.set_cons_zero, entCells, entCells, List.flatMap_cons, List.flatMap_cons, hc, Nat.zero_mul, Nat.zero_add, List.set_append_left _ _ (by omega)]
  | e :: r, k + 1, j, e0, v, e', hk, hj, hc => by
    simp only [List.getElem?_cons_succ] at hk
    have h4 : e.cells.length = 4 := rfl
    have ih := entCells_set r k j e0 v e' hk hj hc
    rw [List.set_cons_succ, entCells, entCells, List.flatMap_cons, List.flatMap_cons, List.set_append_right _ _ (by omega), show (k + 1) * 4 + j - e.cells.length = k * 4 + j by omega]
    exact congrArg (e.cells ++ ·) ih

/-- The reference's cache: its head at M, its entries at a, its hands at b; nothing is counted beyond q. -/
structure RefC (w : World) (G : Nat → Prop) (M a b ca cb sh room q : Nat) (s : St) : Prop where
  head : Here w M 0 [.int .i64 (sh : Int), .int .i64 (room : Int), .slice (some ⟨a, 0, none⟩) (sh * room) ca, .slice (some ⟨b, 0, none⟩) sh cb, .int .i64 (s.gets : Int), .int .i64 (s.hits : Int)]
  ents : Here w a 0 (entCells s.L)
  hnds : Here w b 0 (s.hands.map fun (h : Nat) => .int .i64 (h : Int))
  len : s.L.length = sh * room
  hlen : s.hands.length = sh
  hlt : ∀ h ∈ s.hands, h < room
  gq : s.gets ≤ q ∧ s.hits ≤ s.gets
  pq : ∀ e ∈ s.L, e.pins ≤ q
  sh1 : 1 ≤ sh ∧ sh ≤ 64
  rm1 : 1 ≤ room ∧ room ≤ 64
  Ma : M ≠ a
  Mb : M ≠ b
  ab : a ≠ b
  gM : G M
  ga : G a
  gb : G b
  lt : ∀ k, G k → k < w.heap.size
def RefK (w : World) (G : Nat → Prop) (M sh room q : Nat) (s : St) : Prop := ∃ a b ca cb, RefC w G M a b ca cb sh room q s
section
variable {w w' : World} {G : Nat → Prop} {M a b ca cb sh room q : Nat} {s : St}
theorem RefC.stay {X : Nat → Nat → Prop} (h : RefC w G M a b ca cb sh room q s) (hc : Chg X w w') (hX : ∀ k o, G k → ¬ X k o) : RefC w' G M a b ca cb sh room q s :=
  ⟨h.head.chg hc fun _ _ => hX _ _ h.gM, h.ents.chg hc fun _ _ => hX _ _ h.ga, h.hnds.chg hc fun _ _ => hX _ _ h.gb, h.len, h.hlen, h.hlt, h.gq, h.pq, h.sh1, h.rm1, h.Ma, h.Mb, h.ab, h.gM, h.ga, h.gb, fun k hk => Nat.lt_of_lt_of_le (h.lt k hk) hc.size⟩
theorem RefK.stay {X : Nat → Nat → Prop} (h : RefK w G M sh room q s) (hc : Chg X w w') (hX : ∀ k o, G k → ¬ X k o) : RefK w' G M sh room q s := by
  obtain ⟨a, b, ca, cb, h⟩ := h
  exact ⟨a, b, ca, cb, h.stay hc hX⟩
theorem RefC.c0 (h : RefC w G M a b ca cb sh room q s) : w.cell? ⟨M, 0, none⟩ = some (.int .i64 (sh : Int)) := h.head.head (j := 0) rfl
theorem RefC.c1 (h : RefC w G M a b ca cb sh room q s) : w.cell? ⟨M, 1, none⟩ = some (.int .i64 (room : Int)) := h.head.head (j := 1) rfl
theorem RefC.c2 (h : RefC w G M a b ca cb sh room q s) : w.cell? ⟨M, 2, none⟩ = some (.slice (some ⟨a, 0, none⟩) (sh * room) ca) := h.head.head (j := 2) rfl
theorem RefC.c3 (h : RefC w G M a b ca cb sh room q s) : w.cell? ⟨M, 3, none⟩ = some (.slice (some ⟨b, 0, none⟩) sh cb) := h.head.head (j := 3) rfl
theorem RefC.c4 (h : RefC w G M a b ca cb sh room q s) : w.cell? ⟨M, 4, none⟩ = some (.int .i64 (s.gets : Int)) := h.head.head (j := 4) rfl
theorem RefC.c5 (h : RefC w G M a b ca cb sh room q s) : w.cell? ⟨M, 5, none⟩ = some (.int .i64 (s.hits : Int)) := h.head.head (j := 5) rfl
theorem RefC.free (h : RefC w G M a b ca cb sh room q s) (j : Nat) (hj : j < 6) : w.frozen? ⟨M, j, none⟩ = false := h.head.headFree hj
theorem RefC.ent (h : RefC w G M a b ca cb sh room q s) {k : Nat} (hk : k < sh * room) (j : Nat) (v : Value) (hv : (s.L.getD k Ent.free).cells[j]? = some v) : w.cell? ⟨a, k * 4 + j, none⟩ = some v := by
  have hkl : k < s.L.length := by rw [h.len]; exact hk
  refine h.ents.head (entCells_get s.L k (s.L.getD k Ent.free) j v ?_ hv)
  rw [List.getD_eq_getElem?_getD, List.getElem?_eq_getElem hkl]; rfl
theorem RefC.entFree (h : RefC w G M a b ca cb sh room q s) {k : Nat} (hk : k < sh * room) (j : Nat) (hj : j < 4) : w.frozen? ⟨a, k * 4 + j, none⟩ = false :=
  h.ents.headFree (by rw [entCells_length, h.len]; omega)
/-- One cell of an entry, written. -/
theorem RefC.putEnt (h : RefC w G M a b ca cb sh room q s) {k j : Nat} (hk : k < sh * room) (hj : j < 4) (v : Value) (e' : Ent) (he : e'.cells = (s.L.getD k Ent.free).cells.set j v) (q' : Nat) (hq : q ≤ q') (hp : e'.pins ≤ q') :
    RefC (w.setCell ⟨a, k * 4 + j, none⟩ v) G M a b ca cb sh room q' { s with L := s.L.set k e' } ∧ Chg (fun g _ => G g) w (w.setCell ⟨a, k * 4 + j, none⟩ v) := by
  have hkl : k < s.L.length := by rw [h.len]; exact hk
  have hg : s.L[k]? = some (s.L.getD k Ent.free) := by rw [List.getD_eq_getElem?_getD, List.getElem?_eq_getElem hkl]; rfl
  have h1 := h.ents.put (k * 4 + j) (by rw [entCells_length]; omega) v
  rw [Nat.zero_add, ← entCells_set s.L k j _ v e' hg hj he] at h1
  refine ⟨⟨h.head.putOff (p := ⟨a, k * 4 + j, none⟩) h.Ma _, h1, h.hnds.putOff (p := ⟨a, k * 4 + j, none⟩) (fun e => h.ab e.symm) _, by simp [h.len], h.hlen, h.hlt, ⟨Nat.le_trans h.gq.1 hq, h.gq.2⟩, fun e he2 => ?_, h.sh1, h.rm1, h.Ma, h.Mb, h.ab, h.gM, h.ga, h.gb, fun g hg => by have := h.lt g hg; simpa using this⟩, ?_⟩
  · rcases List.mem_or_eq_of_mem_set he2 with h2 | h2
    · exact Nat.le_trans (h.pq e h2) hq
    · rw [h2]; exact hp
  · obtain ⟨u, hu⟩ : ∃ u, (s.L.getD k Ent.free).cells[j]? = some u := ⟨_, List.getElem?_eq_getElem (by simpa [Ent.cells] using hj)⟩
    exact (Chg.refl _ w).setCell (p := ⟨a, k * 4 + j, none⟩) rfl (fun _ => h.ga) (by rw [h.ent hk j u hu]; rfl) _
end
def atI (o : Option Nat) : Int := match o with
  | some k => (k : Int)
  | none => -1
theorem iO10 (x : Int) : intOf (.int .i64 x) = x := rfl

set_option maxRecDepth 100000 in
set_option maxHeartbeats 1000000 in
theorem RCAt_any {w : World} {G : Nat → Prop} {M sh room q : Nat} {s : St} (h : RefK w G M sh room q s) (i : Int) :
    Calls Try.prog 27 #[.pointer (some ⟨M, 0, none⟩), .int .i64 i] w fun e w' => e = .returned (.int .i64 (atI (find s.L i))) ∧ w' = w := by
  obtain ⟨a, b, ca, cb, hR⟩ := h
  have HR := Lib.hid hR
  have c2 := hR.c2
  have hbd : sh * room ≤ 64 * 64 := Nat.mul_le_mul hR.sh1.2 hR.rm1.2
  obtain ⟨n, hn⟩ : ∃ n, n = sh * room := ⟨_, rfl⟩
  have HN := Lib.hid hn
  have HLn : Hid (s.L.length = n) := by show _ = _; rw [hR.len, hn]
  rw [← hn] at c2 hbd
  clear hR hn
  by_cases hi : 0 ≤ i
  · have Hf : Hid (find s.L i = atFrom s.L i n) := by show _ = _; unfold find; rw [if_pos hi, HLn.out]
    go_enter Try.func27, Try.ntmps27
    go_wp2
    go_loop [5] (fun k => ∃ j : Nat, j ≤ n ∧ k = .int .i64 j ∧ Hid (atFrom s.L i n = atFrom s.L i (n - j))) (fun k => n - (intOf k).toNat)
    case atStart => exact ⟨0, by omega, rfl, rfl⟩
    case round =>
      obtain ⟨j, hj, rfl, HA⟩ := hrel
      by_cases hlt : j < n
      · have c4 := HR.out.ent (k := j) (by rw [← HN.out]; exact hlt) 0 (.int .i64 (s.L.getD j Ent.free).block) rfl
        rw [Nat.add_zero] at c4
        have Hst : Hid (atFrom s.L i (n - j) = if (s.L.getD j Ent.free).block = i then some j else atFrom s.L i (n - (j + 1))) := by
          show _ = _
          rw [show n - j = (n - (j + 1)) + 1 by omega, atFrom, HLn.out, show n - (n - (j + 1) + 1) = j by omega]
        obtain ⟨bk, hbk⟩ : ∃ x, x = (s.L.getD j Ent.free).block := ⟨_, rfl⟩
        rw [← hbk] at c4 Hst
        clear hbk
        by_cases he : bk = i
        · subst he
          have HF : Hid (find s.L bk = some j) := by show _ = _; rw [Hf.out, HA.out, Hst.out, if_pos rfl]
          go_wp2
          go_ret
          rw [HF.out]
          exact ⟨rfl, rfl⟩
        · have HF : Hid (atFrom s.L i n = atFrom s.L i (n - (j + 1))) := by show _ = _; rw [HA.out, Hst.out, if_neg he]
          go_wp2
          go_round
          case rel => exact ⟨j + 1, by omega, by go_num, HF⟩
          case measure => rw [iO10, show intOf (.int .i64 (j : Int)) = (j : Int) from rfl]; omega
      · obtain rfl : j = n := by omega
        have HF : Hid (find s.L i = none) := by show _ = _; rw [Hf.out, HA.out, Nat.sub_self]; rfl
        go_wp2
        go_ret
        rw [HF.out]
        exact ⟨rfl, rfl⟩
  · have HF : Hid (find s.L i = none) := by show _ = _; unfold find; rw [if_neg hi]
    have hn1 : 0 < n := by rw [HN.out]; exact Nat.mul_pos HR.out.sh1.1 HR.out.rm1.1
    go_enter Try.func27, Try.ntmps27
    go_wp2
    go_loop [5] (fun k => k = .int .i64 0) (fun _ => 0)
    case atStart => rfl
    case round =>
      subst hrel
      go_wp2
      go_ret
      rw [HF.out]
      exact ⟨rfl, rfl⟩
end Go.Proofs.Ythcphabfeapjbaa
