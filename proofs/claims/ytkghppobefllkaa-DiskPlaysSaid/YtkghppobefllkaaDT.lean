/-
  THE WALKS of the reference's Dirty, Crash.
-/
import Derived.Test.YtkghppobefllkaaDS
namespace Go.Proofs.Ytkghppobefllkaa
open Go.RowKit Dsk

/-- How many of the first k blocks are dirty; a crash that has come to block k: under plain names. -/
def cntK (L : List Blk) (k : Nat) : Nat := cnt (L.take k)
def crashK (keep : Nat → Bool) (L : List Blk) (k : Nat) : List Blk := crashTo keep L k

set_option maxRecDepth 100000 in
set_option maxHeartbeats 1000000 in
theorem RDDirty_any {w : World} {G : Nat → Prop} {M : Nat} {L : List Blk} (h : RefAt w G M L) :
    Calls Try.prog 24 #[.pointer (some ⟨M, 0, none⟩)] w fun e w' => e = .returned (.int .i64 (cnt L)) ∧ w' = w := by
  obtain ⟨a, b, c, ca, cb, cc, hR⟩ := h
  have hf := hR.few
  obtain ⟨n, hn⟩ : ∃ n, n = L.length := ⟨_, rfl⟩
  have HR := Lib.hid hR
  have c1 := hR.bLen
  have Hn := Lib.hid hn
  have Hcnt : Hid (cntK L n = cnt L) := by show _ = _; rw [cntK, hn, List.take_length]
  rw [← hn] at hf c1
  clear hR hn
  go_enter Try.func24, Try.ntmps24
  go_wp2
  go_loopw [3, 4] (fun m i wr => ∃ k : Nat, k ≤ n ∧ i = .int .i64 k ∧ m = .int .i64 (cntK L k) ∧ Hid (wr = w)) (fun _ i _ => n - (intOf i).toNat)
  case atStart => exact ⟨0, by omega, rfl, rfl, rfl⟩
  case round =>
    obtain ⟨k, hk, rfl, rfl, hw⟩ := hrel
    obtain rfl := hw.out
    by_cases hlt : k < n
    · obtain ⟨x, hx⟩ : ∃ x, L[k]? = some x := ⟨_, List.getElem?_eq_getElem (by rw [← Hn.out]; exact hlt)⟩
      have c2 := HR.out.atB hx
      have hs := cnt_snoc hx
      have hox := HR.out.ok k x hx
      cases hw : x.wr with
      | none =>
        have Hs : Hid (cntK L (k + 1) = cntK L k) := by show _ = _; rw [cntK, cntK, hs, Blk.dirty, hw]; simp
        rw [hw] at c2
        have c3 : wr.cell? ⟨b, k, none⟩ = some (.string ⟨#[]⟩) := c2
        clear c2 hs hox hw hx
        go_wp2
        go_roundw
        case rel => exact ⟨k + 1, by omega, by go_num, by rw [Hs.out], trivial⟩
        case measure => simp [intOf]; omega
      | some q =>
        have Hs : Hid (cntK L (k + 1) = cntK L k + 1) := by show _ = _; rw [cntK, cntK, hs, Blk.dirty, hw]; simp
        have hle : cntK L k ≤ 512 := by unfold cntK; have := cnt_take_le L k; have := HR.out.few; omega
        rw [hw] at c2
        have c3 : wr.cell? ⟨b, k, none⟩ = some (.string (strB q)) := c2
        have hne := strB_ne (hox.wr q hw)
        generalize strB q = s at *
        clear c2 hs hox hw hx
        go_wp2
        go_roundw
        case rel => exact ⟨k + 1, by omega, by go_num, by rw [Hs.out]; go_num, trivial⟩
        case measure => simp [intOf]; omega
    · obtain rfl : k = n := by omega
      go_wp2
      go_ret
      exact ⟨by rw [← Hcnt.out]; rfl, rfl⟩
end Go.Proofs.Ytkghppobefllkaa
