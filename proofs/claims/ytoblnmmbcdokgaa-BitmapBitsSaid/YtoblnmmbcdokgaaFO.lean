/-
  THE WALKS of the program's has, bit, Get, Set (and of bytes.Clone).
-/
import Derived.Test.YtoblnmmbcdokgaaFC
namespace Go.Proofs.Ytoblnmmbcdokgaa
open Go.RowKit Bm

set_option maxRecDepth 100000 in
set_option maxHeartbeats 1000000 in
theorem Bmclone_any (v : Value) (bs : List UInt8) (w : World) (hk : bs.length ≤ 1000000) (hA : Arg w v bs) : Calls Try.prog 16 #[v] w fun e w' => ∃ v', e = .returned v' ∧ Hid (Own w' w.heap.size 5 v' (bs.map V8)) ∧ Below w.heap.size w w' := by
  obtain ⟨A, cap, rfl⟩ := hA.form
  cases A with
  | none =>
    have hn : bs = [] := by
      rcases hA with ⟨A, _, h⟩ | ⟨b, o, c, h, _⟩
      · exact h
      · injection h with h; cases h
    subst hn
    clear hA
    have he : ∀ W : World, (binOp .eql 22 (.slice none 0 cap) (.slice none 0 0)).run Try.prog W = .ok (.bool true) W := fun _ => rfl
    rw [List.length_nil]
    go_enter Try.func16, Try.ntmps16
    go_wp2
    go_ret
    exact ⟨_, rfl, Own.nil _ _ _, Below.refl _ _⟩
  | some ad =>
    obtain ⟨w1, hw1⟩ : ∃ W, W = w.alloc (.cells #[] 5) := ⟨_, rfl⟩
    have HFr : Hid (From w1 (.slice (some ad) bs.length cap) (bs.map V8)) := by rw [hw1]; exact (arg_from hA).alloc _
    have HO : Hid (Own w1 w.heap.size 5 (.slice (some ⟨w.heap.size, 0, none⟩) 0 0) []) := by rw [hw1]; exact Own.lit w w.heap.size 5 [] (Nat.le_refl _) (Nat.zero_le _)
    have HB : Hid (Below w.heap.size w w1) := by rw [hw1]; exact (Below.refl _ _).alloc (Nat.le_refl _) _
    have HLn : Hid (([] : List Value).length + (bs.map V8).length ≤ 100000000) := by show _ ≤ _; simp; omega
    have H1 := Lib.hid (oneC8 bs)
    have Hsz : Hid (w.heap.size ≤ w1.heap.size) := HB.out.size
    obtain ⟨n, hn⟩ : ∃ n, n = bs.length := ⟨_, rfl⟩
    rw [← hn] at HFr ⊢
    clear hA hk hn
    have he : ∀ W : World, (binOp .eql 22 (.slice (some ad) n cap) (.slice none 0 0)).run Try.prog W = .ok (.bool false) W := fun _ => rfl
    go_enter Try.func16, Try.ntmps16
    go_wp2_with (at_builtin; rw [← hw1]; refine wpList_app rfl (.tmp 5) (.tmp 6) 22 rfl w.heap.size 5 Try.underlying22 info8 rfl (by decide) _ [] rfl HO.out _ (bs.map V8) rfl HFr.out H1.out HLn.out Hsz.out ?_; intro v2 w2 hown2 hg2 _; rw [List.nil_append] at hown2; have HO2 := Lib.hid hown2; have HB2 : Hid (Below w.heap.size w w2) := below_app HB.out HO.out hg2 (Nat.le_refl _) HB.out.size; clear hown2 hg2)
    go_ret
    exact ⟨v2, rfl, HO2.out, HB2.out⟩

set_option maxRecDepth 100000 in
set_option maxHeartbeats 1000000 in
theorem Bmhas_any (b : List UInt8) (i : Int) (A : Option Addr) (cap : Nat) (w : World) (hl : b.length ≤ 1000000) (hi : In64 i) :
    Calls Try.prog 15 #[.slice A b.length cap, .int .i64 i] w fun e w' => e = .returned (.bool (has b i)) ∧ w' = w := by
  obtain ⟨n, hn⟩ : ∃ n, n = b.length := ⟨_, rfl⟩
  have HH : Hid (has b i = decide (0 ≤ i ∧ i / 8 < (n : Int))) := by
    show _ = _
    rw [Bool.eq_iff_iff, has_iff, decide_eq_true_iff, hn]
    omega
  rw [← hn, HH.out] at *
  obtain ⟨h1, h2⟩ := hi
  clear HH hn
  by_cases h0 : 0 ≤ i
  · by_cases h3 : i / 8 < (n : Int)
    · rw [decide_eq_true ⟨h0, h3⟩]
      go_enter Try.func15, Try.ntmps15
      go_wp2
      go_ret
      exact ⟨rfl, rfl⟩
    · rw [decide_eq_false (fun h => h3 h.2)]
      go_enter Try.func15, Try.ntmps15
      go_wp2
      go_ret
      exact ⟨rfl, rfl⟩
  · rw [decide_eq_false (fun h => h0 h.1)]
    go_enter Try.func15, Try.ntmps15
    go_wp2
    go_ret
    exact ⟨rfl, rfl⟩
end Go.Proofs.Ytoblnmmbcdokgaa
