/-
  THE WALKS of the laws' Texts and ways: tags as texts.
-/
import Derived.Test.YtnlbhbacedbdoaaDoorMH
namespace Go.Proofs.YtnlbhbacedbdoaaDoor
open Go.RowKit Mk

/-- A slice of tags, read. -/
def Tags (w : World) (v : Value) (l : List Tg) : Prop :=
  (∀ t ∈ l, t.length = 32) ∧ ∃ A cap, v = .slice A l.length cap ∧ (0 < l.length → ∃ b o, A = some ⟨b, o, none⟩ ∧ b < w.heap.size ∧ ∀ j t, l[j]? = some t → Sees w b (o + 32 * j) (t.map V8))
theorem Tags.below {w w' : World} {v : Value} {l : List Tg} (h : Tags w v l) (hb : Below w.heap.size w w') : Tags w' v l := by
  obtain ⟨h32, A, cap, e, hs⟩ := h
  refine ⟨h32, A, cap, e, fun hp => ?_⟩
  obtain ⟨b, o, eA, hl, hs⟩ := hs hp
  exact ⟨b, o, eA, Nat.lt_of_lt_of_le hl hb.size, fun j t ht => (hs j t ht).below hb hl⟩

set_option maxRecDepth 100000 in
set_option maxHeartbeats 1000000 in
theorem MTexts_any (l : List Tg) (hl : l.length ≤ 1000) (v : Value) (w : World) (h : Tags w v l) :
    Calls Tryd.prog 12 #[v] w fun e w' => (∃ r, e = .returned r ∧ Hid (Own w' w.heap.size 9 r (l.map VS))) ∧ Below w.heap.size w w' := by
  obtain ⟨h32, A, cap, rfl, hs⟩ := h
  obtain ⟨n, hnl⟩ : ∃ n, n = l.length := ⟨_, rfl⟩
  rw [← hnl] at hl hs ⊢
  have HNl := Lib.hid hnl
  have H32 := Lib.hid h32
  have HS := Lib.hid hs
  clear hnl h32 hs
  go_enter Tryd.func12, Tryd.ntmps12
  go_wp2
  go_loopw [3, 4] (fun out i wr => ∃ k : Nat, k ≤ n ∧ i = .int .i64 k ∧ Hid (Own wr w.heap.size 9 out ((l.take k).map VS)) ∧ Hid (Below w.heap.size w wr)) (fun _ i _ => n - (intOf i).toNat)
  case atStart => exact ⟨0, by omega, rfl, Own.nil _ _ _, Below.refl _ _⟩
  case round =>
    obtain ⟨k, hk, rfl, HO, HB⟩ := hrel
    have hsr := HB.out.size
    by_cases hlt : k < n
    · obtain ⟨b, o, rfl, hb, hsee⟩ := HS.out (by omega)
      obtain ⟨t, ht⟩ : ∃ t, l[k]? = some t := ⟨_, List.getElem?_eq_getElem (by rw [← HNl.out]; exact hlt)⟩
      have ht32 := H32.out t (List.mem_of_getElem? ht)
      have Htk : Hid (l.take (k + 1) = l.take k ++ [t]) := by
        show _ = _
        rw [take_snoc l k (by rw [← HNl.out]; exact hlt) [], List.getD_eq_getElem?_getD, ht]; rfl
      have HSe : Hid (Sees wr b (o + k * 32) (t.map V8)) := by rw [Nat.mul_comm]; exact (hsee k t ht).below HB.out hb
      have hcv := conv_arg (w := wr) (v := .slice (some ⟨b, o + k * 32, none⟩) 32 32) (bs := t) (.inr ⟨b, o + k * 32, 32, by rw [ht32], by omega, by omega, HSe.out⟩)
      have HOa := Lib.hid (HO.out.alloc (.cells #[VS t] 9))
      have HLn : Hid (((l.take k).map VS).length + [VS t].length ≤ 1000000) := by show _ ≤ _; rw [List.length_map, List.length_take]; simp; omega
      clear ht ht32 hsee
      go_wp2_with (at_builtin; refine wpList_appT rfl (.tmp 11) (.tmp 17) 34 rfl w.heap.size 9 Tryd.underlying34 infoStr rfl (by decide) _ ((l.take k).map VS) rfl HOa.out _ [VS t] rfl (from_new wr 9 [VS t]) (oneStr [t]) HLn.out (by simp; omega) ?_; intro v7 w7 hown hg _)
      go_roundw
      case rel =>
        refine ⟨k + 1, by omega, by go_num, ?_, ?_⟩
        · show Own _ _ _ _ _
          rw [Htk.out, List.map_append]; exact hown
        · exact below_app (HB.out.alloc hsr _) HOa.out hg (Nat.le_refl _) (by simp; omega)
      case measure => simp [intOf]; omega
    · obtain rfl : k = n := by omega
      rw [List.take_of_length_le (by rw [← HNl.out]; omega)] at HO
      go_wp2
      go_ret
      exact ⟨⟨u3, rfl, HO⟩, HB.out⟩
end Go.Proofs.YtnlbhbacedbdoaaDoor
