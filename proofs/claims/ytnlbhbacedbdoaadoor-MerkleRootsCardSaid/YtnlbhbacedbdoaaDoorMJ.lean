/-
  THE WALKS of the laws' ways (rows of fours as texts) and same.
-/
import Derived.Test.YtnlbhbacedbdoaaDoorMI
namespace Go.Proofs.YtnlbhbacedbdoaaDoor
open Go.RowKit Mk

/-- A slice of fours of tags, read. -/
def Fours (w : World) (v : Value) (ws : List (List Tg)) : Prop :=
  (∀ f ∈ ws, f.length = 4 ∧ ∀ t ∈ f, t.length = 32) ∧ ∃ A cap, v = .slice A ws.length cap ∧ (0 < ws.length → ∃ b o, A = some ⟨b, o, none⟩ ∧ b < w.heap.size ∧ ∀ j f, ws[j]? = some f → ∀ i t, f[i]? = some t → Sees w b (o + 128 * j + 32 * i) (t.map V8))
theorem Fours.below {w w' : World} {v : Value} {ws : List (List Tg)} (h : Fours w v ws) (hb : Below w.heap.size w w') : Fours w' v ws := by
  obtain ⟨h4, A, cap, e, hs⟩ := h
  refine ⟨h4, A, cap, e, fun hp => ?_⟩
  obtain ⟨b, o, eA, hl, hs⟩ := hs hp
  exact ⟨b, o, eA, Nat.lt_of_lt_of_le hl hb.size, fun j f hf i t ht => (hs j f hf i t ht).below hb hl⟩

set_option maxRecDepth 100000 in
set_option maxHeartbeats 1000000 in
theorem Mways_any (ws : List (List Tg)) (hl : ws.length ≤ 900) (v : Value) (w : World) (h : Fours w v ws) :
    Calls Tryd.prog 15 #[v] w fun e w' => (∃ r, e = .returned r ∧ Hid (RowsAt w' r ws)) ∧ Below w.heap.size w w' := by
  obtain ⟨h4, A, cap, rfl, hs⟩ := h
  obtain ⟨n, hnl⟩ : ∃ n, n = ws.length := ⟨_, rfl⟩
  rw [← hnl] at hl hs ⊢
  have HNl := Lib.hid hnl
  have H4 := Lib.hid h4
  have HS := Lib.hid hs
  clear hnl h4 hs
  go_enter Tryd.func15, Tryd.ntmps15
  go_wp2
  go_loopw [3, 4] (fun out i wr => ∃ k : Nat, k ≤ n ∧ i = .int .i64 k ∧ Hid (Rowed VS 34 w.heap.size wr out (ws.take k)) ∧ Hid (Below w.heap.size w wr)) (fun _ i _ => n - (intOf i).toNat)
  case atStart => exact ⟨0, by omega, rfl, Rowed.nil, Below.refl _ _⟩
  case round =>
    obtain ⟨k, hk, rfl, HO, HB⟩ := hrel
    have hsr := HB.out.size
    by_cases hlt : k < n
    · obtain ⟨b, o, rfl, hb, hsee⟩ := HS.out (by omega)
      obtain ⟨f, hf⟩ : ∃ f, ws[k]? = some f := ⟨_, List.getElem?_eq_getElem (by rw [← HNl.out]; exact hlt)⟩
      obtain ⟨hf4, hf32⟩ := H4.out f (List.mem_of_getElem? hf)
      have Htk : Hid (ws.take (k + 1) = ws.take k ++ [f]) := by
        show _ = _
        rw [take_snoc ws k (by rw [← HNl.out]; exact hlt) [], List.getD_eq_getElem?_getD, hf]; rfl
      have HF4 := Lib.hid hf4
      have HTg : Hid (Tags wr (.slice (some ⟨b, o + k * 128, none⟩) 4 4) f) := by
        refine ⟨hf32, _, 4, by rw [hf4], fun _ => ⟨b, o + k * 128, rfl, by omega, fun j t ht => ?_⟩⟩
        rw [Nat.mul_comm k]
        exact (hsee k f hf j t ht).below HB.out hb
      clear hf hf4 hf32 hsee
      go_wp2_with fail
      refine (MTexts_any f (by rw [HF4.out]; omega) _ wr HTg.out).mono ?_
      rintro e w6 ⟨⟨r, rfl, Hr⟩, hb6⟩
      obtain ⟨g1, c1, rfl, hg1, hgl1, hc1, hs1⟩ := Hr.out.form_cap (by rw [List.length_map, HF4.out]; omega)
      rw [List.length_map, HF4.out] at hc1 ⊢
      have HR6 : Hid (Rowed VS 34 w.heap.size w6 u3 (ws.take k)) := HO.out.below hb6
      have HB6 := Lib.hid (HB.out.trans (hb6.mono hsr))
      have hs6 := HB6.out.size
      obtain ⟨w7, hw7⟩ : ∃ w7, w7 = w6.alloc (.cells #[.slice (some ⟨g1, 0, none⟩) 4 c1] 34) := ⟨_, rfl⟩
      have hal : Below w6.heap.size w6 w7 := by rw [hw7]; exact Joins.below_alloc1 w6 _
      have hsz7 : w7.heap.size = w6.heap.size + 1 := by rw [hw7]; simp
      have HRb : Hid (Rowed VS 34 w.heap.size w7 u3 (ws.take k)) := HR6.out.below hal
      have HSo : Hid (Sees w7 w6.heap.size 0 [.slice (some ⟨g1, 0, none⟩) f.length c1]) := by
        rw [HF4.out, hw7]; exact (Row.new w6 34 [.slice (some ⟨g1, 0, none⟩) 4 c1]).sees
      have HSt : Hid (Sees w7 g1 0 (f.map VS)) := hs1.below hal hgl1
      have Hne : Hid (u3.ownBlock ≠ some g1) := by
        obtain ⟨vs, ho, _⟩ := HO.out
        intro h
        have := (ho.lt h).2
        omega
      have Hln : Hid ((ws.take k).length ≤ 1000) := by show _ ≤ _; rw [List.length_take]; omega
      have Hc1 : Hid (f.length ≤ c1) := by show _ ≤ _; rw [HF4.out]; exact hc1
      have HB7 : Hid (Below w.heap.size w w7) := HB6.out.trans (hal.mono hs6)
      have Hlt1 : Hid (w6.heap.size < w7.heap.size) := by show _ < _; omega
      have Hlt2 : Hid (g1 < w7.heap.size) := by show _ < _; omega
      have Hlt3 : Hid (w.heap.size ≤ w7.heap.size) := by show _ ≤ _; omega
      clear hs1 hal HO HB HTg Hr hb6 HR6
      go_wp2_with (at_builtin; rw [← hw7]; refine wpList_rowed rfl (.tmp 11) (.tmp 17) 41 rfl Tryd.underlying41 infoSS _ rfl HRb.out w6.heap.size 1 rfl Hlt1.out HSo.out Hlt2.out Hne.out Hc1.out HSt.out Hln.out Hlt3.out ?_; intro v9 w9 HR9 hg9 _)
      go_roundw
      case rel =>
        refine ⟨k + 1, by omega, by go_num, ?_, ?_⟩
        · show Rowed _ _ _ _ _ _
          rw [Htk.out]; exact HR9.out
        · obtain ⟨vs, ho, _⟩ := HRb.out
          exact below_app HB7.out ho hg9 (Nat.le_refl _) Hlt3.out
      case measure => simp [intOf]; omega
    · obtain rfl : k = n := by omega
      rw [List.take_of_length_le (by rw [← HNl.out]; omega)] at HO
      have HRw : Hid (RowsAt wr u3 ws) := HO.out.rows
      go_wp2
      go_ret
      exact ⟨⟨u3, rfl, HRw⟩, HB.out⟩
end Go.Proofs.YtnlbhbacedbdoaaDoor
