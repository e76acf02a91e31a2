/-
  THE WALKS of the reference's Root and Way.
-/
import Derived.Test.YtepbnimheedodaaDoorME
namespace Go.Proofs.YtepbnimheedodaaDoor
open Go.RowKit Mk

/-- A row of rows of strings, read. -/
def RowsAt (W : World) (v : Value) (ps : List (List Tg)) : Prop :=
  (ps = [] ∧ ∃ A c, v = .slice A 0 c) ∨ ∃ g cap, v = .slice (some ⟨g, 0, none⟩) ps.length cap ∧ g < W.heap.size ∧ ∀ j p, ps[j]? = some p → ∃ b o c, W.cell? ⟨g, j, none⟩ = some (.slice (some ⟨b, o, none⟩) p.length c) ∧ p.length ≤ c ∧ b < W.heap.size ∧ Sees W b o (p.map VS)
theorem RowsAt.below {W W' : World} {v : Value} {ps : List (List Tg)} (h : RowsAt W v ps) (hb : Below W.heap.size W W') : RowsAt W' v ps := by
  rcases h with h | ⟨g, cap, e, hg, hr⟩
  · exact .inl h
  · refine .inr ⟨g, cap, e, Nat.lt_of_lt_of_le hg hb.size, fun j p hp => ?_⟩
    obtain ⟨b, o, c, hc, hle, hlt, hs⟩ := hr j p hp
    exact ⟨b, o, c, (World.cell?_of_block (w := W) (hb.block g hg)).trans hc, hle, Nat.lt_of_lt_of_le hlt hb.size, hs.below hb hlt⟩
theorem RowsAt.form {W : World} {v : Value} {ps : List (List Tg)} (h : RowsAt W v ps) : ∃ A cap, v = .slice A ps.length cap := by
  rcases h with ⟨rfl, A, c, e⟩ | ⟨g, cap, e, _⟩
  · exact ⟨A, c, e⟩
  · exact ⟨_, cap, e⟩
theorem Rowed.rows {B : Nat} {W : World} {v : Value} {ps : List (List Tg)} (h : Rowed VS 38 B W v ps) : RowsAt W v ps := by
  rcases Nat.eq_zero_or_pos ps.length with h0 | h0
  · obtain ⟨vs, ho, hl, _⟩ := h
    obtain ⟨A, c, e⟩ := own_shape ho
    exact .inl ⟨List.eq_nil_of_length_eq_zero h0, A, c, by rw [e, hl, h0]⟩
  · obtain ⟨g, cap, e, _, hg, hr⟩ := h.at_ h0
    refine .inr ⟨g, cap, e, hg, fun j p hp => ?_⟩
    obtain ⟨b, o, c, h1, h2, h3, _, h5⟩ := hr j p hp
    exact ⟨b, o, c, h1, h2, h3, h5⟩

set_option maxRecDepth 100000 in
set_option maxHeartbeats 1000000 in
theorem RMRoot_any (pm : Value) (key : Tg) (l : List Tg) (h32 : ∀ t ∈ l, t.length = 32) (hl : l.length ≤ 100) (x : Value) (w : World) (hK : Hm.KeyAt w pm key) (hx : From w x (l.map VS)) :
    Calls Tryd.prog 12 #[pm, x] w fun e w' => (∃ h : Nat, Hid (IsH l.length h) ∧ e = .returned (VS (root key l h))) ∧ Below w.heap.size w w' := by
  obtain ⟨gm, rb, rc, cb, cc, rfl, hin⟩ := hK.named
  obtain ⟨A, cap, rfl, hsx⟩ := hx.parts
  rw [List.length_map] at hsx hx
  obtain ⟨n, hnl⟩ : ∃ n, n = l.length := ⟨_, rfl⟩
  have HNl := Lib.hid hnl
  have HC := Lib.hid (RMRows_any _ key l h32 hl _ w hK hx)
  rw [List.length_map, ← hnl]
  rw [← hnl] at HC
  clear hsx hx hnl
  clear hin
  go_enter Tryd.func12, Tryd.ntmps12
  go_wp2_with fail
  refine HC.out.mono ?_
  rintro e w1 ⟨⟨h, r, HH, h9, rfl, HR⟩, hb1⟩
  have hl1 : l.length ≤ 4 ^ h := by
    have h1 := HH.out.2.1
    have h2 := pow_int h
    have h3 := HNl.out
    omega
  have HLl : Hid ((lev key (full l h) h).length = 1) := by show _ = _; rw [lev_length key _ h (full_length l h hl1) h (Nat.le_refl _), Nat.sub_self, Nat.pow_zero]
  obtain ⟨T, HT⟩ : ∃ T, Hid (T = lev key (full l h) h) := ⟨_, rfl⟩
  rw [← HT.out] at HLl
  obtain ⟨g, c1, rfl, _, hg, hr⟩ := HR.out.at_ (by rw [rowsTo_length]; omega)
  rw [rowsTo_length]
  obtain ⟨b, o, c2, hc, _, hb, _, hs⟩ := hr h T (by rw [rowsTo_at key _ h h (Nat.le_refl _), HT.out])
  rw [HLl.out] at hc
  have c0 : w1.cell? ⟨b, o, none⟩ = some (.string (strB (root key l h))) := by
    have h1 := hs 0 (VS (root key l h)) (by
      rw [List.getElem?_map]
      have : T[0]? = some (root key l h) := by
        rw [root, ← HT.out, List.getD_eq_getElem?_getD, List.getElem?_eq_getElem (by rw [HLl.out]; omega)]; rfl
      rw [this]; rfl)
    rwa [Nat.add_zero] at h1
  have e1 : ((h + 1 : Nat) : Int) - 1 = (h : Int) := by omega
  have HS : Hid (strB (root key l h) = strB (root key l h)) := rfl
  obtain ⟨s, HSs⟩ : ∃ s, Hid (s = strB (root key l h)) := ⟨_, rfl⟩
  rw [← HSs.out] at c0
  clear HS hr HR HC HT HLl hs
  go_wp2
  go_ret
  exact ⟨⟨h, HH, by rw [VS, ← HSs.out]; rfl⟩, hb1⟩
end Go.Proofs.YtepbnimheedodaaDoor
