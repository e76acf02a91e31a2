/-
  PLAIN: what a cache keeps: each entry among its shard's places; one that is pinned stays; what was put in is found.
-/
import Derived.Test.YthcphabfeapjbaaPL
namespace Go.Proofs.Ythcphabfeapjbaa
namespace Ca

/-- Only flags differ. -/
def Like (L L' : List Ent) : Prop := L'.length = L.length ∧ ∀ k, (L'.getD k Ent.free).block = (L.getD k Ent.free).block ∧ (L'.getD k Ent.free).b = (L.getD k Ent.free).b ∧ (L'.getD k Ent.free).pins = (L.getD k Ent.free).pins
theorem Like.refl (L : List Ent) : Like L L := ⟨rfl, fun _ => ⟨rfl, rfl, rfl⟩⟩
theorem Like.trans {A B C : List Ent} (h : Like A B) (g : Like B C) : Like A C :=
  ⟨g.1.trans h.1, fun k => ⟨(g.2 k).1.trans (h.2 k).1, (g.2 k).2.1.trans (h.2 k).2.1, (g.2 k).2.2.trans (h.2 k).2.2⟩⟩
theorem getD_set (L : List Ent) (k j : Nat) (e : Ent) (hk : k < L.length) : (L.set k e).getD j Ent.free = if j = k then e else L.getD j Ent.free := by
  rw [List.getD_eq_getElem?_getD, List.getElem?_set, List.getD_eq_getElem?_getD]
  split
  · rename_i h
    rw [if_pos h.symm]; rfl
  · rename_i h
    rw [if_neg (fun e => h e.symm)]
theorem getD_off (L : List Ent) (k : Nat) (hk : ¬ k < L.length) : L.getD k Ent.free = Ent.free := by
  rw [List.getD_eq_getElem?_getD, List.getElem?_eq_none (by omega)]; rfl
theorem Like.flag (L : List Ent) (k : Nat) (f : Bool) : Like L (L.set k { L.getD k Ent.free with flag := f }) := by
  by_cases hk : k < L.length
  · refine ⟨by simp, fun j => ?_⟩
    rw [getD_set _ _ _ _ hk]
    split
    · rename_i h
      rw [h]; exact ⟨rfl, rfl, rfl⟩
    · exact ⟨rfl, rfl, rfl⟩
  · rw [List.set_eq_of_length_le (by omega)]; exact Like.refl L
theorem atFrom_like {L L' : List Ent} (h : Like L L') (i : Int) : ∀ n, atFrom L' i n = atFrom L i n
  | 0 => rfl
  | n + 1 => by rw [atFrom, atFrom, h.1, (h.2 _).1, atFrom_like h i n]
theorem find_like {L L' : List Ent} (h : Like L L') (i : Int) : find L' i = find L i := by
  unfold find
  rw [h.1, atFrom_like h]
theorem sweep_like (lo room : Nat) : ∀ (m : Nat) (L : List Ent) (h : Nat), Like L (sweep lo room m L h).1
  | 0, L, h => Like.refl L
  | m + 1, L, h => by
    rw [sweep]
    split
    · exact sweep_like lo room m L _
    · split
      · exact Like.refl L
      · exact (Like.flag L _ _).trans (sweep_like lo room m _ _)
theorem sweep_none (lo room : Nat) : ∀ (m : Nat) (L : List Ent) (h k : Nat), (sweep lo room m L h).2.2 = some k → (L.getD k Ent.free).pins = 0
  | 0, L, h, k, e => by cases e
  | m + 1, L, h, k, e => by
    rw [sweep] at e
    split at e
    · exact sweep_none lo room m L _ k e
    · rename_i h0
      split at e
      · injection e with e
        rw [← e]; omega
      · rw [← ((Like.flag L (lo + h) false).2 k).2.2]; exact sweep_none lo room m _ _ k e
theorem sweep_hand (lo room : Nat) (h0 : 0 < room) : ∀ (m : Nat) (L : List Ent) (h : Nat), h < room → (sweep lo room m L h).2.1 < room
  | 0, L, h, hh => hh
  | m + 1, L, h, hh => by
    rw [sweep]
    split
    · exact sweep_hand lo room h0 m L _ (Nat.mod_lt _ h0)
    · split
      · exact Nat.mod_lt _ h0
      · exact sweep_hand lo room h0 m _ _ (Nat.mod_lt _ h0)
theorem freeFrom_free (L : List Ent) : ∀ (m k r : Nat), freeFrom L k m = some r → (L.getD r Ent.free).block < 0
  | 0, k, r, h => by cases h
  | m + 1, k, r, h => by
    rw [freeFrom] at h
    split at h
    · injection h with h
      subst h; assumption
    · exact freeFrom_free L m (k + 1) r h
theorem place_like (room : Nat) (s : St) (sh : Nat) : Like s.L (place room s sh).1.L := by
  unfold place
  split
  · exact Like.refl _
  · exact sweep_like _ _ _ _ _
theorem place_of (room : Nat) (s : St) (sh k : Nat) (h : (place room s sh).2 = some k) : (s.L.getD k Ent.free).block < 0 ∨ (s.L.getD k Ent.free).pins = 0 := by
  unfold place at h
  split at h
  · rename_i k' hk
    injection h with h
    subst h
    exact .inl (freeFrom_free _ _ _ _ hk)
  · exact .inr (sweep_none _ _ _ _ _ _ h)
/-- Each entry lies among its shard's places; the hands are places. -/
structure Fit (sh room : Nat) (s : St) : Prop where
  len : s.L.length = sh * room
  hlen : s.hands.length = sh
  hlt : ∀ h ∈ s.hands, h < room
  at_ : ∀ k, 0 ≤ (s.L.getD k Ent.free).block → (s.L.getD k Ent.free).block.toNat % sh * room ≤ k ∧ k < (s.L.getD k Ent.free).block.toNat % sh * room + room
section
variable {sh room : Nat} {s : St} {i : Int} {bs : List UInt8}
theorem Fit.new (sh room : Nat) (hr : 1 ≤ room) : Fit sh room (new sh room) := by
  refine ⟨by simp [Ca.new], by simp [Ca.new], fun h hh => ?_, fun k hk => ?_⟩
  · rw [(List.mem_replicate.1 hh).2]; omega
  · have : ((Ca.new sh room).L.getD k Ent.free).block = -1 := by
      show ((List.replicate (sh * room) Ent.free).getD k Ent.free).block = -1
      rw [List.getD_eq_getElem?_getD, List.getElem?_replicate]
      split <;> rfl
    rw [this] at hk; omega
theorem Fit.handLt (h : Fit sh room s) (hr : 1 ≤ room) (k : Nat) : s.hands.getD k 0 < room := by
  by_cases hk : k < s.hands.length
  · rw [List.getD_eq_getElem?_getD, List.getElem?_eq_getElem hk]; exact h.hlt _ (List.getElem_mem _)
  · rw [List.getD_eq_getElem?_getD, List.getElem?_eq_none (by omega)]; exact hr
theorem Fit.like (h : Fit sh room s) {L' : List Ent} (hL : Like s.L L') (g t : Nat) : Fit sh room ⟨L', s.hands, g, t⟩ :=
  ⟨hL.1.trans h.len, h.hlen, h.hlt, fun k => by rw [show (St.mk L' s.hands g t).L = L' from rfl, (hL.2 k).1]; exact h.at_ k⟩
theorem Fit.place (h : Fit sh room s) (hr : 1 ≤ room) (t : Nat) : Fit sh room (place room s t).1 := by
  have hL := place_like room s t
  refine ⟨hL.1.trans h.len, ?_, ?_, fun k => by rw [(hL.2 k).1]; exact h.at_ k⟩
  · unfold Ca.place
    split
    · exact h.hlen
    · exact (List.length_set).trans h.hlen
  · unfold Ca.place
    split
    · exact h.hlt
    · intro x hx
      rcases List.mem_or_eq_of_mem_set hx with hx | hx
      · exact h.hlt x hx
      · rw [hx]; exact sweep_hand _ _ hr _ _ _ (h.handLt hr _)
theorem Fit.lt (h : Fit sh room s) {t k : Nat} (ht : t < sh) (hk : k < t * room + room) : k < s.L.length := by
  have : (t + 1) * room ≤ sh * room := Nat.mul_le_mul_right _ ht
  rw [Nat.succ_mul] at this
  rw [h.len]; omega
theorem Fit.set (h : Fit sh room s) {k : Nat} (e : Ent) (hk : k < s.L.length) (he : 0 ≤ e.block → e.block.toNat % sh * room ≤ k ∧ k < e.block.toNat % sh * room + room) : Fit sh room { s with L := s.L.set k e } := by
  refine ⟨(List.length_set).trans h.len, h.hlen, h.hlt, fun j => ?_⟩
  show 0 ≤ ((s.L.set k e).getD j Ent.free).block → ((s.L.set k e).getD j Ent.free).block.toNat % sh * room ≤ j ∧ j < ((s.L.set k e).getD j Ent.free).block.toNat % sh * room + room
  rw [getD_set _ _ _ _ hk]
  split
  · rename_i hj
    rw [hj]; exact he
  · exact h.at_ j
/-- Two lists whose blocks are the same, apart from one place. -/
theorem atFrom_set (L : List Ent) (k : Nat) (e : Ent) (hk : k < L.length) (i : Int) (he : e.block ≠ i) (ho : (L.getD k Ent.free).block ≠ i) : ∀ n, atFrom (L.set k e) i n = atFrom L i n
  | 0 => rfl
  | n + 1 => by
    rw [atFrom, atFrom, List.length_set, getD_set _ _ _ _ hk, atFrom_set L k e hk i he ho n]
    by_cases h : L.length - (n + 1) = k
    · rw [if_pos h, if_neg he, h, if_neg ho]
    · rw [if_neg h]
theorem find_set (L : List Ent) (k : Nat) (e : Ent) (hk : k < L.length) (i : Int) (he : e.block ≠ i) (ho : (L.getD k Ent.free).block ≠ i) : find (L.set k e) i = find L i := by
  unfold find
  rw [List.length_set, atFrom_set L k e hk i he ho]
theorem atFrom_same (L : List Ent) (k : Nat) (e : Ent) (hk : k < L.length) (he : e.block = (L.getD k Ent.free).block) (i : Int) : ∀ n, atFrom (L.set k e) i n = atFrom L i n
  | 0 => rfl
  | n + 1 => by
    rw [atFrom, atFrom, List.length_set, getD_set _ _ _ _ hk, atFrom_same L k e hk he i n]
    by_cases h : L.length - (n + 1) = k
    · rw [if_pos h, he, h]
    · rw [if_neg h]
theorem find_same (L : List Ent) (k : Nat) (e : Ent) (hk : k < L.length) (he : e.block = (L.getD k Ent.free).block) (i : Int) : find (L.set k e) i = find L i := by
  unfold find
  rw [List.length_set, atFrom_same L k e hk he]
/-- The first is another one than the one that is overwritten: it stays the first. -/
theorem atFrom_gone (L : List Ent) (k : Nat) (e : Ent) (hk : k < L.length) (i : Int) (he : e.block ≠ i) (kp : Nat) (hkp : kp ≠ k) : ∀ n, atFrom L i n = some kp → atFrom (L.set k e) i n = some kp
  | 0, h => by cases h
  | n + 1, h => by
    rw [atFrom] at h ⊢
    rw [List.length_set, getD_set _ _ _ _ hk]
    split at h
    · rename_i h1
      injection h with h
      rw [if_neg (show ¬ L.length - (n + 1) = k by rw [h]; exact hkp), if_pos h1, h]
    · rename_i h1
      by_cases h2 : L.length - (n + 1) = k
      · rw [if_pos h2, if_neg he]; exact atFrom_gone L k e hk i he kp hkp n h
      · rw [if_neg h2, if_neg h1]; exact atFrom_gone L k e hk i he kp hkp n h
theorem find_gone (L : List Ent) (k : Nat) (e : Ent) (hk : k < L.length) (i : Int) (he : e.block ≠ i) (kp : Nat) (hkp : kp ≠ k) (h : find L i = some kp) : find (L.set k e) i = some kp := by
  unfold find at h ⊢
  split at h
  · rename_i h0
    rw [if_pos h0, List.length_set]; exact atFrom_gone L k e hk i he kp hkp _ h
  · cases h
/-- The only one is found. -/
theorem atFrom_only (L : List Ent) (i : Int) (k : Nat) (hk : k < L.length) (h1 : (L.getD k Ent.free).block = i) (h2 : ∀ j, j < L.length → j ≠ k → (L.getD j Ent.free).block ≠ i) : ∀ n, n ≤ L.length → L.length - n ≤ k → atFrom L i n = some k
  | 0, _, h => by omega
  | n + 1, hn, h => by
    rw [atFrom]
    by_cases e : L.length - (n + 1) = k
    · rw [if_pos (by rw [e]; exact h1), e]
    · rw [if_neg (h2 _ (by omega) e)]
      exact atFrom_only L i k hk h1 h2 n (by omega) (by omega)
theorem find_only (L : List Ent) (i : Int) (k : Nat) (hi : 0 ≤ i) (hk : k < L.length) (h1 : (L.getD k Ent.free).block = i) (h2 : ∀ j, j < L.length → j ≠ k → (L.getD j Ent.free).block ≠ i) : find L i = some k := by
  unfold find
  rw [if_pos hi]
  exact atFrom_only L i k hk h1 h2 _ (Nat.le_refl _) (by omega)
theorem place_lt2 (h : Fit sh room s) (hr : 1 ≤ room) (t k : Nat) (e : (place room s t).2 = some k) : t * room ≤ k ∧ k < t * room + room := place_lt room s t hr (h.handLt hr t) k e
/-- What a Put does: entries stay among their places; where it says true the block is found, with these bytes, else it isn't there; all else that is pinned stays. -/
theorem put_fit (h : Fit sh room s) (hs : 1 ≤ sh) (hr : 1 ≤ room) : Fit sh room (put sh room s i bs).1
    ∧ ((put sh room s i bs).2 = true → ∃ k, find (put sh room s i bs).1.L i = some k ∧ ((put sh room s i bs).1.L.getD k Ent.free).b = bs)
    ∧ ((put sh room s i bs).2 = false → find (put sh room s i bs).1.L i = none)
    ∧ ((put sh room s i bs).1.gets = s.gets ∧ (put sh room s i bs).1.hits = s.hits)
    ∧ ∀ p kp, p ≠ i → find s.L p = some kp → (s.L.getD kp Ent.free).pins ≠ 0 → find (put sh room s i bs).1.L p = some kp ∧ ((put sh room s i bs).1.L.getD kp Ent.free).b = (s.L.getD kp Ent.free).b ∧ ((put sh room s i bs).1.L.getD kp Ent.free).pins = (s.L.getD kp Ent.free).pins := by
  unfold put
  by_cases hi : i < 0
  · rw [if_pos hi]
    exact ⟨h, (fun e => by cases e), fun _ => by unfold find; rw [if_neg (by omega)], ⟨rfl, rfl⟩, fun p kp _ hf _ => ⟨hf, rfl, rfl⟩⟩
  rw [if_neg hi]
  cases hf : find s.L i with
  | some k =>
    obtain ⟨hi0, hk, hb⟩ := find_some hf
    dsimp only
    refine ⟨h.set _ hk (fun h0 => h.at_ k h0), fun _ => ⟨k, ?_, ?_⟩, (fun e => by cases e), ⟨rfl, rfl⟩, fun p kp hp hfp _ => ?_⟩
    · exact (find_same s.L k { s.L.getD k Ent.free with b := bs, flag := true } hk rfl i).trans hf
    · rw [getD_set _ _ _ _ hk, if_pos rfl]
    · have hkp : kp ≠ k := fun e => hp (by rw [← (find_some hfp).2.2, e, hb])
      rw [getD_set _ _ _ _ hk, if_neg hkp]
      exact ⟨(find_same s.L k { s.L.getD k Ent.free with b := bs, flag := true } hk rfl p).trans hfp, rfl, rfl⟩
  | none =>
    have hn := (find_none hf).resolve_left hi
    have hL := place_like room s (i.toNat % sh)
    have hF := h.place hr (i.toNat % sh)
    have hg : (place room s (i.toNat % sh)).1.gets = s.gets ∧ (place room s (i.toNat % sh)).1.hits = s.hits := by
      unfold place
      split <;> exact ⟨rfl, rfl⟩
    dsimp only
    cases hp : (place room s (i.toNat % sh)).2 with
    | none =>
      dsimp only
      refine ⟨hF, (fun e => by cases e), fun _ => ?_, hg, fun p kp _ hfp _ => ⟨?_, (hL.2 kp).2.1, (hL.2 kp).2.2⟩⟩
      · rw [find_like hL]; exact hf
      · rw [find_like hL]; exact hfp
    | some k =>
      have hkr := place_lt2 h hr _ k hp
      have hk : k < s.L.length := h.lt (Nat.mod_lt _ (by omega)) hkr.2
      have hk2 : k < (place room s (i.toNat % sh)).1.L.length := by rw [hL.1]; exact hk
      have hof := place_of room s _ k hp
      dsimp only
      refine ⟨hF.set _ hk2 (fun _ => hkr), fun _ => ⟨k, ?_, ?_⟩, (fun e => by cases e), hg, fun p kp hpi hfp hpin => ?_⟩
      · refine find_only _ i k (by omega) (by rw [List.length_set]; exact hk2) (by rw [getD_set _ _ _ _ hk2, if_pos rfl]) fun j hj hjk => ?_
        rw [getD_set _ _ _ _ hk2, if_neg hjk, (hL.2 j).1]
        rw [List.length_set, hL.1] at hj
        exact hn j hj
      · rw [getD_set _ _ _ _ hk2, if_pos rfl]
      · obtain ⟨hp0, hkp, hbp⟩ := find_some hfp
        have hkk : kp ≠ k := fun e => by
          rw [← e] at hof
          rcases hof with h1 | h1
          · rw [hbp] at h1; omega
          · exact hpin h1
        have hold : ((place room s (i.toNat % sh)).1.L.getD k Ent.free).block ≠ p ∨ ((place room s (i.toNat % sh)).1.L.getD k Ent.free).block = p := by
          by_cases h1 : ((place room s (i.toNat % sh)).1.L.getD k Ent.free).block = p
          · exact .inr h1
          · exact .inl h1
        rw [getD_set _ _ _ _ hk2, if_neg hkk]
        refine ⟨?_, (hL.2 kp).2.1, (hL.2 kp).2.2⟩
        rcases hold with h1 | h1
        · rw [find_set _ _ _ hk2 p (fun e => hpi e.symm) h1, find_like hL]; exact hfp
        · exact (find_gone _ k _ hk2 p (fun e => hpi e.symm) kp hkk (by rw [find_like hL]; exact hfp))
/-- What a Get does. -/
theorem get_fit (h : Fit sh room s) : Fit sh room (getC s i).1 ∧ Like s.L (getC s i).1.L ∧ (getC s i).2.2 = (find s.L i).isSome ∧ ∀ k, find s.L i = some k → (getC s i).2.1 = (s.L.getD k Ent.free).b := by
  unfold getC
  cases hf : find s.L i with
  | none => exact ⟨⟨h.len, h.hlen, h.hlt, h.at_⟩, Like.refl _, rfl, fun k e => by cases e⟩
  | some k => exact ⟨h.like (Like.flag _ _ _) _ _, Like.flag _ _ _, rfl, fun k' e => by injection e with e; rw [← e]⟩
/-- One block is there, pinned once, with these bytes. -/
def Held1 (s : St) (p : Int) (pb : List UInt8) : Prop := ∃ kp, find s.L p = some kp ∧ (s.L.getD kp Ent.free).b = pb ∧ (s.L.getD kp Ent.free).pins = 1
theorem Held1.put {p : Int} {pb : List UInt8} (h : Held1 s p pb) (hF : Fit sh room s) (hs : 1 ≤ sh) (hr : 1 ≤ room) (hp : p ≠ i) : Held1 (Ca.put sh room s i bs).1 p pb := by
  obtain ⟨kp, h1, h2, h3⟩ := h
  obtain ⟨_, _, _, _, hk⟩ := put_fit (i := i) (bs := bs) hF hs hr
  obtain ⟨a, b, c⟩ := hk p kp hp h1 (by omega)
  exact ⟨kp, a, b.trans h2, c.trans h3⟩
theorem Held1.like {s' : St} {p : Int} {pb : List UInt8} (h : Held1 s p pb) (hL : Like s.L s'.L) : Held1 s' p pb := by
  obtain ⟨kp, h1, h2, h3⟩ := h
  exact ⟨kp, (find_like hL p).trans h1, (hL.2 kp).2.1.trans h2, (hL.2 kp).2.2.trans h3⟩
/-- The first Put. -/
theorem put_first (hs : 1 ≤ sh) (hr : 1 ≤ room) (hi : 0 ≤ i) : (put sh room (Ca.new sh room) i bs).2 = true ∧ ∃ k, find (put sh room (Ca.new sh room) i bs).1.L i = some k ∧ (put sh room (Ca.new sh room) i bs).1.L.getD k Ent.free = ⟨i, bs, true, 0⟩ := by
  have hb : ∀ k, ((Ca.new sh room).L.getD k Ent.free).block = -1 := fun k => by
    show ((List.replicate (sh * room) Ent.free).getD k Ent.free).block = -1
    rw [List.getD_eq_getElem?_getD, List.getElem?_replicate]
    split <;> rfl
  have hf : find (Ca.new sh room).L i = none := by
    cases h : find (Ca.new sh room).L i with
    | none => rfl
    | some k => have := (find_some h).2.2; rw [hb] at this; omega
  have hFr : ∀ t, freeFrom (Ca.new sh room).L (t * room) room = some (t * room) := fun t => by
    obtain ⟨r, rfl⟩ : ∃ r, room = r + 1 := ⟨room - 1, by omega⟩
    rw [freeFrom, if_pos (by rw [hb]; omega)]
  have hk : i.toNat % sh * room < (Ca.new sh room).L.length := (Fit.new sh room hr).lt (t := i.toNat % sh) (Nat.mod_lt _ hs) (by omega)
  have hpl : place room (Ca.new sh room) (i.toNat % sh) = (Ca.new sh room, some (i.toNat % sh * room)) := by unfold place; rw [hFr]
  have he : put sh room (Ca.new sh room) i bs = ({ Ca.new sh room with L := (Ca.new sh room).L.set (i.toNat % sh * room) ⟨i, bs, true, 0⟩ }, true) := by
    unfold put
    rw [if_neg (by omega), hf]
    dsimp only
    rw [hpl]
  rw [he]
  refine ⟨rfl, i.toNat % sh * room, find_only _ i _ hi (by rw [List.length_set]; exact hk) (by rw [getD_set _ _ _ _ hk, if_pos rfl]) fun j hj hjk => ?_, by rw [getD_set _ _ _ _ hk, if_pos rfl]⟩
  rw [getD_set _ _ _ _ hk, if_neg hjk, hb]
  omega
theorem pin_first {k : Nat} {e : Ent} (h : Fit sh room s) (hf : find s.L i = some k) (he : s.L.getD k Ent.free = e) (h0 : e.pins = 0) : (pin s i).2 = true ∧ Fit sh room (pin s i).1 ∧ Held1 (pin s i).1 i e.b := by
  obtain ⟨_, hk, hb⟩ := find_some hf
  unfold pin
  rw [hf]
  dsimp only
  refine ⟨rfl, h.set _ hk (fun h0 => h.at_ k h0), k, (find_same s.L k { s.L.getD k Ent.free with pins := (s.L.getD k Ent.free).pins + 1 } hk rfl i).trans hf, ?_, ?_⟩
  · show ((s.L.set k _).getD k Ent.free).b = _
    rw [getD_set _ _ _ _ hk, if_pos rfl, he]
  · show ((s.L.set k _).getD k Ent.free).pins = _
    rw [getD_set _ _ _ _ hk, if_pos rfl, he, h0]
theorem Held1.get {p : Int} {pb : List UInt8} (h : Held1 s p pb) (hF : Fit sh room s) : (getC s p).2.2 = true ∧ (getC s p).2.1 = pb ∧ Held1 (getC s p).1 p pb := by
  obtain ⟨_, hL, h2, h3⟩ := get_fit (i := p) hF
  refine ⟨?_, ?_, h.like hL⟩
  · obtain ⟨kp, h1, _⟩ := h
    rw [h2, h1]; rfl
  · obtain ⟨kp, h1, h4, _⟩ := h
    rw [h3 kp h1, h4]
theorem Held1.drop {p : Int} {pb : List UInt8} (h : Held1 s p pb) : Ca.drop s p = (s, false) := by
  obtain ⟨kp, h1, h2, h3⟩ := h
  unfold Ca.drop
  rw [h1]
  dsimp only
  rw [if_pos (by omega)]
theorem Held1.unpin {p : Int} {pb : List UInt8} (h : Held1 s p pb) : (Ca.unpin s p).2 = true ∧ (Ca.drop (Ca.unpin s p).1 p).2 = true := by
  obtain ⟨kp, h1, h2, h3⟩ := h
  obtain ⟨_, hk, hb⟩ := find_some h1
  have e : Ca.unpin s p = ({ s with L := s.L.set kp { s.L.getD kp Ent.free with pins := (s.L.getD kp Ent.free).pins - 1 } }, true) := by
    unfold Ca.unpin
    rw [h1]
    dsimp only
    rw [if_neg (by omega)]
  rw [e]
  refine ⟨rfl, ?_⟩
  unfold Ca.drop
  rw [show find (s.L.set kp { s.L.getD kp Ent.free with pins := (s.L.getD kp Ent.free).pins - 1 }) p = some kp from (find_same s.L kp { s.L.getD kp Ent.free with pins := (s.L.getD kp Ent.free).pins - 1 } hk rfl p).trans h1]
  dsimp only
  rw [getD_set _ _ _ _ hk, if_pos rfl]
  dsimp only
  rw [if_neg (by omega)]
/-- How many of a list are a shard's. -/
def cntS (sh t : Nat) (l : List Int) : Nat := l.countP fun x => x.toNat % sh == t
theorem cntS_ins (sh t : Nat) (x : Int) : ∀ l, cntS sh t (ins x l) = cntS sh t (x :: l)
  | [] => rfl
  | y :: r => by
    rw [ins]
    split
    · have := cntS_ins sh t x r
      unfold cntS at this ⊢
      rw [List.countP_cons, this, List.countP_cons, List.countP_cons, List.countP_cons]
      omega
    · rfl
theorem mem_ins (x z : Int) : ∀ l, z ∈ ins x l → z = x ∨ z ∈ l
  | [], h => by rw [ins] at h; simpa using h
  | y :: r, h => by
    rw [ins] at h
    split at h
    · rcases List.mem_cons.1 h with h | h
      · exact .inr (by rw [h]; exact List.mem_cons_self)
      · rcases mem_ins x z r h with h | h
        · exact .inl h
        · exact .inr (List.mem_cons_of_mem _ h)
    · rcases List.mem_cons.1 h with h | h
      · exact .inl h
      · exact .inr h
theorem fold_has (sh t : Nat) : ∀ (L : List Ent) (out : List Int), (∀ x ∈ out, 0 ≤ x) → (∀ x ∈ L.foldl (fun out e => if e.block < 0 then out else ins e.block out) out, 0 ≤ x)
    ∧ cntS sh t (L.foldl (fun out e => if e.block < 0 then out else ins e.block out) out) = cntS sh t out + L.countP (fun e => decide (0 ≤ e.block) && (e.block.toNat % sh == t))
    ∧ (L.foldl (fun out e => if e.block < 0 then out else ins e.block out) out).length ≤ out.length + L.length
  | [], out, h => ⟨h, by simp, by simp⟩
  | e :: r, out, h => by
    rw [List.foldl_cons]
    by_cases hb : e.block < 0
    · obtain ⟨a, b, c⟩ := fold_has sh t r out h
      rw [if_pos hb]
      refine ⟨a, ?_, by rw [List.length_cons]; omega⟩
      rw [b, List.countP_cons, if_neg (by simp; omega)]
      omega
    · obtain ⟨a, b, c⟩ := fold_has sh t r (ins e.block out) (fun x hx => (mem_ins _ _ _ hx).elim (fun e => by omega) (h x))
      rw [if_neg hb]
      refine ⟨a, ?_, by rw [List.length_cons]; rw [ins_length] at c; omega⟩
      rw [b, cntS_ins, List.countP_cons]
      unfold cntS
      rw [List.countP_cons]
      by_cases ht : e.block.toNat % sh = t
      · rw [if_pos (by simpa using ht), if_pos (by simp only [Bool.and_eq_true, decide_eq_true_eq, beq_iff_eq]; exact ⟨by omega, ht⟩)]; omega
      · rw [if_neg (by simpa using ht), if_neg (by simp only [Bool.and_eq_true, decide_eq_true_eq, beq_iff_eq]; exact fun h => ht h.2)]; omega
theorem countP_none {α : Type} (f : α → Bool) (l : List α) (h : ∀ x ∈ l, f x = false) : l.countP f = 0 := by
  rw [List.countP_eq_zero]
  intro x hx
  rw [h x hx]; decide
theorem has_fit (h : Fit sh room s) (t : Nat) : (∀ x ∈ hasL s.L, 0 ≤ x) ∧ cntS sh t (hasL s.L) ≤ room ∧ (hasL s.L).length ≤ sh * room := by
  obtain ⟨a, b, c⟩ := fold_has sh t s.L [] (fun x hx => by cases hx)
  have hl := h.len
  refine ⟨a, ?_, by rw [← hl]; exact Nat.le_trans c (by simp)⟩
  show cntS sh t (List.foldl _ _ _) ≤ room
  rw [b]
  have hsp : s.L = s.L.take (t * room) ++ ((s.L.drop (t * room)).take room ++ (s.L.drop (t * room)).drop room) := by rw [List.take_append_drop, List.take_append_drop]
  have key : ∀ k (hk : k < s.L.length), (decide (0 ≤ s.L[k].block) && (s.L[k].block.toNat % sh == t)) = true → t * room ≤ k ∧ k < t * room + room := fun k hk hb => by
    have hg : s.L.getD k Ent.free = s.L[k] := by rw [List.getD_eq_getElem?_getD, List.getElem?_eq_getElem hk]; rfl
    simp only [Bool.and_eq_true, decide_eq_true_eq, beq_iff_eq] at hb
    have := h.at_ k (by rw [hg]; exact hb.1)
    rw [hg, hb.2] at this
    exact this
  have z1 : (s.L.take (t * room)).countP (fun e => decide (0 ≤ e.block) && (e.block.toNat % sh == t)) = 0 := countP_none _ _ fun x hx => by
    obtain ⟨k, hk, rfl⟩ := List.mem_iff_getElem.1 hx
    rw [List.length_take] at hk
    rw [List.getElem_take]
    cases hc : (decide (0 ≤ s.L[k].block) && (s.L[k].block.toNat % sh == t)) with
    | false => rfl
    | true => have := key k (by omega) hc; omega
  have z2 : ((s.L.drop (t * room)).drop room).countP (fun e => decide (0 ≤ e.block) && (e.block.toNat % sh == t)) = 0 := countP_none _ _ fun x hx => by
    obtain ⟨k, hk, rfl⟩ := List.mem_iff_getElem.1 hx
    rw [List.length_drop, List.length_drop] at hk
    rw [List.getElem_drop, List.getElem_drop]
    cases hc : (decide (0 ≤ s.L[t * room + (room + k)].block) && (s.L[t * room + (room + k)].block.toNat % sh == t)) with
    | false => rfl
    | true => have := key (t * room + (room + k)) (by omega) hc; omega
  rw [hsp, List.countP_append, List.countP_append, z1, z2]
  have h1 := @List.countP_le_length _ (fun (e : Ent) => decide (0 ≤ e.block) && (e.block.toNat % sh == t)) ((s.L.drop (t * room)).take room)
  have h2 : ((s.L.drop (t * room)).take room).length ≤ room := by rw [List.length_take]; omega
  simp only [cntS, List.countP_nil]
  omega
theorem cntS_take (sh t : Nat) (l : List Int) (k : Nat) (hk : k < l.length) : cntS sh t (l.take (k + 1)) = cntS sh t (l.take k) + if (l.getD k 0).toNat % sh = t then 1 else 0 := by
  rw [take_snocC l k hk 0]
  unfold cntS
  rw [List.countP_append]
  generalize l.getD k 0 = y
  by_cases h : y.toNat % sh = t
  · rw [if_pos h]; simp [h]
  · rw [if_neg h]; simp [h]
theorem cntS_le (sh t : Nat) (l : List Int) (k : Nat) : cntS sh t (l.take k) ≤ cntS sh t l := List.Sublist.countP_le (List.take_sublist k l)
end
end Ca
end Go.Proofs.Ythcphabfeapjbaa
