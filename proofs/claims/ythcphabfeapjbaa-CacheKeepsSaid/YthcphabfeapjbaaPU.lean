/-
  THE WALKS of a shard's first: over a predicate; the two that are handed in; find.
-/
import Derived.Test.YthcphabfeapjbaaPT
import Derived.Test.YthcphabfeapjbaaPU0
namespace Go.Proofs.Ythcphabfeapjbaa
open Go.RowKit Ca

instance entInh : Inhabited (Ent × Value) := ⟨(Ent.free, .bool false)⟩
abbrev encE (x : Ent × Value) : Value := .agg (cellsE x.1 x.2).toArray
theorem pred_find (i : Int) (B : Nat) (w : World) (hB : B < w.heap.size) (hcell : w.cell? ⟨B, 0, none⟩ = some (.int .i64 i)) :
    PredBelow Try.prog 32 #[.pointer (some ⟨B, 0, none⟩)] encE (fun x => decide (0 ≤ x.1.block ∧ x.1.block = i)) w := fun W x hb => by
  have hc : W.cell? ⟨B, 0, none⟩ = some (.int .i64 i) := (hb.cell (p := ⟨B, 0, none⟩) hB).trans hcell
  have hBW : B < W.heap.size := Nat.lt_of_lt_of_le hB hb.size
  have hne : B ≠ W.heap.size := by omega
  obtain ⟨⟨bk, bs, fl, pn⟩, v⟩ := x
  by_cases h0 : 0 ≤ bk
  · show Calls Try.prog 32 #[.agg #[.bool (decide (0 ≤ bk)), .int .i64 (if 0 ≤ bk then bk else 0), v, .bool fl, .int .i64 (pn : Int)], .pointer (some ⟨B, 0, none⟩)] W (fun e w' => e = .returned (.bool (decide (0 ≤ bk ∧ bk = i))) ∧ Below w.heap.size w w')
    rw [decide_eq_true h0, if_pos h0, show decide (0 ≤ bk ∧ bk = i) = decide (bk = i) from by simp [h0]]
    go_enter Try.func32, Try.ntmps32
    go_wp2
    all_goals (go_ret; refine ⟨?_, hb.alloc hb.size _⟩; first | rfl | (simp_all; done) | (simp_all; rfl))
  · show Calls Try.prog 32 #[.agg #[.bool (decide (0 ≤ bk)), .int .i64 (if 0 ≤ bk then bk else 0), v, .bool fl, .int .i64 (pn : Int)], .pointer (some ⟨B, 0, none⟩)] W (fun e w' => e = .returned (.bool (decide (0 ≤ bk ∧ bk = i))) ∧ Below w.heap.size w w')
    rw [decide_eq_false h0, if_neg h0, show decide (0 ≤ bk ∧ bk = i) = false from by simp [h0]]
    go_enter Try.func32, Try.ntmps32
    go_wp2
    all_goals (go_ret; refine ⟨?_, hb.alloc hb.size _⟩; first | rfl | (simp_all; done) | (simp_all; rfl))
theorem pred_free (w : World) : PredBelow Try.prog 33 #[] encE (fun x => decide (x.1.block < 0)) w := fun W x hb => by
  obtain ⟨⟨bk, bs, fl, pn⟩, v⟩ := x
  by_cases h0 : 0 ≤ bk
  · show Calls Try.prog 33 #[.agg #[.bool (decide (0 ≤ bk)), .int .i64 (if 0 ≤ bk then bk else 0), v, .bool fl, .int .i64 (pn : Int)]] W (fun e w' => e = .returned (.bool (decide (bk < 0))) ∧ Below w.heap.size w w')
    rw [decide_eq_true h0, if_pos h0, show decide (bk < 0) = false from by simp; omega]
    go_enter Try.func33, Try.ntmps33
    go_wp2
    all_goals (go_ret; refine ⟨?_, hb.alloc hb.size _⟩; first | rfl | (simp_all; done) | (simp_all; rfl))
  · show Calls Try.prog 33 #[.agg #[.bool (decide (0 ≤ bk)), .int .i64 (if 0 ≤ bk then bk else 0), v, .bool fl, .int .i64 (pn : Int)]] W (fun e w' => e = .returned (.bool (decide (bk < 0))) ∧ Below w.heap.size w w')
    rw [decide_eq_false h0, if_neg h0, show decide (bk < 0) = true from by simp; omega]
    go_enter Try.func33, Try.ntmps33
    go_wp2
    all_goals (go_ret; refine ⟨?_, hb.alloc hb.size _⟩; first | rfl | (simp_all; done) | (simp_all; rfl))

section
variable {w : World} {ro : Nat → Nat} {D a ca sh room q : Nat} {ps rs : Nat → Nat} {vs : Nat → Value} {s : St}
/-- The first of a shard's places for which something holds. -/
def FirstOf (f : Nat → Bool) (room : Nat) (r : Option Nat) : Prop := match r with
  | some j => j < room ∧ f j = true ∧ ∀ i, i < j → f i = false
  | none => ∀ i, i < room → f i = false
abbrev placeP (ps : Nat → Nat) (t : Nat) (r : Option Nat) : Value := .pointer (r.map fun j => ⟨ps t, j * 5, none⟩)
set_option maxRecDepth 100000 in
set_option maxHeartbeats 1000000 in
theorem Cfirst_any (h : CacL w ro D a ca sh room q ps rs vs s) {t : Nat} (ht : t < sh) (p : Ent × Value → Bool) (g : Nat) (lb : Array Value) (eg : ∀ args w, (callFunc g args).run Try.prog w = .ok (.enter g args) w) (w1 : World) (hw : Below w.heap.size w w1) (hp : PredBelow Try.prog g lb encE p w1)
    (r : Option Nat) (hr : FirstOf (fun j => p (s.L.getD (t * room + j) Ent.free, vs (t * room + j))) room r) :
    Calls Try.prog 31 #[.pointer (some ⟨a, t * 2, none⟩), .func (.func g) #[] lb] w1 fun e w' => e = .returned (placeP ps t r) ∧ Below w1.heap.size w1 w' := by
  have h1 := h.below hw
  obtain ⟨zs, hzs⟩ : ∃ zs : List (Ent × Value), zs = (List.range room).map fun j => (s.L.getD (t * room + j) Ent.free, vs (t * room + j)) := ⟨_, rfl⟩
  have hzl : zs.length = room := by rw [hzs]; simp
  have hzg : ∀ j, j < room → zs[j]! = (s.L.getD (t * room + j) Ent.free, vs (t * room + j)) := fun j hj => by rw [hzs, getElem!_pos _ _ (by simpa using hj)]; simp
  have hpl : ps t < w1.heap.size := h1.lt _ (by rw [h.rp t ht]; omega)
  have hcon := AnyQ.slices_IndexFunc Try.indexLay 5 Try.isAgg68 Try.sizeOf68 (fun x : Ent × Value => cellsE x.1 x.2) (fun _ => rfl) p g lb eg (ps t) 0 room room zs w1 hp (by omega) (by have := h.rm1.2; omega) hpl (fun j hj i v hi => by
    rw [hzl] at hj
    rw [hzg j hj] at hi
    have := h1.ent ht hj i v hi
    rwa [Nat.zero_add])
  change Calls Try.prog 37 _ _ _ at hcon
  have Hrm := Lib.hid h.rm1
  cases r with
  | none =>
    have hm : Lib.idxBy (fun _ y => p y) (zs.take room) default = -1 := Lib.idxBy_miss (fun _ y => p y) zs room default fun j hj => by rw [hzg j hj]; exact hr j hj
    rw [hm] at hcon
    have c0 := h1.s0 ht
    clear hzs hzl hzg hm hr hp eg h h1
    go_enter Try.func31, Try.ntmps31
    go_wp2_with (go_at_call 37; refine hcon.mono ?_; rintro e w' ⟨rfl, hb⟩)
    go_ret
    exact ⟨rfl, hb⟩
  | some j =>
    obtain ⟨hj, hpj, hbf⟩ := hr
    have hm : Lib.idxBy (fun _ y => p y) (zs.take room) default = (j : Int) := Lib.idxBy_hit (fun _ y => p y) zs room j default hj (by omega) (by show p zs[j]! = true; rw [hzg j hj]; exact hpj) fun i hi => by show p zs[i]! = false; rw [hzg i (by omega)]; exact hbf i hi
    rw [hm] at hcon
    have c0 := h1.s0 ht
    have H1 := Lib.hid h1
    clear hzs hzl hzg hm hp eg h h1 hpj hbf
    go_enter Try.func31, Try.ntmps31
    go_wp2_with (go_at_call 37; refine hcon.mono ?_; rintro e w' ⟨rfl, hb⟩; have c0 := (H1.out.below hb).s0 ht)
    go_ret
    exact ⟨rfl, hb⟩
end
theorem atFrom_first (L : List Ent) (i : Int) : ∀ n, n ≤ L.length → ∀ k, atFrom L i n = some k → ∀ k', L.length - n ≤ k' → k' < k → (L.getD k' Ent.free).block ≠ i
  | 0, _, k, h, k', _, _ => by simp [atFrom] at h
  | n + 1, hn, k, h, k', h1, h2 => by
    rw [atFrom] at h
    split at h
    · injection h with h
      omega
    · rename_i e
      by_cases hk : k' = L.length - (n + 1)
      · subst hk; exact e
      · exact atFrom_first L i n (by omega) k h k' (by omega) h2
theorem find_first {L : List Ent} {i : Int} {k : Nat} (h : find L i = some k) : ∀ k', k' < k → (L.getD k' Ent.free).block ≠ i := by
  unfold find at h
  split at h
  · intro k' hk
    exact atFrom_first L i _ (Nat.le_refl _) k h k' (by omega) hk
  · cases h
theorem freeFrom_first (L : List Ent) : ∀ (m k : Nat), FirstOf (fun j => decide ((L.getD (k + j) Ent.free).block < 0)) m ((freeFrom L k m).map (· - k)) ∧ ∀ r, freeFrom L k m = some r → k ≤ r ∧ r < k + m
  | 0, k => ⟨fun i hi => by omega, fun r h => by cases h⟩
  | m + 1, k => by
    rw [freeFrom]
    split
    · rename_i e
      refine ⟨?_, fun r h => ?_⟩
      · simp only [Option.map_some, Nat.sub_self, FirstOf]
        exact ⟨by omega, by simpa using e, fun i hi => by omega⟩
      · injection h with h
        omega
    · rename_i e
      obtain ⟨h1, h2⟩ := freeFrom_first L m (k + 1)
      refine ⟨?_, fun r h => by have := h2 r h; omega⟩
      cases hf : freeFrom L (k + 1) m with
      | none =>
        rw [hf] at h1
        intro i hi
        cases i with
        | zero => simpa using e
        | succ i => have := h1 i (by omega); show decide ((L.getD (k + (i + 1)) Ent.free).block < 0) = false; rw [show k + (i + 1) = k + 1 + i by omega]; exact this
      | some r =>
        have h3 := h2 r hf
        rw [hf] at h1
        simp only [Option.map_some, FirstOf] at h1 ⊢
        refine ⟨by omega, ?_, fun i hi => ?_⟩
        · have := h1.2.1
          rwa [show k + 1 + (r - (k + 1)) = k + (r - k) by omega] at this
        · cases i with
          | zero => simpa using e
          | succ i => have := h1.2.2 i (by omega); show decide ((L.getD (k + (i + 1)) Ent.free).block < 0) = false; rw [show k + (i + 1) = k + 1 + i by omega]; exact this
section
variable {w : World} {ro : Nat → Nat} {D a ca sh room q : Nat} {ps rs : Nat → Nat} {vs : Nat → Value} {s : St}
/-- Where a block's entry lies among its shard's places. -/
theorem fit_find_at (h : Fit sh room s) {i : Int} {k : Nat} (hf : find s.L i = some k) : i.toNat % sh * room ≤ k ∧ k < i.toNat % sh * room + room := by
  obtain ⟨h0, hk, hb⟩ := find_some hf
  have := h.at_ k (by rw [hb]; exact h0)
  rwa [hb] at this
theorem find_of (h : Fit sh room s) (hsh : 1 ≤ sh) {i : Int} (h0 : 0 ≤ i) : FirstOf (fun j => decide (0 ≤ (s.L.getD (i.toNat % sh * room + j) Ent.free).block ∧ (s.L.getD (i.toNat % sh * room + j) Ent.free).block = i)) room ((find s.L i).map (· - i.toNat % sh * room)) := by
  cases hf : find s.L i with
  | none =>
    rcases find_none hf with h1 | h1
    · omega
    · intro j hj
      have := h1 (i.toNat % sh * room + j) (h.lt (Nat.mod_lt i.toNat hsh) (by omega))
      exact decide_eq_false fun x => this x.2
  | some k =>
    have h1 := fit_find_at h hf
    obtain ⟨_, hk, hb⟩ := find_some hf
    simp only [Option.map_some, FirstOf]
    refine ⟨by omega, ?_, fun j hj => ?_⟩
    · simp only [show i.toNat % sh * room + (k - i.toNat % sh * room) = k by omega, hb]
      simp [h0]
    · have := find_first hf (i.toNat % sh * room + j) (by omega)
      exact decide_eq_false fun x => this x.2
set_option maxRecDepth 100000 in
set_option maxHeartbeats 1000000 in
theorem Cfind_any (h : CacL w ro D a ca sh room q ps rs vs s) (i : Int) (h0 : 0 ≤ i) :
    Calls Try.prog 24 #[.pointer (some ⟨a, i.toNat % sh * 2, none⟩), .int .i64 i] w fun e w' => e = .returned (placeP ps (i.toNat % sh) ((find s.L i).map (· - i.toNat % sh * room))) ∧ Below w.heap.size w w' := by
  have eg : ∀ args w, (callFunc 32 args).run Try.prog w = .ok (.enter 32 args) w := enters_of Try.func32 (by kernel_rfl) rfl
  have hb1 : Below w.heap.size w (w.alloc (.cells #[.int .i64 i] 3)) := (Below.refl _ _).alloc (Nat.le_refl _) _
  have hcon := Cfirst_any h (Nat.mod_lt i.toNat h.sh1.1) (fun x => decide (0 ≤ x.1.block ∧ x.1.block = i)) 32 #[.pointer (some ⟨w.heap.size, 0, none⟩)] eg _ hb1 (pred_find i w.heap.size _ (by simp) (by simp)) _ (find_of h.fit h.sh1.1 h0)
  obtain ⟨r, hr⟩ : ∃ r, r = placeP ps (i.toNat % sh) ((find s.L i).map (· - i.toNat % sh * room)) := ⟨_, rfl⟩
  obtain ⟨t, htt⟩ : ∃ t, t = i.toNat % sh := ⟨_, rfl⟩
  rw [← hr] at hcon ⊢
  rw [← htt] at hcon ⊢
  clear h eg hr htt
  go_enter Try.func24, Try.ntmps24
  go_wp2_with (go_at_call 31; refine hcon.mono ?_; rintro e w' ⟨rfl, hb⟩)
  go_ret
  exact ⟨rfl, hb1.trans (hb.mono (by simp))⟩
theorem Cfind_nil (i : Int) (w : World) : Calls Try.prog 24 #[.pointer none, .int .i64 i] w fun e w' => e = .returned (.pointer none) ∧ Below w.heap.size w w' := by
  go_enter Try.func24, Try.ntmps24
  go_wp2
  go_ret
  exact ⟨rfl, (Below.refl _ _).alloc (Nat.le_refl _) _⟩
end
end Go.Proofs.Ythcphabfeapjbaa
