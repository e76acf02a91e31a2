/-
  HOW THE PROGRAM'S CACHE LIES: its head, its shards' row, each shard's places, each shard's ring, the entries' bytes; what a write of one of these leaves.
-/
import Derived.Test.YthcphabfeapjbaaPM
namespace Go.Proofs.Ythcphabfeapjbaa
open Go.RowKit Ca

/-- The cells of an entry: a free place (a block below 0) has the zero ones. -/
def cellsE (e : Ent) (v : Value) : List Value := [.bool (decide (0 ≤ e.block)), .int .i64 (if 0 ≤ e.block then e.block else 0), v, .bool e.flag, .int .i64 (e.pins : Int)]
theorem cellsE_length (e : Ent) (v : Value) : (cellsE e v).length = 5 := rfl
/-- A shard's hand: a method of its ring. -/
abbrev handV (r : Nat) : Value := .func (.func 30) #[.pointer (some ⟨r, 0, none⟩)] #[]
/-- An entry's bytes: none, or a block of their own (whose role is 3). -/
def Cont (w : World) (ro : Nat → Nat) (v : Value) (bs : List UInt8) : Prop :=
  (v = .slice none 0 0 ∧ bs = []) ∨ ∃ b cap, v = .slice (some ⟨b, 0, none⟩) bs.length cap ∧ ro b = 3 ∧ b < w.heap.size ∧ bs.length ≤ cap ∧ Sees w b 0 (bs.map V8)
section
variable {w w' : World} {ro ro' : Nat → Nat} {v : Value} {bs : List UInt8}
theorem Cont.chg {X : Nat → Nat → Prop} (h : Cont w ro v bs) (hc : Chg X w w') (hX : ∀ k o, ro k = 3 → ¬ X k o) (hro : ∀ k, ro k ≠ 0 → ro' k = ro k) : Cont w' ro' v bs := by
  rcases h with h | ⟨b, cap, e, hr, hl, hk, hs⟩
  · exact .inl h
  · refine .inr ⟨b, cap, e, (hro b (by rw [hr]; decide)).trans hr, Nat.lt_of_lt_of_le hl hc.size, hk, fun j u hu => ?_⟩
    rw [hc.cell b _ hl (hX b _ hr)]
    exact hs j u hu
theorem Cont.arg (h : Cont w ro v bs) : Arg w v bs := by
  rcases h with ⟨rfl, h⟩ | ⟨b, cap, e, _, hl, hk, hs⟩
  · exact .inl ⟨none, rfl, h⟩
  · exact .inr ⟨b, 0, cap, e, hl, hk, hs⟩
theorem Cont.none (w : World) (ro : Nat → Nat) : Cont w ro (.slice none 0 0) [] := .inl ⟨rfl, rfl⟩
/-- New bytes: their block gets the role 3. -/
theorem cont_own {B : Nat} (h : Own w B 5 v (bs.map V8)) (hro : ∀ k, ro k ≠ 0 → k < B) : ∃ ro', Cont w ro' v bs ∧ (∀ k, ro k ≠ 0 → ro' k = ro k) ∧ (∀ k, ro' k ≠ 0 → ro k ≠ 0 ∨ (B ≤ k ∧ k < w.heap.size)) := by
  rcases h.2 with ⟨rfl, h0⟩ | ⟨g, cap, cur, rfl, hb, hg, hc, _⟩
  · exact ⟨ro, .inl ⟨rfl, List.eq_nil_of_length_eq_zero (by simpa using h0)⟩, fun _ _ => rfl, fun _ h => .inl h⟩
  · rw [List.length_map] at hc
    have hgl := (Array.getElem?_eq_some_iff.1 hg).1
    refine ⟨fun k => if k = g then 3 else ro k, .inr ⟨g, cap, by rw [List.length_map], if_pos rfl, hgl, hc, fun j u hu => ?_⟩, fun k hk => if_neg (fun e => by have := hro k hk; omega), fun k hk => ?_⟩
    · have := World.ownsRow.cells h (g := g) rfl j u hu
      rwa [add_off] at this
    · by_cases e : k = g
      · rw [e]; exact .inr ⟨hb, hgl⟩
      · simp only [if_neg e] at hk; exact .inl hk
end

/-- The program's cache: head at D, the shards' row at a, shard t's places at ps t, its ring at rs t; ro: each block's role. -/
structure CacL (w : World) (ro : Nat → Nat) (D a ca sh room q : Nat) (ps rs : Nat → Nat) (vs : Nat → Value) (s : St) : Prop where
  head : Here w D 0 [.slice (some ⟨a, 0, none⟩) sh ca, .int .i64 (s.gets : Int), .int .i64 (s.hits : Int)]
  shd : ∀ t, t < sh → Here w a (t * 2) [.slice (some ⟨ps t, 0, none⟩) room room, handV (rs t)]
  plc : ∀ t, t < sh → ∀ j, j < room → Here w (ps t) (j * 5) (cellsE (s.L.getD (t * room + j) Ent.free) (vs (t * room + j)))
  rng : ∀ t, t < sh → Here w (rs t) 0 [.int .i64 ((s.hands.getD t 0 : Nat) : Int), .int .i64 (room : Int)]
  cnt : ∀ k, Cont w ro (vs k) (s.L.getD k Ent.free).b
  fit : Fit sh room s
  gq : s.gets ≤ q ∧ s.hits ≤ s.gets
  pq : ∀ k, (s.L.getD k Ent.free).pins ≤ q
  big : ∀ k, (s.L.getD k Ent.free).b.length ≤ 1000 ∧ -1 ≤ (s.L.getD k Ent.free).block ∧ (s.L.getD k Ent.free).block ≤ 9223372036854775807
  sh1 : 1 ≤ sh ∧ sh ≤ 64
  rm1 : 1 ≤ room ∧ room ≤ 64
  rD : ro D = 1
  ra : ro a = 2
  rp : ∀ t, t < sh → ro (ps t) = 4 + 2 * t
  rr : ∀ t, t < sh → ro (rs t) = 5 + 2 * t
  lt : ∀ k, ro k ≠ 0 → k < w.heap.size
theorem ne_role {ro : Nat → Nat} {x y : Nat} (h : ro x ≠ ro y) : x ≠ y := fun e => h (by rw [e])
theorem flat_eq {room t t' j j' : Nat} (hj : j < room) (hj' : j' < room) (h : t' * room + j' = t * room + j) : t' = t ∧ j' = j := by
  rcases Nat.lt_trichotomy t t' with hl | hl | hl
  · have := Nat.mul_le_mul_right room hl
    rw [Nat.succ_mul] at this; omega
  · subst hl; exact ⟨rfl, by omega⟩
  · have := Nat.mul_le_mul_right room hl
    rw [Nat.succ_mul] at this; omega
section
variable {w w' : World} {ro ro' : Nat → Nat} {D a ca sh room q : Nat} {ps rs : Nat → Nat} {vs : Nat → Value} {s : St}
theorem CacL.stay {X : Nat → Nat → Prop} (h : CacL w ro D a ca sh room q ps rs vs s) (hc : Chg X w w') (hX : ∀ k o, ro k ≠ 0 → ¬ X k o) : CacL w' ro D a ca sh room q ps rs vs s :=
  ⟨h.head.chg hc fun _ _ => hX _ _ (by rw [h.rD]; decide), fun t ht => (h.shd t ht).chg hc fun _ _ => hX _ _ (by rw [h.ra]; decide), fun t ht j hj => (h.plc t ht j hj).chg hc fun _ _ => hX _ _ (by rw [h.rp t ht]; omega),
    fun t ht => (h.rng t ht).chg hc fun _ _ => hX _ _ (by rw [h.rr t ht]; omega), fun k => (h.cnt k).chg hc (fun _ _ h3 => hX _ _ (by rw [h3]; decide)) fun _ _ => rfl, h.fit, h.gq, h.pq, h.big, h.sh1, h.rm1, h.rD, h.ra, h.rp, h.rr, fun k hk => Nat.lt_of_lt_of_le (h.lt k hk) hc.size⟩
theorem CacL.below (h : CacL w ro D a ca sh room q ps rs vs s) (hb : Below w.heap.size w w') : CacL w' ro D a ca sh room q ps rs vs s := h.stay (Chg.below hb fun _ _ => False) fun _ _ _ x => x
theorem CacL.mono (h : CacL w ro D a ca sh room q ps rs vs s) {q' : Nat} (hq : q ≤ q') : CacL w ro D a ca sh room q' ps rs vs s :=
  { h with gq := ⟨Nat.le_trans h.gq.1 hq, h.gq.2⟩, pq := fun k => Nat.le_trans (h.pq k) hq }
theorem CacL.c0 (h : CacL w ro D a ca sh room q ps rs vs s) : w.cell? ⟨D, 0, none⟩ = some (.slice (some ⟨a, 0, none⟩) sh ca) := h.head.head (j := 0) rfl
theorem CacL.c1 (h : CacL w ro D a ca sh room q ps rs vs s) : w.cell? ⟨D, 1, none⟩ = some (.int .i64 (s.gets : Int)) := h.head.head (j := 1) rfl
theorem CacL.c2 (h : CacL w ro D a ca sh room q ps rs vs s) : w.cell? ⟨D, 2, none⟩ = some (.int .i64 (s.hits : Int)) := h.head.head (j := 2) rfl
theorem CacL.s0 (h : CacL w ro D a ca sh room q ps rs vs s) {t : Nat} (ht : t < sh) : w.cell? ⟨a, t * 2, none⟩ = some (.slice (some ⟨ps t, 0, none⟩) room room) := by have := (h.shd t ht).cell (j := 0) rfl; rwa [Nat.add_zero] at this
theorem CacL.s1 (h : CacL w ro D a ca sh room q ps rs vs s) {t : Nat} (ht : t < sh) : w.cell? ⟨a, t * 2 + 1, none⟩ = some (handV (rs t)) := (h.shd t ht).cell (j := 1) rfl
theorem CacL.r0 (h : CacL w ro D a ca sh room q ps rs vs s) {t : Nat} (ht : t < sh) : w.cell? ⟨rs t, 0, none⟩ = some (.int .i64 ((s.hands.getD t 0 : Nat) : Int)) := (h.rng t ht).head (j := 0) rfl
theorem CacL.r1 (h : CacL w ro D a ca sh room q ps rs vs s) {t : Nat} (ht : t < sh) : w.cell? ⟨rs t, 1, none⟩ = some (.int .i64 (room : Int)) := (h.rng t ht).head (j := 1) rfl
theorem CacL.ent (h : CacL w ro D a ca sh room q ps rs vs s) {t j : Nat} (ht : t < sh) (hj : j < room) (i : Nat) (v : Value) (hv : (cellsE (s.L.getD (t * room + j) Ent.free) (vs (t * room + j)))[i]? = some v) : w.cell? ⟨ps t, j * 5 + i, none⟩ = some v := (h.plc t ht j hj).cell hv
theorem CacL.entFree (h : CacL w ro D a ca sh room q ps rs vs s) {t j : Nat} (ht : t < sh) (hj : j < room) (i : Nat) (hi : i < 5) : w.frozen? ⟨ps t, j * 5 + i, none⟩ = false := (h.plc t ht j hj).free (by rw [cellsE_length]; exact hi)
/-- An entry, turned. -/
theorem CacL.turn (h : CacL w ro D a ca sh room q ps rs vs s) {t j : Nat} (ht : t < sh) (hj : j < room) (e' : Ent) (v' : Value) (hro : ∀ k, ro k ≠ 0 → ro' k = ro k) (hlt : ∀ k, ro' k ≠ 0 → k < w'.heap.size)
    (hc : Chg (fun k o => k = ps t ∧ j * 5 ≤ o ∧ o < j * 5 + 5) w w') (hn : Here w' (ps t) (j * 5) (cellsE e' v')) (hv : Cont w' ro' v' e'.b) (q' : Nat) (hq : q ≤ q') (hp : e'.pins ≤ q') (hb : e'.b.length ≤ 1000 ∧ -1 ≤ e'.block ∧ e'.block ≤ 9223372036854775807) (hat : 0 ≤ e'.block → e'.block.toNat % sh = t) :
    CacL w' ro' D a ca sh room q' ps rs (fun k => if k = t * room + j then v' else vs k) { s with L := s.L.set (t * room + j) e' } := by
  have hrp := h.rp t ht
  have hkl : t * room + j < s.L.length := by
    have := Nat.mul_le_mul_right room (show t + 1 ≤ sh from ht)
    rw [Nat.succ_mul] at this
    rw [h.fit.len]; omega
  have hne : ∀ x, ro x ≠ 4 + 2 * t → ∀ o, ¬ (x = ps t ∧ j * 5 ≤ o ∧ o < j * 5 + 5) := fun x hx o ⟨e, _⟩ => hx (by rw [e]; exact hrp)
  have hget : ∀ k, (s.L.set (t * room + j) e').getD k Ent.free = if k = t * room + j then e' else s.L.getD k Ent.free := fun k => getD_set _ _ _ _ hkl
  refine ⟨h.head.chg hc fun _ _ => hne _ (by rw [h.rD]; omega) _, fun t' ht' => (h.shd t' ht').chg hc fun _ _ => hne _ (by rw [h.ra]; omega) _, fun t' ht' j' hj' => ?_, fun t' ht' => (h.rng t' ht').chg hc fun _ _ => hne _ (by rw [h.rr t' ht']; omega) _,
    fun k => ?_, h.fit.set e' hkl (fun h0 => by rw [hat h0]; omega), ⟨Nat.le_trans h.gq.1 hq, h.gq.2⟩, fun k => ?_, fun k => ?_, h.sh1, h.rm1, ?_, ?_, ?_, ?_, hlt⟩
  · show Here w' (ps t') (j' * 5) (cellsE ((s.L.set (t * room + j) e').getD (t' * room + j') Ent.free) (if t' * room + j' = t * room + j then v' else vs (t' * room + j')))
    rw [hget]
    by_cases he : t' * room + j' = t * room + j
    · obtain ⟨rfl, rfl⟩ := flat_eq hj hj' he
      rw [if_pos rfl, if_pos rfl]; exact hn
    · rw [if_neg he, if_neg he]
      refine (h.plc t' ht' j' hj').chg hc fun i hi => ?_
      rw [cellsE_length] at hi
      rintro ⟨e, h1, h2⟩
      have : t' = t := by
        have h3 := h.rp t' ht'
        rw [e, hrp] at h3; omega
      subst this
      have : j' = j := by omega
      exact he (by rw [this])
  · show Cont w' ro' (if k = t * room + j then v' else vs k) ((s.L.set (t * room + j) e').getD k Ent.free).b
    rw [hget]
    by_cases he : k = t * room + j
    · rw [if_pos he, if_pos he]; exact hv
    · rw [if_neg he, if_neg he]
      exact (h.cnt k).chg hc (fun x o h3 => hne x (by rw [h3]; omega) o) hro
  · show ((s.L.set (t * room + j) e').getD k Ent.free).pins ≤ q'
    rw [hget]
    split
    · exact hp
    · exact Nat.le_trans (h.pq k) hq
  · show ((s.L.set (t * room + j) e').getD k Ent.free).b.length ≤ 1000 ∧ -1 ≤ ((s.L.set (t * room + j) e').getD k Ent.free).block ∧ ((s.L.set (t * room + j) e').getD k Ent.free).block ≤ 9223372036854775807
    rw [hget]
    split
    · exact hb
    · exact h.big k
  · rw [hro _ (by rw [h.rD]; decide)]; exact h.rD
  · rw [hro _ (by rw [h.ra]; decide)]; exact h.ra
  · intro t' ht'; rw [hro _ (by rw [h.rp t' ht']; omega)]; exact h.rp t' ht'
  · intro t' ht'; rw [hro _ (by rw [h.rr t' ht']; omega)]; exact h.rr t' ht'
/-- One cell of an entry, written. -/
theorem CacL.put1 (h : CacL w ro D a ca sh room q ps rs vs s) {t j : Nat} (ht : t < sh) (hj : j < room) (e' : Ent) (v' x : Value) (i : Nat) (hi : i < 5) (he : cellsE e' v' = (cellsE (s.L.getD (t * room + j) Ent.free) (vs (t * room + j))).set i x)
    (hv : Cont w ro v' e'.b) (q' : Nat) (hq : q ≤ q') (hp : e'.pins ≤ q') (hb : e'.b.length ≤ 1000) (hbl : e'.block = (s.L.getD (t * room + j) Ent.free).block) :
    CacL (w.setCell ⟨ps t, j * 5 + i, none⟩ x) ro D a ca sh room q' ps rs (fun k => if k = t * room + j then v' else vs k) { s with L := s.L.set (t * room + j) e' } ∧ Chg (fun k _ => ro k ≠ 0) w (w.setCell ⟨ps t, j * 5 + i, none⟩ x) := by
  have hrp := h.rp t ht
  have hkl : t * room + j < s.L.length := by
    have := Nat.mul_le_mul_right room (show t + 1 ≤ sh from ht)
    rw [Nat.succ_mul] at this
    rw [h.fit.len]; omega
  have hsome : (w.cell? ⟨ps t, j * 5 + i, none⟩).isSome = true := ((h.plc t ht j hj).2 i (by rw [cellsE_length]; exact hi)).1
  have hc : Chg (fun k o => k = ps t ∧ j * 5 ≤ o ∧ o < j * 5 + 5) w (w.setCell ⟨ps t, j * 5 + i, none⟩ x) := (Chg.refl _ w).setCell (p := ⟨ps t, j * 5 + i, none⟩) rfl (fun _ => ⟨rfl, by show j * 5 ≤ j * 5 + i; omega, by show j * 5 + i < j * 5 + 5; omega⟩) hsome x
  have hn := (h.plc t ht j hj).put i (by rw [cellsE_length]; exact hi) x
  rw [← he] at hn
  refine ⟨h.turn ht hj e' v' (fun _ _ => rfl) (fun k hk => Nat.lt_of_lt_of_le (h.lt k hk) hc.size) hc hn (hv.chg hc (fun k o h3 => ?_) fun _ _ => rfl) q' hq hp ⟨hb, by rw [hbl]; exact (h.big _).2⟩ (fun h0 => ?_), hc.mono fun k o _ hk => ?_⟩
  · rintro ⟨rfl, _⟩; rw [hrp] at h3; omega
  · rw [hbl] at h0 ⊢
    have h2 := h.fit.at_ _ h0
    have hs := Nat.mod_lt (s.L.getD (t * room + j) Ent.free).block.toNat h.sh1.1
    rcases Nat.lt_trichotomy ((s.L.getD (t * room + j) Ent.free).block.toNat % sh) t with hl | hl | hl
    · have := Nat.mul_le_mul_right room hl
      rw [Nat.succ_mul] at this; omega
    · exact hl
    · have := Nat.mul_le_mul_right room hl
      rw [Nat.succ_mul] at this; omega
  · rw [hk.1, hrp]; omega
/-- A whole entry, written. -/
theorem CacL.putAll (h : CacL w ro D a ca sh room q ps rs vs s) {t j : Nat} (ht : t < sh) (hj : j < room) (e' : Ent) (v' : Value) (hv : Cont w ro v' e'.b) (hp : e'.pins ≤ q) (hb : e'.b.length ≤ 1000 ∧ -1 ≤ e'.block ∧ e'.block ≤ 9223372036854775807) (hat : 0 ≤ e'.block → e'.block.toNat % sh = t) :
    CacL (w.setCells (ps t) (j * 5) (cellsE e' v')) ro D a ca sh room q ps rs (fun k => if k = t * room + j then v' else vs k) { s with L := s.L.set (t * room + j) e' } ∧ Chg (fun k _ => ro k ≠ 0) w (w.setCells (ps t) (j * 5) (cellsE e' v')) := by
  have hrp := h.rp t ht
  have hc : Chg (fun k o => k = ps t ∧ j * 5 ≤ o ∧ o < j * 5 + 5) w (w.setCells (ps t) (j * 5) (cellsE e' v')) :=
    (Chg.refl _ w).setCells (fun i hi _ => ⟨rfl, by omega, by rw [cellsE_length] at hi; omega⟩) (h.plc t ht j hj).2
  have hn := (h.plc t ht j hj).set (cellsE e' v') rfl
  refine ⟨h.turn ht hj e' v' (fun _ _ => rfl) (fun k hk => Nat.lt_of_lt_of_le (h.lt k hk) hc.size) hc hn (hv.chg hc (fun k o h3 => ?_) fun _ _ => rfl) q (Nat.le_refl _) hp hb hat, hc.mono fun k o _ hk => ?_⟩
  · rintro ⟨rfl, _⟩; rw [hrp] at h3; omega
  · rw [hk.1, hrp]; omega
/-- A hand, moved. -/
theorem CacL.hand (h : CacL w ro D a ca sh room q ps rs vs s) {t : Nat} (ht : t < sh) (x : Nat) (hx : x < room) :
    CacL (w.setCell ⟨rs t, 0, none⟩ (.int .i64 (x : Int))) ro D a ca sh room q ps rs vs { s with hands := s.hands.set t x } ∧ Chg (fun k _ => ro k ≠ 0) w (w.setCell ⟨rs t, 0, none⟩ (.int .i64 (x : Int))) := by
  have hrr := h.rr t ht
  have htl : t < s.hands.length := by rw [h.fit.hlen]; exact ht
  have hc : Chg (fun k _ => k = rs t) w (w.setCell ⟨rs t, 0, none⟩ (.int .i64 (x : Int))) := (Chg.refl _ w).setCell (p := ⟨rs t, 0, none⟩) rfl (fun _ => rfl) (by rw [h.r0 ht]; rfl) _
  have hne : ∀ y, ro y ≠ 5 + 2 * t → y ≠ rs t := fun y hy e => hy (by rw [e]; exact hrr)
  refine ⟨⟨h.head.chg hc fun _ _ => hne _ (by rw [h.rD]; omega), fun t' ht' => (h.shd t' ht').chg hc fun _ _ => hne _ (by rw [h.ra]; omega), fun t' ht' j hj => (h.plc t' ht' j hj).chg hc fun _ _ => hne _ (by rw [h.rp t' ht']; omega), fun t' ht' => ?_,
    fun k => (h.cnt k).chg hc (fun y _ h3 => hne y (by rw [h3]; omega)) fun _ _ => rfl, ⟨h.fit.len, (List.length_set).trans h.fit.hlen, fun y hy => ?_, h.fit.at_⟩, h.gq, h.pq, h.big, h.sh1, h.rm1, h.rD, h.ra, h.rp, h.rr, fun k hk => Nat.lt_of_lt_of_le (h.lt k hk) hc.size⟩, hc.mono fun k o _ hk => ?_⟩
  · by_cases e : t' = t
    · subst e
      have h1 := (h.rng t' ht').put 0 (by simp) (.int .i64 (x : Int))
      rw [Nat.zero_add] at h1
      show Here _ _ _ [.int .i64 (((s.hands.set t' x).getD t' 0 : Nat) : Int), _]
      rw [List.getD_eq_getElem?_getD, List.getElem?_set_self htl]
      exact h1
    · show Here _ _ _ [.int .i64 (((s.hands.set t x).getD t' 0 : Nat) : Int), _]
      rw [List.getD_eq_getElem?_getD, List.getElem?_set_ne (fun e2 => e e2.symm), ← List.getD_eq_getElem?_getD]
      refine (h.rng t' ht').chg hc fun _ _ e2 => e ?_
      have h1 := h.rr t' ht'
      rw [e2, hrr] at h1; omega
  · rcases List.mem_or_eq_of_mem_set hy with hy | hy
    · exact h.fit.hlt y hy
    · rw [hy]; exact hx
  · rw [hk, hrr]; omega
theorem CacL.putHead (h : CacL w ro D a ca sh room q ps rs vs s) (i : Nat) (g k : Nat) (x : Value) (hi : i = 1 ∨ i = 2) (hx : [Value.slice (some ⟨a, 0, none⟩) sh ca, .int .i64 (g : Int), .int .i64 (k : Int)] = ([Value.slice (some ⟨a, 0, none⟩) sh ca, .int .i64 (s.gets : Int), .int .i64 (s.hits : Int)]).set i x) (q' : Nat) (hq : q ≤ q') (hg : g ≤ q' ∧ k ≤ g) :
    CacL (w.setCell ⟨D, i, none⟩ x) ro D a ca sh room q' ps rs vs { s with gets := g, hits := k } ∧ Chg (fun k _ => ro k ≠ 0) w (w.setCell ⟨D, i, none⟩ x) := by
  have hsm : (w.cell? ⟨D, i, none⟩).isSome = true := by
    rcases hi with rfl | rfl
    · rw [h.c1]; rfl
    · rw [h.c2]; rfl
  have hc : Chg (fun k _ => k = D) w (w.setCell ⟨D, i, none⟩ x) := (Chg.refl _ w).setCell (p := ⟨D, i, none⟩) rfl (fun _ => rfl) hsm _
  have hne : ∀ y, ro y ≠ 1 → y ≠ D := fun y hy e => hy (by rw [e]; exact h.rD)
  have h1 := h.head.put i (by rcases hi with rfl | rfl <;> simp) x
  rw [Nat.zero_add, ← hx] at h1
  refine ⟨⟨h1, fun t ht => (h.shd t ht).chg hc fun _ _ => hne _ (by rw [h.ra]; omega), fun t' ht' j hj => (h.plc t' ht' j hj).chg hc fun _ _ => hne _ (by rw [h.rp t' ht']; omega), fun t ht => (h.rng t ht).chg hc fun _ _ => hne _ (by rw [h.rr t ht]; omega),
    fun k => (h.cnt k).chg hc (fun y _ h3 => hne y (by rw [h3]; omega)) fun _ _ => rfl, ⟨h.fit.len, h.fit.hlen, h.fit.hlt, h.fit.at_⟩, hg, fun k => Nat.le_trans (h.pq k) hq, h.big, h.sh1, h.rm1, h.rD, h.ra, h.rp, h.rr, fun k hk => Nat.lt_of_lt_of_le (h.lt k hk) hc.size⟩, hc.mono fun k o _ hk => ?_⟩
  rw [hk, h.rD]; decide
end

/-- The account: how the program's cache lies. -/
def Lies (w : World) (F : Nat → Prop) (D sh room q : Nat) (s : St) : Prop := ∃ ro a ca ps rs vs, (∀ k, F k ↔ ro k ≠ 0) ∧ CacL w ro D a ca sh room q ps rs vs s
/-- What a call of the cache's own leaves. -/
def Leaves (w : World) (ro : Nat → Nat) (w' : World) (D a ca sh room q : Nat) (ps rs : Nat → Nat) (s : St) : Prop :=
  ∃ ro' vs', CacL w' ro' D a ca sh room q ps rs vs' s ∧ (∀ k, ro k ≠ 0 → ro' k = ro k) ∧ (∀ k, ro' k ≠ 0 → ro k ≠ 0 ∨ w.heap.size ≤ k) ∧ Chg (fun k _ => ro k ≠ 0) w w'
theorem Leaves.after {w w' : World} {ro : Nat → Nat} {F : Nat → Prop} {D a ca sh room q : Nat} {ps rs : Nat → Nat} {s : St} (h : Leaves w ro w' D a ca sh room q ps rs s) (hF : ∀ k, F k ↔ ro k ≠ 0) : AfterC Lies w F w' D sh room q s := by
  obtain ⟨ro', vs', hR, _, hn, hC⟩ := h
  exact ⟨fun k => ro' k ≠ 0, ⟨ro', a, ca, ps, rs, vs', fun _ => Iff.rfl, hR⟩, fun k hk => (hn k hk).imp (hF k).2 id, hC.mono fun k _ _ hk => (hF k).2 hk⟩
theorem Leaves.here {w w' : World} {ro : Nat → Nat} {D a ca sh room q q' : Nat} {ps rs : Nat → Nat} {vs' : Nat → Value} {s : St} (h : CacL w' ro D a ca sh room q' ps rs vs' s) (hC : Chg (fun k _ => ro k ≠ 0) w w') (hq : q' ≤ q) : Leaves w ro w' D a ca sh room q ps rs s :=
  ⟨ro, vs', h.mono hq, fun _ _ => rfl, fun _ hk => .inl hk, hC⟩
end Go.Proofs.Ythcphabfeapjbaa
