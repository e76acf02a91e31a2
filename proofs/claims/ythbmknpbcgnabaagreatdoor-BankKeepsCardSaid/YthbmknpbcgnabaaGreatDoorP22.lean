/-
  OF THE WALK: VD, MrNH, MrNI.
-/
import Derived.DeepKeys4
import Derived.Maps.Own
import Derived.RangeFuncNested
import Derived.Test.YthbmknpbcgnabaaGreatDoorP14
import Derived.Test.YthbmknpbcgnabaaGreatDoorP19
import Derived.Test.YthbmknpbcgnabaaGreatDoorP21
namespace Go.Proofs.YthbmknpbcgnabaaGreatDoor
open Go.RowKit Aes Ctr Sl Dsk
def PartsOn (w : World) (K : Nat → Prop) (v : Value) (l : List (List UInt8)) : Prop :=
  (∃ A c, v = .slice A 0 c ∧ l = []) ∨ ∃ b o cap vs, v = .slice (some ⟨b, o, none⟩) l.length cap ∧ b < w.heap.size ∧ K b ∧ Sees w b o vs ∧ vs.length = l.length ∧ ∀ (j : Nat) u q, vs[j]? = some u → l[j]? = some q → ArgOn w K u q
section
variable {w w' : World} {K K' : Nat → Prop} {S : Nat → Nat → Prop} {v : Value} {l : List (List UInt8)}
theorem PartsOn.chg (h : PartsOn w K v l) (hc : Chg S w w') (hn : ∀ k o, K k → ¬ S k o) : PartsOn w' K v l := by
  rcases h with h | ⟨b, o, cap, vs, e, hb, hk, hs, hl, ha⟩
  · exact .inl h
  · exact .inr ⟨b, o, cap, vs, e, Nat.lt_of_lt_of_le hb hc.size, hk, sees_chgV hs hc hb fun o => hn b o hk, hl, fun j u q hu hq => (ha j u q hu hq).chg hc hn⟩
theorem PartsOn.below (h : PartsOn w K v l) (hb : Below w.heap.size w w') : PartsOn w' K v l := h.chg (Chg.below hb fun _ _ => False) fun _ _ _ x => x
theorem PartsOn.imp (h : PartsOn w K v l) (hk : ∀ k, K k → k < w.heap.size → K' k) : PartsOn w K' v l := by
  rcases h with h | ⟨b, o, cap, vs, e, hb, hkb, hs, hl, ha⟩
  · exact .inl h
  · exact .inr ⟨b, o, cap, vs, e, hb, hk b hkb hb, hs, hl, fun j u q hu hq => (ha j u q hu hq).imp hk⟩
theorem PartsOn.form (h : PartsOn w K v l) : ∃ A cap, v = .slice A l.length cap := by
  rcases h with ⟨A, c, e, rfl⟩ | ⟨b, o, cap, vs, e, _⟩
  · exact ⟨A, c, e⟩
  · exact ⟨_, cap, e⟩
end
theorem Rowed.partsOn {Lo B : Nat} {W : World} {v : Value} {ps : List (List UInt8)} (h : Rowed Lo B W v ps) (hLo : Lo ≤ B) : PartsOn W (fun k => Lo ≤ k) v ps := by
  cases ps with
  | nil =>
    obtain ⟨vs, ho, hl, _⟩ := h
    obtain rfl := List.eq_nil_of_length_eq_zero hl
    rcases ho.2 with ⟨rfl, _⟩ | ⟨g, cap, cur, rfl, _⟩
    · exact .inl ⟨none, 0, rfl, rfl⟩
    · exact .inl ⟨_, cap, rfl, rfl⟩
  | cons p r =>
    obtain ⟨g, cap, vs, e, hg, hs, hl, ha⟩ := h.valsOn (by simp) hLo
    exact .inr ⟨g, 0, cap, vs, e, hg.1, hg.2, hs, hl, ha⟩
def regV (ep bank : Nat) (root : List UInt8) : List Value := .int .u64 (ep : Int) :: .int .i64 (bank : Int) :: root.map V8
abbrev BAcc := World → (Nat → Prop) → Nat → Nat → List UInt8 → List UInt8 → Bk.Bn → Prop
def AfterB (B : BAcc) (w : World) (F G : Nat → Prop) (w' : World) (P d : Nat) (ek mk : List UInt8) (s : Bk.Bn) (D : List Blk) : Prop :=
  ∃ F' G', B w' F' P d ek mk s ∧ DiskAt w' G' d D ∧ (∀ k, F' k → ¬ G' k) ∧ (∀ k, F' k → F k ∨ w.heap.size ≤ k) ∧ (∀ k, G' k → G k ∨ w.heap.size ≤ k) ∧ Chg (fun k _ => F k ∨ G k) w w'
def NoTab (F : Nat → Prop) : Prop := ∀ k, F k → k ≠ 0
structure BankC (B : BAcc) : Prop where
  lt : ∀ {w F P d ek mk s}, B w F P d ek mk s → ∀ k, F k → k < w.heap.size
  stay : ∀ {w F P d ek mk s w' X}, B w F P d ek mk s → Chg X w w' → (∀ k o, F k → ¬ X k o) → B w' F P d ek mk s
  formatBad : ∀ {w G d D} (ek mk : List UInt8) (ks : List Value) (n : Int), DiskAt w G d D → KeysV ek mk ks → -9223372036854775808 ≤ n ∧ n ≤ 9223372036854775807 → (n < 8 ∨ 128 < n ∨ (D.length : Int) ≠ 2 * n) →
    Calls Tryz.prog 9 #[.pointer (some ⟨d, 0, none⟩), .agg ks.toArray, .int .i64 n] w fun e w' => e = .returned (.tuple #[.pointer none, .int .i64 1]) ∧ Below w.heap.size w w'
  formatOk : ∀ {w G d D} (ek mk : List UInt8) (ks : List Value) (n : Nat), DiskAt w G d D → KeysV ek mk ks → 8 ≤ n ∧ n ≤ 100 → D.length = 2 * n → Hm.Tab w → NoTab G →
    Calls Tryz.prog 9 #[.pointer (some ⟨d, 0, none⟩), .agg ks.toArray, .int .i64 (n : Int)] w fun e w' => ∃ P, e = .returned (.tuple #[.pointer (some ⟨P, 0, none⟩), .int .i64 0]) ∧ AfterB B w (fun _ => False) G w' P d ek mk (Bk.format ek mk n D).1 (Bk.format ek mk n D).2
  mountBad : ∀ {w G d D} (ek mk : List UInt8) (ks : List Value) (n : Int) (ep bank : Nat) (root : List UInt8) (rs : List Value), DiskAt w G d D → KeysV ek mk ks → -9223372036854775808 ≤ n ∧ n ≤ 9223372036854775807 → root.length = 32 → Hid (rs = regV ep bank root) → bank ≤ 1 → ep ≤ 1000000 →
    (n < 8 ∨ 128 < n ∨ (D.length : Int) ≠ 2 * n ∨ ep = 0) →
    Calls Tryz.prog 10 #[.pointer (some ⟨d, 0, none⟩), .agg ks.toArray, .int .i64 n, .agg rs.toArray] w fun e w' => e = .returned (.tuple #[.pointer none, .int .i64 1]) ∧ Below w.heap.size w w'
  mountOk : ∀ {w G d D} (ek mk : List UInt8) (ks : List Value) (n ep bank : Nat) (root : List UInt8) (rs : List Value), DiskAt w G d D → KeysV ek mk ks → 8 ≤ n ∧ n ≤ 100 → D.length = 2 * n → Hm.Tab w → NoTab G → bank ≤ 1 → 1 ≤ ep ∧ ep ≤ 1000000 → root.length = 32 → Hid (rs = regV ep bank root) →
    Calls Tryz.prog 10 #[.pointer (some ⟨d, 0, none⟩), .agg ks.toArray, .int .i64 (n : Int), .agg rs.toArray] w fun e w' =>
      match Bk.mount mk n ep bank root D with
      | some s => ∃ P F, e = .returned (.tuple #[.pointer (some ⟨P, 0, none⟩), .int .i64 0]) ∧ B w' F P d ek mk s ∧ (∀ k, F k → w.heap.size ≤ k) ∧ Below w.heap.size w w'
      | none => e = .returned (.tuple #[.pointer none, .int .i64 10]) ∧ Below w.heap.size w w'
  reg : ∀ {w F P d ek mk s}, B w F P d ek mk s → ∀ rs, Hid (rs = regV s.ep s.bank s.root) → Calls Tryz.prog 24 #[.pointer (some ⟨P, 0, none⟩)] w fun e w' => e = .returned (.agg rs.toArray) ∧ Below w.heap.size w w'
  busy : ∀ {w F P d ek mk s}, B w F P d ek mk s → Calls Tryz.prog 29 #[.pointer (some ⟨P, 0, none⟩)] w fun e w' => e = .returned (.bool (decide (s.L ≠ []))) ∧ Below w.heap.size w w'
  readBad : ∀ {w F P d ek mk s}, B w F P d ek mk s → ∀ (i : Int), -9223372036854775808 ≤ i ∧ i ≤ 9223372036854775807 → (i < 0 ∨ (s.n : Int) ≤ i) → Calls Tryz.prog 21 #[.pointer (some ⟨P, 0, none⟩), .int .i64 i] w fun e w' => ∃ v, e = .returned (.tuple #[v, .int .i64 1]) ∧ Own w' w.heap.size 5 v [] ∧ Below w.heap.size w w'
  readOk : ∀ {w F P d ek mk s G D}, B w F P d ek mk s → DiskAt w G d D → D.length = 2 * s.n → s.bank ≤ 1 → Hm.Tab w → ∀ (i : Nat), i < s.n → Calls Tryz.prog 21 #[.pointer (some ⟨P, 0, none⟩), .int .i64 (i : Int)] w fun e w' =>
    ∃ v, e = .returned (.tuple #[v, .int .i64 (if (Bk.read ek mk s D i).isSome then 0 else 10)]) ∧ Hid (Own w' w.heap.size 5 v (((Bk.read ek mk s D i).getD []).map V8)) ∧ Below w.heap.size w w'
  begin_ : ∀ {w F P d ek mk s}, B w F P d ek mk s → ∀ (K : Nat → Prop) (v : Value) (l : List (List UInt8)), PartsOn w K v l → (∀ k, K k → ¬ F k) → s.ep ≤ 1000000 → Hm.Tab w → l.length ≤ 1000 → (∀ x ∈ l, x.length ≤ 1000) →
    Calls Tryz.prog 16 #[.pointer (some ⟨P, 0, none⟩), v] w fun e w' => e = .returned (.int .i64 ((Bk.begin_ s l).2 : Int)) ∧ ∃ F', B w' F' P d ek mk (Bk.begin_ s l).1 ∧ (∀ k, F' k → F k ∨ w.heap.size ≤ k) ∧ Chg (fun k _ => F k) w w'
  step : ∀ {w F P d ek mk s G D}, B w F P d ek mk s → DiskAt w G d D → (∀ k, F k → ¬ G k) → D.length = 2 * s.n → s.bank ≤ 1 → s.ep ≤ 1000000 → Hm.Tab w → NoTab F → NoTab G →
    Calls Tryz.prog 19 #[.pointer (some ⟨P, 0, none⟩)] w fun e w' => e = .returned (.tuple #[.bool (Bk.step ek mk s D).2.1, .int .i64 ((Bk.step ek mk s D).2.2 : Int)]) ∧ AfterB B w F G w' P d ek mk (Bk.step ek mk s D).1.1 (Bk.step ek mk s D).1.2
end Go.Proofs.YthbmknpbcgnabaaGreatDoor
namespace Go.Proofs.YthbmknpbcgnabaaGreatDoor.Mr
open Go.RowKit
open Go.Maps (Keyed)
def Stamp (es : Array MapEntry) (clock : Nat) : Prop := (∀ x ∈ es.toList, x.born < clock) ∧ (es.toList.map (·.born)).Nodup
def MapAt (P : Program) (k : TypeId) (w : World) (b : Nat) (f : List (Value × Value)) : Prop :=
  ∃ es clock, w.heap[b]? = some (.map es clock) ∧ es.toList.map (fun e => (e.key, e.val)) = f ∧ (f.map (·.1)).Nodup ∧ (∀ p ∈ f, ∃ l, keyOf P k p.1 = some l) ∧ Stamp es clock
section
variable {P : Program} {k e t : TypeId} {w w' : World} {b : Nat} {f : List (Value × Value)} {key v z : Value} {kl : Lit}
theorem modify_stamp {es : Array MapEntry} {c : Nat} (h : Stamp es c) (j : Nat) (key v : Value) : Stamp (es.modify j fun e => { e with key, val := v }) c := by
  have e : ((es.modify j fun e => { e with key, val := v }).toList.map (·.born)) = es.toList.map (·.born) := by
    apply List.ext_getElem?
    intro i
    rw [List.getElem?_map, List.getElem?_map, Array.getElem?_toList, Array.getElem?_modify, Array.getElem?_toList]
    split
    · cases es[i]? <;> rfl
    · rfl
  refine ⟨fun x hx => ?_, by rw [e]; exact h.2⟩
  have hm : x.born ∈ es.toList.map (·.born) := by rw [← e]; exact List.mem_map.2 ⟨x, hx, rfl⟩
  obtain ⟨y, hy, hyb⟩ := List.mem_map.1 hm
  rw [← hyb]; exact h.1 y hy
theorem MapAt.lt (h : MapAt P k w b f) : b < w.heap.size := by
  obtain ⟨es, c, hb, _⟩ := h
  exact (Array.getElem?_eq_some_iff.1 hb).1
theorem MapAt.same (h : MapAt P k w b f) (hs : w'.heap[b]? = w.heap[b]?) : MapAt P k w' b f := by
  obtain ⟨es, c, hb, r⟩ := h
  exact ⟨es, c, hs.trans hb, r⟩
theorem MapAt.chg {X : Nat → Nat → Prop} (h : MapAt P k w b f) (hc : Chg X w w') (hn : ∀ o, ¬ X b o) : MapAt P k w' b f := h.same (hc.block b h.lt hn)
theorem MapAt.below (h : MapAt P k w b f) (hb : Below w.heap.size w w') : MapAt P k w' b f := h.same (hb.block b h.lt)
theorem mapAt_new (P : Program) (k : TypeId) (w : World) : MapAt P k (w.alloc (.map #[] 0)) w.heap.size [] := ⟨#[], 0, World.alloc_heap_new w _, rfl, List.nodup_nil, fun p hp => (by cases hp), fun x hx => (by cases hx), List.nodup_nil⟩
theorem chg_map {es es' : Array MapEntry} {c c' : Nat} (hb : w.heap[b]? = some (.map es c)) : Chg (fun q _ => q = b) w (w.putObj b (.map es' c')) := by
  have hlt := (Array.getElem?_eq_some_iff.1 hb).1
  refine ⟨rfl, rfl, rfl, by rw [World.putObj_size]; exact Nat.le_refl _, fun q hq hn => World.putObj_heap_other (fun e => hn 0 e), fun q o hq hn => World.cell?_of_block (World.putObj_heap_other (fun e => hn e)), fun q o hs => ?_, fun q o hq => ?_⟩
  · by_cases e : q = b
    · subst e
      simp [World.cell?, hb] at hs
    · rw [World.cell?_of_block (w := w) (World.putObj_heap_other e)]; exact hs
  · by_cases e : q = b
    · subst e
      have h1 : (w.putObj q (.map es' c')).heap[q]? = some (.map es' c') := World.putObj_heap_same hlt
      simp [World.frozen?, hb, h1]
    · have := World.putObj_heap_other (w := w) (o := .map es' c') e
      simp only [World.frozen?, this]
theorem MapAt.find (K : Keyed P k) (h : MapAt P k w b f) (hkey : keyOf P k key = some kl) : ∃ es c, w.heap[b]? = some (.map es c) ∧ es.toList.map (fun e => (e.key, e.val)) = f ∧ Stamp es c ∧
    (((Instr.findKey k key es.toList).run P w = .ok none w ∧ ∀ p ∈ f, p.1 ≠ key) ∨ ∃ j u, (Instr.findKey k key es.toList).run P w = .ok (some (j, u)) w ∧ f[j]? = some (key, u) ∧ (es[j]?).map (·.key) = some key) := by
  obtain ⟨es, c, hb, hf, _, hk, hst⟩ := h
  refine ⟨es, c, hb, hf, hst, ?_⟩
  rcases K.find w hkey es.toList (fun x hx => hk (x.key, x.val) (by rw [← hf]; exact List.mem_map.2 ⟨x, hx, rfl⟩)) with ⟨h1, h2⟩ | ⟨j, x, h1, h2, h3⟩
  · refine .inl ⟨h1, fun p hp => ?_⟩
    rw [← hf] at hp
    obtain ⟨x, hx, rfl⟩ := List.mem_map.1 hp
    exact h2 x hx
  · refine .inr ⟨j, x.val, h1, ?_, ?_⟩
    · rw [← hf, List.getElem?_map, h2, ← h3]; rfl
    · rw [← Array.getElem?_toList, h2, ← h3]; rfl
theorem MapAt.val (h : MapAt P k w b f) {j : Nat} {u : Value} (h1 : f[j]? = some (key, u)) (h2 : (key, v) ∈ f) : u = v := by
  obtain ⟨es, c, hb, hf, hn, hk, _⟩ := h
  obtain ⟨i, hi, hi2⟩ := List.getElem_of_mem h2
  have hi3 : f[i]? = some (key, v) := by rw [List.getElem?_eq_getElem hi, hi2]
  have a1 : (f.map (·.1))[j]? = some key := by rw [List.getElem?_map, h1]; rfl
  have a2 : (f.map (·.1))[i]? = some key := by rw [List.getElem?_map, hi3]; rfl
  have hj := (List.getElem?_eq_some_iff.1 a1).1
  have hi' := (List.getElem?_eq_some_iff.1 a2).1
  have e : j = i := (List.getElem?_inj hj hn).1 (a1.trans a2.symm)
  subst e
  rw [h1] at hi3
  injection hi3 with hi3
  injection hi3
theorem MapAt.update (K : Keyed P k) (h : MapAt P k w b f) (ht : P.underlying t = some (.map k e)) (hkey : keyOf P k key = some kl) (v : Value) :
    ∃ w', (Instr.mapUpdate t (.map (some b)) key v).run P w = .ok () w' ∧ Chg (fun q _ => q = b) w w' ∧ w'.heap.size = w.heap.size ∧
      (((∀ p ∈ f, p.1 ≠ key) ∧ MapAt P k w' b (f ++ [(key, v)])) ∨ ∃ j u, f[j]? = some (key, u) ∧ MapAt P k w' b (f.set j (key, v))) := by
  obtain ⟨es, c, hb, hf, hst, hr⟩ := h.find K hkey
  obtain ⟨_, _, _, _, hn, hk, _⟩ := h
  have hlt := (Array.getElem?_eq_some_iff.1 hb).1
  rcases hr with ⟨h1, h2⟩ | ⟨j, u, h1, h2, h3⟩
  · refine ⟨w.putObj b (.map (es.push { key, val := v, born := c }) (c + 1)), ?_, chg_map hb, World.putObj_size .., .inl ⟨h2, _, _, World.putObj_heap_same hlt, by simp [← hf], ?_, fun p hp => ?_, fun x hx => ?_, ?_⟩⟩
    · unfold Instr.mapUpdate
      simp only [Sem.run_bind, run_underlying ht, Result.andThen_ok, MapKept.run_getObj_map hb, K.check w false hkey, h1, MapKept.run_setObj_map _ hb]
      rfl
    · rw [List.map_append, List.nodup_append]
      refine ⟨hn, by simp, fun x hx y hy e => ?_⟩
      simp at hy
      obtain ⟨p, hp, rfl⟩ := List.mem_map.1 hx
      exact h2 p hp (e.trans hy)
    · rcases List.mem_append.1 hp with h | h
      · exact hk p h
      · simp at h
        rw [h]; exact ⟨kl, hkey⟩
    · rw [Array.toList_push] at hx
      rcases List.mem_append.1 hx with h | h
      · exact Nat.lt_succ_of_lt (hst.1 x h)
      · rw [List.mem_singleton.1 h]; exact Nat.lt_succ_self _
    · rw [Array.toList_push, List.map_append, List.nodup_append]
      refine ⟨hst.2, by simp, fun x hx y hy e => ?_⟩
      obtain ⟨z, hz, rfl⟩ := List.mem_map.1 hx
      simp at hy
      have := hst.1 z hz
      omega
  · refine ⟨w.putObj b (.map (es.modify j fun e => { e with key, val := v }) c), ?_, chg_map hb, World.putObj_size .., .inr ⟨j, u, h2, _, _, World.putObj_heap_same hlt, ?_, ?_, fun p hp => ?_, (modify_stamp hst j _ _)⟩⟩
    · unfold Instr.mapUpdate
      simp only [Sem.run_bind, run_underlying ht, Result.andThen_ok, MapKept.run_getObj_map hb, K.check w false hkey, h1, h3, Option.getD_some, K.stays w hkey, MapKept.run_setObj_map _ hb]
      rfl
    · apply List.ext_getElem?
      intro i
      rw [List.getElem?_map, Array.getElem?_toList, Array.getElem?_modify, List.getElem?_set, ← hf, List.getElem?_map, Array.getElem?_toList, List.length_map, Array.length_toList]
      by_cases e : j = i
      · subst e
        have hj : j < es.size := by have := (List.getElem?_eq_some_iff.1 h2).1; rw [← hf] at this; simpa using this
        simp [hj]
      · simp [e]
    · have hkeys : (f.set j (key, v)).map (·.1) = f.map (·.1) := by
        rw [List.map_set]
        apply List.ext_getElem?
        intro i
        rw [List.getElem?_set]
        split
        · rename_i e
          subst e
          rw [List.getElem?_map, h2]
          have hj := (List.getElem?_eq_some_iff.1 h2).1
          simp [hj]
        · rfl
      rw [hkeys]; exact hn
    · rcases List.mem_or_eq_of_mem_set hp with h | h
      · exact hk p h
      · rw [h]; exact ⟨kl, hkey⟩
theorem MapAt.len (h : MapAt P k w b f) (ht : P.underlying t = some (.map k e)) (ty : TypeId) : (Builtin.len_ #[t] ty #[.map (some b)]).run P w = .ok (.int .i64 f.length) w := by
  obtain ⟨es, c, hb, hf, _⟩ := h
  have hl : es.size = f.length := by rw [← hf]; simp
  unfold Builtin.len_
  simp [Sem.run_bind, run_underlying ht, MapKept.run_getObj_map hb, hl, goInt]
theorem MapAt.clear (h : MapAt P k w b f) (ht : P.underlying t = some (.map k e)) (ts : Array TypeId) (hts : ts[0]? = some t) (ty : TypeId) :
    ∃ w', (Builtin.clear_ ts ty #[.map (some b)]).run P w = .ok (.tuple #[]) w' ∧ Chg (fun q _ => q = b) w w' ∧ w'.heap.size = w.heap.size ∧ MapAt P k w' b [] := by
  obtain ⟨es, c, hb, hf, hn, hk, _⟩ := h
  have hlt := (Array.getElem?_eq_some_iff.1 hb).1
  refine ⟨w.putObj b (.map #[] c), ?_, chg_map hb, World.putObj_size .., _, _, World.putObj_heap_same hlt, rfl, List.nodup_nil, fun p hp => (by cases hp), fun x hx => (by cases hx), List.nodup_nil⟩
  unfold Builtin.clear_
  simp only [hts, List.getElem?_toArray, List.getElem?_cons_zero, Sem.run_bind, run_underlying ht, Result.andThen_ok, MapKept.run_getObj_map hb, MapKept.run_setObj_map _ hb, Sem.run_pure]
  rfl
end
section
variable {P : Program} {k e t : TypeId} {w w' : World} {b : Nat} {f : List (Value × Value)} {key v z : Value} {kl : Lit}
theorem MapAt.grown {row : Option Nat} (h : MapAt P k w b f) (hb : w.grownBy w' row) (hn : some b ≠ row) : MapAt P k w' b f := h.same (hb.block b h.lt hn)
end
def SetAt (P : Program) (k : TypeId) (u : Value) (w : World) (b : Nat) (ks : List Value) : Prop := MapAt P k w b (ks.map fun x => (x, u))
section
variable {P : Program} {k e t : TypeId} {w w' : World} {b : Nat} {ks : List Value} {key u : Value} {kl : Lit}
theorem SetAt.nodup (h : SetAt P k u w b ks) : ks.Nodup := by
  obtain ⟨_, _, _, _, hn, _⟩ := h
  rw [List.map_map] at hn
  have e : ((fun x : Value × Value => x.1) ∘ fun x : Value => (x, u)) = id := rfl
  rwa [e, List.map_id] at hn
theorem setAt_new (P : Program) (k : TypeId) (u : Value) (w : World) : SetAt P k u (w.alloc (.map #[] 0)) w.heap.size [] := mapAt_new P k w
theorem SetAt.add (K : Keyed P k) (h : SetAt P k u w b ks) (ht : P.underlying t = some (.map k e)) (hkey : keyOf P k key = some kl) :
    ∃ w', (Instr.mapUpdate t (.map (some b)) key u).run P w = .ok () w' ∧ Chg (fun q _ => q = b) w w' ∧ w'.heap.size = w.heap.size ∧ ((key ∉ ks ∧ SetAt P k u w' b (ks ++ [key])) ∨ (key ∈ ks ∧ SetAt P k u w' b ks)) := by
  obtain ⟨w', hr, hc, hs, h1 | ⟨j, v, h1, h2⟩⟩ := MapAt.update K h ht hkey u
  · refine ⟨w', hr, hc, hs, .inl ⟨fun hm => h1.1 _ (List.mem_map.2 ⟨key, hm, rfl⟩) rfl, ?_⟩⟩
    have := h1.2
    unfold SetAt
    rwa [List.map_append]
  · have hkj : ks[j]? = some key := by
      rw [List.getElem?_map] at h1
      obtain ⟨y, hy, hy2⟩ := Option.map_eq_some_iff.1 h1
      injection hy2 with hy2 _
      rw [hy, hy2]
    refine ⟨w', hr, hc, hs, .inr ⟨List.mem_of_getElem? hkj, ?_⟩⟩
    have e : (ks.map fun x => (x, u)).set j (key, u) = ks.map fun x => (x, u) := by
      rw [← List.map_set (f := fun x => (x, u))]
      congr 1
      apply List.ext_getElem?
      intro i
      rw [List.getElem?_set]
      split
      · rename_i e
        subst e
        have hj := (List.getElem?_eq_some_iff.1 hkj).1
        rw [hkj, if_pos hj]
      · rfl
    rw [e] at h2
    exact h2
theorem SetAt.len (h : SetAt P k u w b ks) (ht : P.underlying t = some (.map k e)) (ty : TypeId) : (Builtin.len_ #[t] ty #[.map (some b)]).run P w = .ok (.int .i64 ks.length) w := by
  have := MapAt.len h ht ty
  simpa using this
theorem SetAt.clear (h : SetAt P k u w b ks) (ht : P.underlying t = some (.map k e)) (ts : Array TypeId) (hts : ts[0]? = some t) (ty : TypeId) :
    ∃ w', (Builtin.clear_ ts ty #[.map (some b)]).run P w = .ok (.tuple #[]) w' ∧ Chg (fun q _ => q = b) w w' ∧ w'.heap.size = w.heap.size ∧ SetAt P k u w' b [] := MapAt.clear h ht ts hts ty
end
end Go.Proofs.YthbmknpbcgnabaaGreatDoor.Mr
namespace Go.Proofs.YthbmknpbcgnabaaGreatDoor.Mr
open Go.RowKit Go.ChangeShapes Go.WideShapes
open Go.Maps (Keyed)
theorem node_row : (148 : TypeId) < Tryz.prog.types.size := of_decide_eq_true (by kernel_rfl)
theorem node_wide : (match Tryz.prog.underlying 148 with | some (.array _ _) | some (.struct _) => true | _ => false) = true := by rw [Tryz.underlying148]
set_option maxRecDepth 100000
theorem laidOut : laidOutB Tryz.prog = true := by kernel_rfl
theorem node_keyed : Keyed Tryz.prog 148 := Keyed.of_law (deep_law_laid laidOut (m := 2) (by omega) node_row (by kernel_rfl) node_wide)
theorem node_key (a b : Int) (h1 : -9223372036854775808 ≤ a) (h2 : a ≤ 9223372036854775807) (h3 : -9223372036854775808 ≤ b) (h4 : b ≤ 9223372036854775807) : ∃ l, keyOf Tryz.prog 148 (.agg #[.int .i64 a, .int .i64 b]) = some l := by
  have hf : (Value.agg #[.int .i64 a, .int .i64 b]).formed Tryz.prog 148 = true := by
    have hc : Tryz.prog.cellsOf 148 = 2 := by kernel_rfl
    simp [Value.formed, Tryz.underlying148, hc]
  have hk : Tryz.prog.keyType 148 = true := by kernel_rfl
  have hc : Tryz.prog.cellsOf 148 = 2 := by kernel_rfl
  have hi : Tryz.prog.cellsOf 3 = 1 := by kernel_rfl
  have ha : (Lit.int .i64 a).wf = true := by simp [Lit.wf, IntKind.min, IntKind.max, IntKind.signed, IntKind.bits]; omega
  have hb : (Lit.int .i64 b).wf = true := by simp [Lit.wf, IntKind.min, IntKind.max, IntKind.signed, IntKind.bits]; omega
  obtain ⟨d, hd⟩ : ∃ d, Tryz.prog.types.size = d + 1 := ⟨_, (Nat.sub_add_cancel (show 1 ≤ Tryz.prog.types.size from Nat.le_trans (Nat.succ_le_succ (Nat.zero_le _)) node_row)).symm⟩
  unfold keyOf
  rw [Tryz.underlying148, hd]
  simp only [hf, hk, Bool.and_self, if_true]
  simp [Program.keyLits, Tryz.underlying148, Tryz.underlying3, hc, hi, Value.cells, List.range_succ, ha, hb]
end Go.Proofs.YthbmknpbcgnabaaGreatDoor.Mr
