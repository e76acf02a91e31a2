/-
  MAPS with any keys that have a law (arrays, structs, strings, numbers), as lists of pairs: made, looked up, stored into, counted.
-/
import Derived.Test.YtaamhdgngnpmoaaDA
import Derived.Maps.Own
import Derived.DeepKeys4
import Derived.RangeFuncNested
namespace Go.Proofs.Ytaamhdgngnpmoaa
open Go.RowKit
open Go.Maps (Keyed)

/-- Each entry was born ahead of the clock, no two at once. -/
def Stamp (es : Array MapEntry) (clock : Nat) : Prop := (∀ x ∈ es.toList, x.born < clock) ∧ (es.toList.map (·.born)).Nodup
/-- Block b is a map that holds these pairs, each key once. -/
def MapAt (P : Program) (k : TypeId) (w : World) (b : Nat) (f : List (Value × Value)) : Prop :=
  ∃ es clock, w.heap[b]? = some (.map es clock) ∧ es.toList.map (fun e => (e.key, e.val)) = f ∧ (f.map (·.1)).Nodup ∧ (∀ p ∈ f, ∃ l, keyOf P k p.1 = some l) ∧ Stamp es clock
section
variable {P : Program} {k e t : TypeId} {w w' : World} {b : Nat} {f : List (Value × Value)} {key v z : Value} {kl : Lit}
theorem erase_map {α β : Type} (g : α → β) : ∀ (l : List α) (j : Nat), (l.eraseIdx j).map g = (l.map g).eraseIdx j
  | [], _ => rfl
  | _ :: _, 0 => rfl
  | a :: r, j + 1 => by rw [List.eraseIdx_cons_succ, List.map_cons, List.map_cons, List.eraseIdx_cons_succ, erase_map g r j]
theorem modify_stamp {es : Array MapEntry} {c : Nat} (h : Stamp es c) (j : Nat) (key v : Value) : Stamp (es.modify j fun e => { e with key, val := v }) c := by
  have e : ((es.modify j fun e => { e with key, val := v }).toList.map (·.born)) = es.toList.map (·.born) := by
    apply List.ext_getElem?
    intro i
    rw [List.getElem?_map, List.getElem?_map, Array.getElem?_toList, Array.getElem?_modify, Array.getElem?_toList]
    split
    · cases es[i]? <;> rfl
    · rfl
  refine ⟨fun x hx => ?_, by rw [e]; exact h.2⟩
  have hm : x.born ∈ es.toList.map (·.born) := by rw [← e]; exact List.mem_map.2 ⟨x, hx, rfl⟩
  obtain ⟨y, hy, hyb⟩ := List.mem_map.1 hm
  rw [← hyb]; exact h.1 y hy
theorem erase_stamp {es : Array MapEntry} {c : Nat} (h : Stamp es c) (j : Nat) : Stamp (es.eraseIdxIfInBounds j) c := by
  rw [Stamp, Array.toList_eraseIdxIfInBounds]
  exact ⟨fun x hx => h.1 x (List.mem_of_mem_eraseIdx hx), by rw [erase_map]; exact h.2.sublist (List.eraseIdx_sublist _ _)⟩
theorem MapAt.lt (h : MapAt P k w b f) : b < w.heap.size := by
  obtain ⟨es, c, hb, _⟩ := h
  exact (Array.getElem?_eq_some_iff.1 hb).1
theorem MapAt.same (h : MapAt P k w b f) (hs : w'.heap[b]? = w.heap[b]?) : MapAt P k w' b f := by
  obtain ⟨es, c, hb, r⟩ := h
  exact ⟨es, c, hs.trans hb, r⟩
theorem MapAt.chg {X : Nat → Nat → Prop} (h : MapAt P k w b f) (hc : Chg X w w') (hn : ∀ o, ¬ X b o) : MapAt P k w' b f := h.same (hc.block b h.lt hn)
theorem MapAt.below (h : MapAt P k w b f) (hb : Below w.heap.size w w') : MapAt P k w' b f := h.same (hb.block b h.lt)
theorem mapAt_new (P : Program) (k : TypeId) (w : World) : MapAt P k (w.alloc (.map #[] 0)) w.heap.size [] := ⟨#[], 0, World.alloc_heap_new w _, rfl, List.nodup_nil, fun p hp => (by cases hp), fun x hx => (by cases hx), List.nodup_nil⟩
/-- What turns when a map's block is written. -/
theorem chg_map {es es' : Array MapEntry} {c c' : Nat} (hb : w.heap[b]? = some (.map es c)) : Chg (fun q _ => q = b) w (w.putObj b (.map es' c')) := by
  have hlt := (Array.getElem?_eq_some_iff.1 hb).1
  refine ⟨rfl, rfl, rfl, by rw [World.putObj_size]; exact Nat.le_refl _, fun q hq hn => World.putObj_heap_other (fun e => hn 0 e), fun q o hq hn => World.cell?_of_block (World.putObj_heap_other (fun e => hn e)), fun q o hs => ?_, fun q o hq => ?_⟩
  · by_cases e : q = b
    · subst e
      simp [World.cell?, hb] at hs
    · rw [World.cell?_of_block (w := w) (World.putObj_heap_other e)]; exact hs
  · by_cases e : q = b
    · subst e
      have h1 : (w.putObj q (.map es' c')).heap[q]? = some (.map es' c') := World.putObj_heap_same hlt
      simp [World.frozen?, hb, h1]
    · have := World.putObj_heap_other (w := w) (o := .map es' c') e
      simp only [World.frozen?, this]
theorem MapAt.find (K : Keyed P k) (h : MapAt P k w b f) (hkey : keyOf P k key = some kl) : ∃ es c, w.heap[b]? = some (.map es c) ∧ es.toList.map (fun e => (e.key, e.val)) = f ∧ Stamp es c ∧
    (((Instr.findKey k key es.toList).run P w = .ok none w ∧ ∀ p ∈ f, p.1 ≠ key) ∨ ∃ j u, (Instr.findKey k key es.toList).run P w = .ok (some (j, u)) w ∧ f[j]? = some (key, u) ∧ (es[j]?).map (·.key) = some key) := by
  obtain ⟨es, c, hb, hf, _, hk, hst⟩ := h
  refine ⟨es, c, hb, hf, hst, ?_⟩
  rcases K.find w hkey es.toList (fun x hx => hk (x.key, x.val) (by rw [← hf]; exact List.mem_map.2 ⟨x, hx, rfl⟩)) with ⟨h1, h2⟩ | ⟨j, x, h1, h2, h3⟩
  · refine .inl ⟨h1, fun p hp => ?_⟩
    rw [← hf] at hp
    obtain ⟨x, hx, rfl⟩ := List.mem_map.1 hp
    exact h2 x hx
  · refine .inr ⟨j, x.val, h1, ?_, ?_⟩
    · rw [← hf, List.getElem?_map, h2, ← h3]; rfl
    · rw [← Array.getElem?_toList, h2, ← h3]; rfl
theorem MapAt.val (h : MapAt P k w b f) {j : Nat} {u : Value} (h1 : f[j]? = some (key, u)) (h2 : (key, v) ∈ f) : u = v := by
  obtain ⟨es, c, hb, hf, hn, hk, _⟩ := h
  obtain ⟨i, hi, hi2⟩ := List.getElem_of_mem h2
  have hi3 : f[i]? = some (key, v) := by rw [List.getElem?_eq_getElem hi, hi2]
  have a1 : (f.map (·.1))[j]? = some key := by rw [List.getElem?_map, h1]; rfl
  have a2 : (f.map (·.1))[i]? = some key := by rw [List.getElem?_map, hi3]; rfl
  have hj := (List.getElem?_eq_some_iff.1 a1).1
  have hi' := (List.getElem?_eq_some_iff.1 a2).1
  have e : j = i := (List.getElem?_inj hj hn).1 (a1.trans a2.symm)
  subst e
  rw [h1] at hi3
  injection hi3 with hi3
  injection hi3
/-- 'm[key]', and 'v, ok := m[key]'. -/
theorem MapAt.look_in (K : Keyed P k) (h : MapAt P k w b f) (ht : P.underlying t = some (.map k e)) (hkey : keyOf P k key = some kl) (hin : (key, v) ∈ f) (ok : Bool) :
    (Instr.lookup t (.map (some b)) key ok).run P w = .ok (if ok then .tuple #[v, .bool true] else v) w := by
  obtain ⟨es, c, hb, hf, hst, hr⟩ := h.find K hkey
  rcases hr with ⟨_, h2⟩ | ⟨j, u, h1, h2, _⟩
  · exact absurd rfl (h2 _ hin)
  · obtain rfl := h.val h2 hin
    unfold Instr.lookup
    simp only [Sem.run_bind, run_underlying ht, Result.andThen_ok, MapKept.run_getObj_map hb, Sem.run_pure, K.check w es.isEmpty hkey, h1]
theorem MapAt.look_out (K : Keyed P k) (h : MapAt P k w b f) (ht : P.underlying t = some (.map k e)) (hz : (zeroValue e).run P w = .ok z w) (hkey : keyOf P k key = some kl) (hout : ∀ p ∈ f, p.1 ≠ key) (ok : Bool) :
    (Instr.lookup t (.map (some b)) key ok).run P w = .ok (if ok then .tuple #[z, .bool false] else z) w := by
  obtain ⟨es, c, hb, hf, hst, hr⟩ := h.find K hkey
  rcases hr with ⟨h1, _⟩ | ⟨j, u, _, h2, _⟩
  · unfold Instr.lookup
    simp only [Sem.run_bind, run_underlying ht, Result.andThen_ok, MapKept.run_getObj_map hb, Sem.run_pure, K.check w es.isEmpty hkey, h1, hz]
  · exact absurd rfl (hout _ (List.mem_of_getElem? h2))
/-- 'm[key] = v'. -/
theorem MapAt.update (K : Keyed P k) (h : MapAt P k w b f) (ht : P.underlying t = some (.map k e)) (hkey : keyOf P k key = some kl) (v : Value) :
    ∃ w', (Instr.mapUpdate t (.map (some b)) key v).run P w = .ok () w' ∧ Chg (fun q _ => q = b) w w' ∧ w'.heap.size = w.heap.size ∧
      (((∀ p ∈ f, p.1 ≠ key) ∧ MapAt P k w' b (f ++ [(key, v)])) ∨ ∃ j u, f[j]? = some (key, u) ∧ MapAt P k w' b (f.set j (key, v))) := by
  obtain ⟨es, c, hb, hf, hst, hr⟩ := h.find K hkey
  obtain ⟨_, _, _, _, hn, hk, _⟩ := h
  have hlt := (Array.getElem?_eq_some_iff.1 hb).1
  rcases hr with ⟨h1, h2⟩ | ⟨j, u, h1, h2, h3⟩
  · refine ⟨w.putObj b (.map (es.push { key, val := v, born := c }) (c + 1)), ?_, chg_map hb, World.putObj_size .., .inl ⟨h2, _, _, World.putObj_heap_same hlt, by simp [← hf], ?_, fun p hp => ?_, fun x hx => ?_, ?_⟩⟩
    · unfold Instr.mapUpdate
      simp only [Sem.run_bind, run_underlying ht, Result.andThen_ok, MapKept.run_getObj_map hb, K.check w false hkey, h1, MapKept.run_setObj_map _ hb]
      rfl
    · rw [List.map_append, List.nodup_append]
      refine ⟨hn, by simp, fun x hx y hy e => ?_⟩
      simp at hy
      obtain ⟨p, hp, rfl⟩ := List.mem_map.1 hx
      exact h2 p hp (e.trans hy)
    · rcases List.mem_append.1 hp with h | h
      · exact hk p h
      · simp at h
        rw [h]; exact ⟨kl, hkey⟩
    · rw [Array.toList_push] at hx
      rcases List.mem_append.1 hx with h | h
      · exact Nat.lt_succ_of_lt (hst.1 x h)
      · rw [List.mem_singleton.1 h]; exact Nat.lt_succ_self _
    · rw [Array.toList_push, List.map_append, List.nodup_append]
      refine ⟨hst.2, by simp, fun x hx y hy e => ?_⟩
      obtain ⟨z, hz, rfl⟩ := List.mem_map.1 hx
      simp at hy
      have := hst.1 z hz
      omega
  · refine ⟨w.putObj b (.map (es.modify j fun e => { e with key, val := v }) c), ?_, chg_map hb, World.putObj_size .., .inr ⟨j, u, h2, _, _, World.putObj_heap_same hlt, ?_, ?_, fun p hp => ?_, (modify_stamp hst j _ _)⟩⟩
    · unfold Instr.mapUpdate
      simp only [Sem.run_bind, run_underlying ht, Result.andThen_ok, MapKept.run_getObj_map hb, K.check w false hkey, h1, h3, Option.getD_some, K.stays w hkey, MapKept.run_setObj_map _ hb]
      rfl
    · apply List.ext_getElem?
      intro i
      rw [List.getElem?_map, Array.getElem?_toList, Array.getElem?_modify, List.getElem?_set, ← hf, List.getElem?_map, Array.getElem?_toList, List.length_map, Array.length_toList]
      by_cases e : j = i
      · subst e
        have hj : j < es.size := by have := (List.getElem?_eq_some_iff.1 h2).1; rw [← hf] at this; simpa using this
        simp [hj]
      · simp [e]
    · have hkeys : (f.set j (key, v)).map (·.1) = f.map (·.1) := by
        rw [List.map_set]
        apply List.ext_getElem?
        intro i
        rw [List.getElem?_set]
        split
        · rename_i e
          subst e
          rw [List.getElem?_map, h2]
          have hj := (List.getElem?_eq_some_iff.1 h2).1
          simp [hj]
        · rfl
      rw [hkeys]; exact hn
    · rcases List.mem_or_eq_of_mem_set hp with h | h
      · exact hk p h
      · rw [h]; exact ⟨kl, hkey⟩
theorem MapAt.len (h : MapAt P k w b f) (ht : P.underlying t = some (.map k e)) (ty : TypeId) : (Builtin.len_ #[t] ty #[.map (some b)]).run P w = .ok (.int .i64 f.length) w := by
  obtain ⟨es, c, hb, hf, _⟩ := h
  have hl : es.size = f.length := by rw [← hf]; simp
  unfold Builtin.len_
  simp [Sem.run_bind, run_underlying ht, MapKept.run_getObj_map hb, hl, goInt]

/-- 'delete(m, key)'. -/
theorem MapAt.delete (K : Keyed P k) (h : MapAt P k w b f) (ht : P.underlying t = some (.map k e)) (hkey : keyOf P k key = some kl) (ts : Array TypeId) (hts : ts[0]? = some t) (ty : TypeId) :
    ∃ w', (Builtin.delete_ ts ty #[.map (some b), key]).run P w = .ok (.tuple #[]) w' ∧ Chg (fun q _ => q = b) w w' ∧ w'.heap.size = w.heap.size ∧
      (((∀ p ∈ f, p.1 ≠ key) ∧ MapAt P k w' b f) ∨ ∃ j u, f[j]? = some (key, u) ∧ MapAt P k w' b (f.eraseIdx j)) := by
  obtain ⟨es, c, hb, hf, hst, hr⟩ := h.find K hkey
  obtain ⟨_, _, _, _, hn, hk, _⟩ := h
  have hlt := (Array.getElem?_eq_some_iff.1 hb).1
  rcases hr with ⟨h1, h2⟩ | ⟨j, u, h1, h2, h3⟩
  · refine ⟨w.putObj b (.map es c), ?_, chg_map hb, World.putObj_size .., .inl ⟨h2, _, _, World.putObj_heap_same hlt, hf, hn, hk, hst⟩⟩
    unfold Builtin.delete_
    simp only [hts, List.getElem?_toArray, List.getElem?_cons_zero, List.getElem?_cons_succ, Sem.run_bind, run_underlying ht, Result.andThen_ok, MapKept.run_getObj_map hb, K.check w es.isEmpty hkey, h1, MapKept.run_setObj_map _ hb, Sem.run_pure]
    rfl
  · refine ⟨w.putObj b (.map (es.eraseIdxIfInBounds j) c), ?_, chg_map hb, World.putObj_size .., .inr ⟨j, u, h2, _, _, World.putObj_heap_same hlt, ?_, ?_, fun p hp => hk p (List.mem_of_mem_eraseIdx hp), erase_stamp hst j⟩⟩
    · unfold Builtin.delete_
      simp only [hts, List.getElem?_toArray, List.getElem?_cons_zero, List.getElem?_cons_succ, Sem.run_bind, run_underlying ht, Result.andThen_ok, MapKept.run_getObj_map hb, K.check w es.isEmpty hkey, h1, MapKept.run_setObj_map _ hb, Sem.run_pure]
      rfl
    · rw [← hf, Array.toList_eraseIdxIfInBounds, erase_map]
    · rw [erase_map]
      exact hn.sublist (List.eraseIdx_sublist _ _)
/-- 'clear(m)'. -/
theorem MapAt.clear (h : MapAt P k w b f) (ht : P.underlying t = some (.map k e)) (ts : Array TypeId) (hts : ts[0]? = some t) (ty : TypeId) :
    ∃ w', (Builtin.clear_ ts ty #[.map (some b)]).run P w = .ok (.tuple #[]) w' ∧ Chg (fun q _ => q = b) w w' ∧ w'.heap.size = w.heap.size ∧ MapAt P k w' b [] := by
  obtain ⟨es, c, hb, hf, hn, hk, _⟩ := h
  have hlt := (Array.getElem?_eq_some_iff.1 hb).1
  refine ⟨w.putObj b (.map #[] c), ?_, chg_map hb, World.putObj_size .., _, _, World.putObj_heap_same hlt, rfl, List.nodup_nil, fun p hp => (by cases hp), fun x hx => (by cases hx), List.nodup_nil⟩
  unfold Builtin.clear_
  simp only [hts, List.getElem?_toArray, List.getElem?_cons_zero, Sem.run_bind, run_underlying ht, Result.andThen_ok, MapKept.run_getObj_map hb, MapKept.run_setObj_map _ hb, Sem.run_pure]
  rfl
end
section
variable {P : Program} {k e t : TypeId} {w w' : World} {b : Nat} {f : List (Value × Value)} {key v z : Value} {kl : Lit}
theorem MapAt.grown {row : Option Nat} (h : MapAt P k w b f) (hb : w.grownBy w' row) (hn : some b ≠ row) : MapAt P k w' b f := h.same (hb.block b h.lt hn)
end

/-- A set of keys, as a map whose elements are all u. -/
def SetAt (P : Program) (k : TypeId) (u : Value) (w : World) (b : Nat) (ks : List Value) : Prop := MapAt P k w b (ks.map fun x => (x, u))
section
variable {P : Program} {k e t : TypeId} {w w' : World} {b : Nat} {ks : List Value} {key u : Value} {kl : Lit}
theorem SetAt.nodup (h : SetAt P k u w b ks) : ks.Nodup := by
  obtain ⟨_, _, _, _, hn, _⟩ := h
  rw [List.map_map] at hn
  have e : ((fun x : Value × Value => x.1) ∘ fun x : Value => (x, u)) = id := rfl
  rwa [e, List.map_id] at hn
theorem setAt_new (P : Program) (k : TypeId) (u : Value) (w : World) : SetAt P k u (w.alloc (.map #[] 0)) w.heap.size [] := mapAt_new P k w
theorem SetAt.add (K : Keyed P k) (h : SetAt P k u w b ks) (ht : P.underlying t = some (.map k e)) (hkey : keyOf P k key = some kl) :
    ∃ w', (Instr.mapUpdate t (.map (some b)) key u).run P w = .ok () w' ∧ Chg (fun q _ => q = b) w w' ∧ w'.heap.size = w.heap.size ∧ ((key ∉ ks ∧ SetAt P k u w' b (ks ++ [key])) ∨ (key ∈ ks ∧ SetAt P k u w' b ks)) := by
  obtain ⟨w', hr, hc, hs, h1 | ⟨j, v, h1, h2⟩⟩ := MapAt.update K h ht hkey u
  · refine ⟨w', hr, hc, hs, .inl ⟨fun hm => h1.1 _ (List.mem_map.2 ⟨key, hm, rfl⟩) rfl, ?_⟩⟩
    have := h1.2
    unfold SetAt
    rwa [List.map_append]
  · have hkj : ks[j]? = some key := by
      rw [List.getElem?_map] at h1
      obtain ⟨y, hy, hy2⟩ := Option.map_eq_some_iff.1 h1
      injection hy2 with hy2 _
      rw [hy, hy2]
    refine ⟨w', hr, hc, hs, .inr ⟨List.mem_of_getElem? hkj, ?_⟩⟩
    have e : (ks.map fun x => (x, u)).set j (key, u) = ks.map fun x => (x, u) := by
      rw [← List.map_set (f := fun x => (x, u))]
      congr 1
      apply List.ext_getElem?
      intro i
      rw [List.getElem?_set]
      split
      · rename_i e
        subst e
        have hj := (List.getElem?_eq_some_iff.1 hkj).1
        rw [hkj, if_pos hj]
      · rfl
    rw [e] at h2
    exact h2
theorem SetAt.len (h : SetAt P k u w b ks) (ht : P.underlying t = some (.map k e)) (ty : TypeId) : (Builtin.len_ #[t] ty #[.map (some b)]).run P w = .ok (.int .i64 ks.length) w := by
  have := MapAt.len h ht ty
  simpa using this
theorem SetAt.clear (h : SetAt P k u w b ks) (ht : P.underlying t = some (.map k e)) (ts : Array TypeId) (hts : ts[0]? = some t) (ty : TypeId) :
    ∃ w', (Builtin.clear_ ts ty #[.map (some b)]).run P w = .ok (.tuple #[]) w' ∧ Chg (fun q _ => q = b) w w' ∧ w'.heap.size = w.heap.size ∧ SetAt P k u w' b [] := MapAt.clear h ht ts hts ty
end
end Go.Proofs.Ytaamhdgngnpmoaa
