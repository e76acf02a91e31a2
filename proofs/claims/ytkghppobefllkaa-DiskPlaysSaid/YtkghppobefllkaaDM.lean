/-
  THE WALKS of Flush, Crash, Dirty.
-/
import Derived.Test.YtkghppobefllkaaDL
namespace Go.Proofs.Ytkghppobefllkaa
open Go.RowKit Dsk

theorem Chg.toBelow {S : Nat → Nat → Prop} {w w' : World} (h : Chg S w w') (hS : ∀ b o, b < w.heap.size → ¬ S b o) : Below w.heap.size w w' :=
  ⟨h.os, h.tape, h.output, h.size, fun k hk => h.block k hk fun o => hS k o hk⟩

def dirtyAt (L : List Blk) (i : Nat) : Bool := match L[i]? with
  | some b => b.dirty
  | none => false
theorem dirtyAt_some {L : List Blk} {i : Nat} {b : Blk} (h : L[i]? = some b) : dirtyAt L i = b.dirty := by rw [dirtyAt, h]
theorem enter31 (args : Array Value) (W : World) : (callFunc 31 args).run Try.prog W = .ok (.enter 31 args) W := Go.Proofs.enters_of Try.func31 (by kernel_rfl) rfl args W
theorem enter33 (args : Array Value) (W : World) : (callFunc 33 args).run Try.prog W = .ok (.enter 33 args) W := Go.Proofs.enters_of Try.func33 (by kernel_rfl) rfl args W
theorem enter37 (args : Array Value) (W : World) : (callFunc 37 args).run Try.prog W = .ok (.enter 37 args) W := Go.Proofs.enters_of Try.func37 (by kernel_rfl) rfl args W

section
variable {w : World} {F : Nat → Prop} {D g : Nat} {ps : Nat → Nat} {L : List Blk}
theorem DiskW.eachPtr (h : DiskW w F D g ps L) (M : List Blk) (i : Nat) (hi : i < L.length) (hM : L[i]? = M[i]?) : w.cell? ⟨g, i * 145 + 72, none⟩ = some (.pointer (if dirtyAt M i then some ⟨ps i, 0, none⟩ else none)) := by
  obtain ⟨b, hb⟩ : ∃ b, L[i]? = some b := ⟨_, List.getElem?_eq_getElem hi⟩
  have := (h.ptr hb).cell (j := 0) rfl
  rw [Nat.add_zero] at this
  rw [dirtyAt_some (hM ▸ hb)]
  exact this
end

set_option maxRecDepth 100000 in
set_option maxHeartbeats 1000000 in
theorem DFlush_any {w : World} {F : Nat → Prop} {D : Nat} {L : List Blk} (h : DiskAt w F D L) :
    Calls Try.prog 11 #[.pointer (some ⟨D, 0, none⟩)] w fun e w' => e = .returned (.tuple #[]) ∧ After w F w' D (crash (fun _ => true) L) := by
  obtain ⟨g, ps, hD⟩ := h
  have HE : Hid (Calls Try.prog 30 #[.pointer (some ⟨D, 0, none⟩), .func (.func 31) #[] #[]] w fun e w' => e = .returned (.tuple #[]) ∧ After w F w' D (crash (fun _ => true) L)) := by
    refine (Deach_any 31 #[] D g L.length hD.few (dirtyAt L) ps (fun i W => DiskW W F D g ps (crashTo (fun _ => true) L i) ∧ Chg (fun k _ => F k) w W) w enter31 (DBlocks_any hD) ?_ ?_ ?_ ?_ ?_).mono ?_
    · rintro i W hi ⟨hW, _⟩
      exact Dat_in hW i (by rw [crashTo_length]; exact hi)
    · rintro i W hi ⟨hW, _⟩
      exact hW.eachPtr L i (by rw [crashTo_length]; exact hi) (crashTo_at _ _ _)
    · rintro i W hi ⟨hW, hX⟩ hd
      obtain ⟨b, hb⟩ : ∃ b, L[i]? = some b := ⟨_, List.getElem?_eq_getElem hi⟩
      rw [dirtyAt_some hb] at hd
      have hb' : (crashTo (fun _ => true) L i)[i]? = some b := by rw [crashTo_at]; exact hb
      have hok := hW.ok i b hb'
      have hp := hW.ptr hb'
      rw [hd, if_pos rfl] at hp
      refine (DFlush1_any g (i * 145) (ps i) (b.cur.map V8) (b.dur.map V8) W hp (hW.wr i b hb' hd) (hW.dur hb') (cells_cur hok) (V8_length _ 72 hok.dur) (one8 _)).mono ?_
      rintro e w' ⟨rfl, h1, h2, h3⟩
      refine ⟨rfl, ?_, hX.trans h3 fun c o _ hs => by rw [hs.1]; exact hW.fg⟩
      rw [crashTo_succ _ L hb]
      exact hW.settled h3 hb' true (fun c o _ _ hs => hs) h1 h2
    · rintro i W hi ⟨hW, hX⟩ hd
      obtain ⟨b, hb⟩ : ∃ b, L[i]? = some b := ⟨_, List.getElem?_eq_getElem hi⟩
      rw [dirtyAt_some hb] at hd
      rw [crashTo_skip _ L hb hd]
      exact ⟨hW, hX⟩
    · rw [crashTo_zero]
      exact ⟨hD, Chg.refl _ _⟩
    · rintro e w' ⟨rfl, hW, hX⟩
      exact ⟨rfl, F, ⟨g, ps, hW⟩, fun k hk => .inl hk, hX⟩
  generalize crash (fun _ => true) L = L' at *
  clear hD
  go_enter Try.func11, Try.ntmps11
  go_wp2_with fail
  refine HE.out.mono ?_
  rintro e w1 ⟨rfl, h1⟩
  have H1 := Lib.hid h1
  clear h1 HE
  go_wp2
  go_end0
  exact ⟨rfl, H1.out⟩

set_option maxRecDepth 100000 in
set_option maxHeartbeats 1000000 in
theorem DCrash_any {w : World} {F : Nat → Prop} {D : Nat} {L : List Blk} (h : DiskAt w F D L) (A : Option Addr) (nk cap : Nat) (bs : List Bool) (hnk : bs.length = nk) (hk : From w (.slice A nk cap) (bs.map Value.bool))
    (hkF : ∀ b o, A = some ⟨b, o, none⟩ → 0 < nk → ¬ F b) :
    Calls Try.prog 13 #[.pointer (some ⟨D, 0, none⟩), .slice A nk cap] w fun e w' => e = .returned (.tuple #[]) ∧ After w F w' D (crash (fun n => bs.getD n false) L) := by
  obtain ⟨g, ps, hD⟩ := h
  obtain ⟨w2, hw2⟩ : ∃ w2, w2 = (w.alloc (.cells #[.slice A nk cap] 31)).alloc (.cells #[.int .i64 0] 3) := ⟨_, rfl⟩
  have hB2 : Below w.heap.size w w2 := by
    rw [hw2]
    exact ((Below.refl _ _).alloc (Nat.le_refl _) _).alloc (by simp) _
  have hs2 : w2.heap.size = w.heap.size + 2 := by rw [hw2]; simp
  have hkc : Here w2 w.heap.size 0 [.slice A nk cap] := by
    rw [hw2]
    exact (Row.new w 31 [.slice A nk cap]).here.alloc _
  have hpc : Here w2 (w.heap.size + 1) 0 [.int .i64 0] := by
    rw [hw2]
    exact (Row.newAt (w := w.alloc (.cells #[.slice A nk cap] 31)) 3 [.int .i64 0] (by simp)).here (g := w.heap.size + 1)
  have hD2 : DiskW w2 F D g ps L := hD.stay (Chg.below hB2 fun _ _ => False) fun _ _ _ x => x
  have hk2 : From w2 (.slice A nk cap) (bs.map Value.bool) := hk.below hB2
  have hFlt := hD.lt
  have HE : Hid (Calls Try.prog 30 #[.pointer (some ⟨D, 0, none⟩), .func (.func 33) #[] #[.pointer (some ⟨w.heap.size + 1, 0, none⟩), .pointer (some ⟨w.heap.size, 0, none⟩)]] w2 fun e w' => e = .returned (.tuple #[]) ∧ After w F w' D (crash (fun n => bs.getD n false) L)) := by
    refine (Deach_any 33 #[.pointer (some ⟨w.heap.size + 1, 0, none⟩), .pointer (some ⟨w.heap.size, 0, none⟩)] D g L.length hD.few (dirtyAt L) ps
      (fun i W => DiskW W F D g ps (crashTo (fun n => bs.getD n false) L i) ∧ Here W (w.heap.size + 1) 0 [.int .i64 (cnt (L.take i) : Nat)] ∧ Chg (fun k _ => F k ∨ k = w.heap.size + 1) w2 W) w2 enter33 (DBlocks_any hD2) ?_ ?_ ?_ ?_ ?_).mono ?_
    · rintro i W hi ⟨hW, _⟩
      exact Dat_in hW i (by rw [crashTo_length]; exact hi)
    · rintro i W hi ⟨hW, _⟩
      exact hW.eachPtr L i (by rw [crashTo_length]; exact hi) (crashTo_at _ _ _)
    · rintro i W hi ⟨hW, hP, hX⟩ hd
      obtain ⟨b, hb⟩ : ∃ b, L[i]? = some b := ⟨_, List.getElem?_eq_getElem hi⟩
      rw [dirtyAt_some hb] at hd
      have hb' : (crashTo (fun n => bs.getD n false) L i)[i]? = some b := by rw [crashTo_at]; exact hb
      have hok := hW.ok i b hb'
      have hp := hW.ptr hb'
      rw [hd, if_pos rfl] at hp
      have hkW : From W (.slice A nk cap) (bs.map Value.bool) := by
        rcases hk2 with h | ⟨b1, o1, c1, e, hl, hs⟩
        · exact .inl h
        · refine .inr ⟨b1, o1, c1, e, Nat.lt_of_lt_of_le hl hX.size, fun j u hu => ?_⟩
          injection e with e1 _ _
          rw [hX.cell b1 _ hl (fun hs' => ?_)]
          · exact hs j u hu
          · rcases hs' with hf | rfl
            · exact hkF b1 o1 e1 (by have hj := (List.getElem?_eq_some_iff.1 hu).1; rw [List.length_map, hnk] at hj; omega) hf
            · have h1 := hs j u hu
              have h2 := hpc.2 0 (by simp)
              -- the slice lay there ahead of the call
              rcases hk with ⟨A', e', _⟩ | ⟨b2, o2, c2, e', hl2, _⟩
              · injection e' with _ e2 _
                rw [← hnk] at e2
                have : bs = [] := List.eq_nil_of_length_eq_zero e2
                rw [this] at hu; simp at hu
              · injection e' with e3 _ _
                rw [e1] at e3
                injection e3 with e3
                injection e3 with e3 _
                omega
      refine (DCrash1_any g (i * 145) (ps i) (w.heap.size + 1) w.heap.size (cnt (L.take i)) A nk cap bs hnk (Nat.le_trans (cnt_take_le L i) hD.few) (b.cur.map V8) (b.dur.map V8) W hp (hW.wr i b hb' hd) (hW.dur hb') (cells_cur hok) (V8_length _ 72 hok.dur) (one8 _) hP
        (hkc.chg hX fun j _ hs => by
          rcases hs with hs | hs
          · have := hFlt _ hs; omega
          · omega) hkW (fun e => by have := hFlt _ hW.fg; omega)).mono ?_
      rintro e w' ⟨rfl, h1, h2, h3, h4⟩
      refine ⟨rfl, ?_, ?_, hX.trans h4 fun c o _ hs => ?_⟩
      · rw [crashTo_succ _ L hb]
        exact hW.settled h4 hb' _ (fun c o _ hf hs => by
          rcases hs with hs | hs
          · exact hs
          · have := hFlt _ hf; omega) h1 h2
      · rw [cnt_snoc hb, hd, if_pos rfl]; exact h3
      · rcases hs with hs | hs
        · exact .inl (by rw [hs.1]; exact hW.fg)
        · exact .inr hs
    · rintro i W hi ⟨hW, hP, hX⟩ hd
      obtain ⟨b, hb⟩ : ∃ b, L[i]? = some b := ⟨_, List.getElem?_eq_getElem hi⟩
      rw [dirtyAt_some hb] at hd
      rw [crashTo_skip _ L hb hd]
      refine ⟨hW, ?_, hX⟩
      rw [cnt_snoc hb, hd]; exact hP
    · rw [crashTo_zero]
      exact ⟨hD2, hpc, Chg.refl _ _⟩
    · rintro e w' ⟨rfl, hW, _, hX⟩
      refine ⟨rfl, F, ⟨g, ps, hW⟩, fun k hk => .inl hk, ((Chg.below hB2 fun k _ => F k).trans hX fun k o hl hs => ?_)⟩
      rcases hs with hs | hs
      · exact hs
      · omega
  have HW2 := Lib.hid hw2
  generalize crash (fun n => bs.getD n false) L = L' at *
  clear hD hw2 hB2 hs2 hkc hpc hD2 hk2 hk hkF hFlt hnk
  go_enter Try.func13, Try.ntmps13
  go_wp2_with fail
  rw [← HW2.out]
  refine HE.out.mono ?_
  rintro e w1 ⟨rfl, h1⟩
  have H1 := Lib.hid h1
  clear h1 HE HW2
  go_wp2
  go_end0
  exact ⟨rfl, H1.out⟩

set_option maxRecDepth 100000 in
set_option maxHeartbeats 1000000 in
theorem DDirty_any {w : World} {F : Nat → Prop} {D : Nat} {L : List Blk} (h : DiskAt w F D L) :
    Calls Try.prog 23 #[.pointer (some ⟨D, 0, none⟩)] w fun e w' => e = .returned (.int .i64 (cnt L)) ∧ Below w.heap.size w w' := by
  obtain ⟨g, ps, hD⟩ := h
  obtain ⟨w2, hw2⟩ : ∃ w2, w2 = w.alloc (.cells #[.int .i64 0] 3) := ⟨_, rfl⟩
  have hB2 : Below w.heap.size w w2 := by
    rw [hw2]
    exact (Below.refl _ _).alloc (Nat.le_refl _) _
  have hmc : Here w2 w.heap.size 0 [.int .i64 0] := by
    rw [hw2]
    exact (Row.new w 3 [.int .i64 0]).here
  have hD2 : DiskW w2 F D g ps L := hD.stay (Chg.below hB2 fun _ _ => False) fun _ _ _ x => x
  have hFlt := hD.lt
  have HE : Hid (Calls Try.prog 30 #[.pointer (some ⟨D, 0, none⟩), .func (.func 37) #[] #[.pointer (some ⟨w.heap.size, 0, none⟩)]] w2 fun e w' => e = .returned (.tuple #[]) ∧ Here w' w.heap.size 0 [.int .i64 (cnt L : Nat)] ∧ Below w.heap.size w w') := by
    refine (Deach_any 37 #[.pointer (some ⟨w.heap.size, 0, none⟩)] D g L.length hD.few (dirtyAt L) ps
      (fun i W => Here W w.heap.size 0 [.int .i64 (cnt (L.take i) : Nat)] ∧ Chg (fun k _ => k = w.heap.size) w2 W) w2 enter37 (DBlocks_any hD2) ?_ ?_ ?_ ?_ ?_).mono ?_
    · rintro i W hi ⟨_, hX⟩
      exact Dat_in (hD2.stay hX fun k o hf hs => by have := hFlt k hf; omega) i hi
    · rintro i W hi ⟨_, hX⟩
      exact (hD2.stay hX fun k o hf hs => by have := hFlt k hf; omega).eachPtr L i hi rfl
    · rintro i W hi ⟨hP, hX⟩ hd
      obtain ⟨b, hb⟩ : ∃ b, L[i]? = some b := ⟨_, List.getElem?_eq_getElem hi⟩
      rw [dirtyAt_some hb] at hd
      refine (DDirty1_any _ w.heap.size (cnt (L.take i)) (Nat.le_trans (cnt_take_le L i) hD.few) W hP).mono ?_
      rintro e w' ⟨rfl, h1, h2⟩
      refine ⟨rfl, ?_, hX.then h2⟩
      rw [cnt_snoc hb, hd, if_pos rfl]; exact h1
    · rintro i W hi ⟨hP, hX⟩ hd
      obtain ⟨b, hb⟩ : ∃ b, L[i]? = some b := ⟨_, List.getElem?_eq_getElem hi⟩
      rw [dirtyAt_some hb] at hd
      refine ⟨?_, hX⟩
      rw [cnt_snoc hb, hd]; exact hP
    · exact ⟨hmc, Chg.refl _ _⟩
    · rintro e w' ⟨rfl, hP, hX⟩
      rw [List.take_length] at hP
      exact ⟨rfl, hP, ((Chg.below hB2 fun k _ => k = w.heap.size).then hX).toBelow fun k o hl hs => by omega⟩
  have HW2 := Lib.hid hw2
  generalize cnt L = n at *
  clear hD hw2 hB2 hmc hD2 hFlt
  go_enter Try.func23, Try.ntmps23
  go_wp2_with fail
  rw [← HW2.out]
  refine HE.out.mono ?_
  rintro e w1 ⟨rfl, h1, h2⟩
  have hc := h1.head (j := 0) rfl
  have H2 := Lib.hid h2
  clear h1 h2 HE HW2
  go_wp2
  go_ret
  exact ⟨rfl, H2.out⟩
end Go.Proofs.Ytkghppobefllkaa
