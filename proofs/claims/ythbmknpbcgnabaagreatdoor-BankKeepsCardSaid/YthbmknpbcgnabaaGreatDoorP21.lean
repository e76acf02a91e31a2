/-
  OF THE WALK: DM, SG.
-/
import Derived.Test.YthbmknpbcgnabaaGreatDoorP19
import Derived.Test.YthbmknpbcgnabaaGreatDoorP20
namespace Go.Proofs.YthbmknpbcgnabaaGreatDoor
open Go.RowKit Dsk
def dirtyAt (L : List Blk) (i : Nat) : Bool := match L[i]? with
  | some b => b.dirty
  | none => false
theorem dirtyAt_some {L : List Blk} {i : Nat} {b : Blk} (h : L[i]? = some b) : dirtyAt L i = b.dirty := by rw [dirtyAt, h]
theorem enter31 (args : Array Value) (W : World) : (callFunc 142 args).run Tryz.prog W = .ok (.enter 142 args) W := Go.Proofs.enters_of Tryz.func142 (by kernel_rfl) rfl args W
theorem enter33 (args : Array Value) (W : World) : (callFunc 66 args).run Tryz.prog W = .ok (.enter 66 args) W := Go.Proofs.enters_of Tryz.func66 (by kernel_rfl) rfl args W
section
variable {w : World} {F : Nat → Prop} {D g : Nat} {ps : Nat → Nat} {L : List Blk}
theorem DiskW.eachPtr (h : DiskW w F D g ps L) (M : List Blk) (i : Nat) (hi : i < L.length) (hM : L[i]? = M[i]?) : w.cell? ⟨g, i * 145 + 72, none⟩ = some (.pointer (if dirtyAt M i then some ⟨ps i, 0, none⟩ else none)) := by
  obtain ⟨b, hb⟩ : ∃ b, L[i]? = some b := ⟨_, List.getElem?_eq_getElem hi⟩
  have := (h.ptr hb).cell (j := 0) rfl
  rw [Nat.add_zero] at this
  rw [dirtyAt_some (hM ▸ hb)]
  exact this
end
set_option maxRecDepth 100000 in
set_option maxHeartbeats 1000000 in
theorem DFlush_any {w : World} {F : Nat → Prop} {D : Nat} {L : List Blk} (h : DiskAt w F D L) :
    Calls Tryz.prog 123 #[.pointer (some ⟨D, 0, none⟩)] w fun e w' => e = .returned (.tuple #[]) ∧ After w F w' D (crash (fun _ => true) L) := by
  obtain ⟨g, ps, hD⟩ := h
  have HE : Hid (Calls Tryz.prog 65 #[.pointer (some ⟨D, 0, none⟩), .func (.func 142) #[] #[]] w fun e w' => e = .returned (.tuple #[]) ∧ After w F w' D (crash (fun _ => true) L)) := by
    refine (Deach_any 142 #[] D g L.length hD.few (dirtyAt L) ps (fun i W => DiskW W F D g ps (crashTo (fun _ => true) L i) ∧ Chg (fun k _ => F k) w W) w enter31 (DBlocks_any hD) ?_ ?_ ?_ ?_ ?_).mono ?_
    · rintro i W hi ⟨hW, _⟩
      exact Dat_in hW i (by rw [crashTo_length]; exact hi)
    · rintro i W hi ⟨hW, _⟩
      exact hW.eachPtr L i (by rw [crashTo_length]; exact hi) (crashTo_at _ _ _)
    · rintro i W hi ⟨hW, hX⟩ hd
      obtain ⟨b, hb⟩ : ∃ b, L[i]? = some b := ⟨_, List.getElem?_eq_getElem hi⟩
      rw [dirtyAt_some hb] at hd
      have hb' : (crashTo (fun _ => true) L i)[i]? = some b := by rw [crashTo_at]; exact hb
      have hok := hW.ok i b hb'
      have hp := hW.ptr hb'
      rw [hd, if_pos rfl] at hp
      refine (DFlush1_any g (i * 145) (ps i) (b.cur.map V8) (b.dur.map V8) W hp (hW.wr i b hb' hd) (hW.dur hb') (cells_cur hok) (V8_length _ 72 hok.dur) (one8 _)).mono ?_
      rintro e w' ⟨rfl, h1, h2, h3⟩
      refine ⟨rfl, ?_, hX.trans h3 fun c o _ hs => by rw [hs.1]; exact hW.fg⟩
      rw [crashTo_succ _ L hb]
      exact hW.settled h3 hb' true (fun c o _ _ hs => hs) h1 h2
    · rintro i W hi ⟨hW, hX⟩ hd
      obtain ⟨b, hb⟩ : ∃ b, L[i]? = some b := ⟨_, List.getElem?_eq_getElem hi⟩
      rw [dirtyAt_some hb] at hd
      rw [crashTo_skip _ L hb hd]
      exact ⟨hW, hX⟩
    · rw [crashTo_zero]
      exact ⟨hD, Chg.refl _ _⟩
    · rintro e w' ⟨rfl, hW, hX⟩
      exact ⟨rfl, F, ⟨g, ps, hW⟩, fun k hk => .inl hk, hX⟩
  generalize crash (fun _ => true) L = L' at *
  clear hD
  go_enter Tryz.func123, Tryz.ntmps123
  go_wp2_with fail
  refine HE.out.mono ?_
  rintro e w1 ⟨rfl, h1⟩
  have H1 := Lib.hid h1
  clear h1 HE
  go_wp2
  go_end0
  exact ⟨rfl, H1.out⟩
set_option maxRecDepth 100000 in
set_option maxHeartbeats 1000000 in
theorem DCrash_any {w : World} {F : Nat → Prop} {D : Nat} {L : List Blk} (h : DiskAt w F D L) (A : Option Addr) (nk cap : Nat) (bs : List Bool) (hnk : bs.length = nk) (hk : From w (.slice A nk cap) (bs.map Value.bool))
    (hkF : ∀ b o, A = some ⟨b, o, none⟩ → 0 < nk → ¬ F b) :
    Calls Tryz.prog 30 #[.pointer (some ⟨D, 0, none⟩), .slice A nk cap] w fun e w' => e = .returned (.tuple #[]) ∧ After w F w' D (crash (fun n => bs.getD n false) L) := by
  obtain ⟨g, ps, hD⟩ := h
  obtain ⟨w2, hw2⟩ : ∃ w2, w2 = (w.alloc (.cells #[.slice A nk cap] 49)).alloc (.cells #[.int .i64 0] 3) := ⟨_, rfl⟩
  have hB2 : Below w.heap.size w w2 := by
    rw [hw2]
    exact ((Below.refl _ _).alloc (Nat.le_refl _) _).alloc (by simp) _
  have hs2 : w2.heap.size = w.heap.size + 2 := by rw [hw2]; simp
  have hkc : Here w2 w.heap.size 0 [.slice A nk cap] := by
    rw [hw2]
    exact (Row.new w 49 [.slice A nk cap]).here.alloc _
  have hpc : Here w2 (w.heap.size + 1) 0 [.int .i64 0] := by
    rw [hw2]
    exact (Row.newAt (w := w.alloc (.cells #[.slice A nk cap] 49)) 3 [.int .i64 0] (by simp)).here (g := w.heap.size + 1)
  have hD2 : DiskW w2 F D g ps L := hD.stay (Chg.below hB2 fun _ _ => False) fun _ _ _ x => x
  have hk2 : From w2 (.slice A nk cap) (bs.map Value.bool) := hk.below hB2
  have hFlt := hD.lt
  have HE : Hid (Calls Tryz.prog 65 #[.pointer (some ⟨D, 0, none⟩), .func (.func 66) #[] #[.pointer (some ⟨w.heap.size + 1, 0, none⟩), .pointer (some ⟨w.heap.size, 0, none⟩)]] w2 fun e w' => e = .returned (.tuple #[]) ∧ After w F w' D (crash (fun n => bs.getD n false) L)) := by
    refine (Deach_any 66 #[.pointer (some ⟨w.heap.size + 1, 0, none⟩), .pointer (some ⟨w.heap.size, 0, none⟩)] D g L.length hD.few (dirtyAt L) ps
      (fun i W => DiskW W F D g ps (crashTo (fun n => bs.getD n false) L i) ∧ Here W (w.heap.size + 1) 0 [.int .i64 (cnt (L.take i) : Nat)] ∧ Chg (fun k _ => F k ∨ k = w.heap.size + 1) w2 W) w2 enter33 (DBlocks_any hD2) ?_ ?_ ?_ ?_ ?_).mono ?_
    · rintro i W hi ⟨hW, _⟩
      exact Dat_in hW i (by rw [crashTo_length]; exact hi)
    · rintro i W hi ⟨hW, _⟩
      exact hW.eachPtr L i (by rw [crashTo_length]; exact hi) (crashTo_at _ _ _)
    · rintro i W hi ⟨hW, hP, hX⟩ hd
      obtain ⟨b, hb⟩ : ∃ b, L[i]? = some b := ⟨_, List.getElem?_eq_getElem hi⟩
      rw [dirtyAt_some hb] at hd
      have hb' : (crashTo (fun n => bs.getD n false) L i)[i]? = some b := by rw [crashTo_at]; exact hb
      have hok := hW.ok i b hb'
      have hp := hW.ptr hb'
      rw [hd, if_pos rfl] at hp
      have hkW : From W (.slice A nk cap) (bs.map Value.bool) := by
        rcases hk2 with h | ⟨b1, o1, c1, e, hl, hs⟩
        · exact .inl h
        · refine .inr ⟨b1, o1, c1, e, Nat.lt_of_lt_of_le hl hX.size, fun j u hu => ?_⟩
          injection e with e1 _ _
          rw [hX.cell b1 _ hl (fun hs' => ?_)]
          · exact hs j u hu
          · rcases hs' with hf | rfl
            · exact hkF b1 o1 e1 (by have hj := (List.getElem?_eq_some_iff.1 hu).1; rw [List.length_map, hnk] at hj; omega) hf
            · have h1 := hs j u hu
              have h2 := hpc.2 0 (by simp)
              -- the slice lay there ahead of the call
              rcases hk with ⟨A', e', _⟩ | ⟨b2, o2, c2, e', hl2, _⟩
              · injection e' with _ e2 _
                rw [← hnk] at e2
                have : bs = [] := List.eq_nil_of_length_eq_zero e2
                rw [this] at hu; simp at hu
              · injection e' with e3 _ _
                rw [e1] at e3
                injection e3 with e3
                injection e3 with e3 _
                omega
      refine (DCrash1_any g (i * 145) (ps i) (w.heap.size + 1) w.heap.size (cnt (L.take i)) A nk cap bs hnk (Nat.le_trans (cnt_take_le L i) hD.few) (b.cur.map V8) (b.dur.map V8) W hp (hW.wr i b hb' hd) (hW.dur hb') (cells_cur hok) (V8_length _ 72 hok.dur) (one8 _) hP
        (hkc.chg hX fun j _ hs => by
          rcases hs with hs | hs
          · have := hFlt _ hs; omega
          · omega) hkW (fun e => by have := hFlt _ hW.fg; omega)).mono ?_
      rintro e w' ⟨rfl, h1, h2, h3, h4⟩
      refine ⟨rfl, ?_, ?_, hX.trans h4 fun c o _ hs => ?_⟩
      · rw [crashTo_succ _ L hb]
        exact hW.settled h4 hb' _ (fun c o _ hf hs => by
          rcases hs with hs | hs
          · exact hs
          · have := hFlt _ hf; omega) h1 h2
      · rw [cnt_snoc hb, hd, if_pos rfl]; exact h3
      · rcases hs with hs | hs
        · exact .inl (by rw [hs.1]; exact hW.fg)
        · exact .inr hs
    · rintro i W hi ⟨hW, hP, hX⟩ hd
      obtain ⟨b, hb⟩ : ∃ b, L[i]? = some b := ⟨_, List.getElem?_eq_getElem hi⟩
      rw [dirtyAt_some hb] at hd
      rw [crashTo_skip _ L hb hd]
      refine ⟨hW, ?_, hX⟩
      rw [cnt_snoc hb, hd]; exact hP
    · rw [crashTo_zero]
      exact ⟨hD2, hpc, Chg.refl _ _⟩
    · rintro e w' ⟨rfl, hW, _, hX⟩
      refine ⟨rfl, F, ⟨g, ps, hW⟩, fun k hk => .inl hk, ((Chg.below hB2 fun k _ => F k).trans hX fun k o hl hs => ?_)⟩
      rcases hs with hs | hs
      · exact hs
      · omega
  have HW2 := Lib.hid hw2
  generalize crash (fun n => bs.getD n false) L = L' at *
  clear hD hw2 hB2 hs2 hkc hpc hD2 hk2 hk hkF hFlt hnk
  go_enter Tryz.func30, Tryz.ntmps30
  go_wp2_with fail
  rw [← HW2.out]
  refine HE.out.mono ?_
  rintro e w1 ⟨rfl, h1⟩
  have H1 := Lib.hid h1
  clear h1 HE HW2
  go_wp2
  go_end0
  exact ⟨rfl, H1.out⟩
end Go.Proofs.YthbmknpbcgnabaaGreatDoor
namespace Go.Proofs.YthbmknpbcgnabaaGreatDoor
open Go.RowKit Aes Ctr Sl
theorem foldl_put (l : List Value) : ∀ (off k : Nat) (cs : Array Value), off + k + l.length ≤ cs.size →
    (l.zipIdx k).foldl (fun (cs : Array Value) (p : Value × Nat) => cs.setIfInBounds (off + p.2) p.1) cs = (cs.toList.take (off + k) ++ l ++ cs.toList.drop (off + k + l.length)).toArray := by
  induction l with
  | nil => intro off k cs h; simp
  | cons a r ih =>
    intro off k cs h
    rw [List.length_cons] at h
    rw [List.zipIdx_cons, List.foldl_cons, ih off (k + 1) _ (by simp; omega)]
    congr 1
    have e : (cs.setIfInBounds (off + k) a).toList = cs.toList.set (off + k) a := by simp
    rw [e, ← Nat.add_assoc]
    have hlt : off + k < cs.toList.length := by simp; omega
    rw [List.take_succ_eq_append_getElem (by rw [List.length_set]; exact hlt), List.getElem_set_self, List.take_set_of_le (Nat.le_refl _), List.drop_set_of_lt (by omega)]
    rw [List.length_cons, show off + k + (r.length + 1) = off + k + 1 + r.length by omega]
    simp
def Z48 : List Value := List.replicate 48 (.int .u8 0)
theorem zeroSk (w : World) : (zeroValue 29).run Tryz.prog w = .ok (.agg Z48.toArray) w := by kernel_rfl
theorem built_tsk (parts : List (Nat × Value)) : Tryz.prog.built 29 parts = Instr.fill (fun i => (#[(0, 16), (16, 32)] : Array (Nat × Nat))[i]?) Z48.toArray parts := by kernel_rfl
theorem fill_two (place : Nat → Option (Nat × Nat)) (cells c1 c2 a b : Array Value) (p0 : place 0 = some (0, 16)) (p1 : place 1 = some (16, 32)) (ha : a.size = 16) (hb : b.size = 32) (hc : cells.size = 48) (hc1 : c1.size = 48)
    (g1 : a.zipIdx.foldl (fun (cs : Array Value) (x : Value × Nat) => cs.setIfInBounds (0 + x.2) x.1) cells = c1) (g2 : b.zipIdx.foldl (fun (cs : Array Value) (x : Value × Nat) => cs.setIfInBounds (16 + x.2) x.1) c1 = c2) :
    Instr.fill place cells [(0, .agg a), (1, .agg b)] = some c2 := by
  have e1 : Instr.fill place cells [(0, .agg a), (1, .agg b)] = Instr.fill place c1 [(1, .agg b)] := by
    rw [Instr.fill, p0]
    dsimp only [Value.cells]
    refine Eq.trans (if_neg (by simp [ha, hc])) ?_
    rw [g1]
  have e2 : Instr.fill place c1 [(1, .agg b)] = some c2 := by
    rw [Instr.fill, p1]
    dsimp only [Value.cells]
    refine Eq.trans (if_neg (by simp [hb, hc1])) ?_
    rw [g2]; rfl
  rw [e1, e2]
theorem built_keys (ea ma : List Value) (h1 : ea.length = 16) (h2 : ma.length = 32) : Tryz.prog.built 29 [(0, .agg ea.toArray), (1, .agg ma.toArray)] = some (ea ++ ma).toArray := by
  rw [built_tsk]
  have hz : Z48.length = 48 := by decide
  have f1 := foldl_put ea 0 0 Z48.toArray (by rw [List.size_toArray, hz, h1]; omega)
  have f2 := foldl_put ma 16 0 (ea ++ Z48.drop 16).toArray (by rw [List.size_toArray, List.length_append, List.length_drop, hz, h1, h2]; omega)
  simp only [Nat.add_zero, List.take_zero, List.nil_append, Nat.zero_add, h1] at f1
  rw [Nat.add_zero, h2, show (ea ++ Z48.drop 16).toArray.toList = ea ++ Z48.drop 16 from rfl, List.take_append_of_le_length (by omega), List.take_of_length_le (by omega), show (ea ++ Z48.drop 16).drop (16 + 32) = [] from List.drop_eq_nil_of_le (by rw [List.length_append, List.length_drop, hz, h1]; omega), List.append_nil] at f2
  have g1 : ea.toArray.zipIdx.foldl (fun (cs : Array Value) (p : Value × Nat) => cs.setIfInBounds (0 + p.2) p.1) Z48.toArray = (ea ++ Z48.drop 16).toArray := by
    rw [← Array.foldl_toList, show ea.toArray.zipIdx.toList = ea.zipIdx by simp]
    simpa using f1
  have g2 : ma.toArray.zipIdx.foldl (fun (cs : Array Value) (p : Value × Nat) => cs.setIfInBounds (16 + p.2) p.1) (ea ++ Z48.drop 16).toArray = (ea ++ ma).toArray := by
    rw [← Array.foldl_toList, show ma.toArray.zipIdx.toList = ma.zipIdx by simp]
    exact f2
  exact fill_two _ _ _ _ _ _ rfl rfl (by simp [h1]) (by simp [h2]) (by simp [hz]) (by simp [h1, hz]) g1 g2
theorem yieldsIf_build2 {P : Program} {ops : Array Oper} {S : World → Prop} {op : Oper} {a : Act} (hw : Region.wanted op (yielded ops a.tmps) = true) (t : TypeId) (x0 x1 : Operand) (ho : op.op = .build t #[(0, x0), (1, x1)]) (v0 v1 : Value) (h0 : a.eval x0 = v0) (h1 : a.eval x1 = v1) (cells : Array Value)
    (hb : P.built t [(0, v0), (1, v1)] = some cells) : YieldsIf P ops S op (.agg cells) a :=
  .inl ⟨hw, fun w _ => by
    have hp : ((#[(0, x0), (1, x1)] : Array (Nat × Operand)).map fun (i, x) => (i, a.eval x)) = #[(0, v0), (1, v1)] := by simp [h0, h1]
    unfold execOp
    simp only [ho, Sem.run_bind, Sem.run_pure, Result.andThen_ok, hp, run_build w t #[(0, v0), (1, v1)] cells hb]⟩
theorem cut16 (X : Nat) (W : World) : (Instr.sliceAt 27 (.pointer (some ⟨X, 0, none⟩)) none (some (.int .i64 16)) none).run Tryz.prog W = .ok (.slice (some ⟨X, 0, none⟩) 16 32) W := by
  have ha : Tryz.prog.underlying 27 = some (.array (Tryz.prog.arrayLen 27) (Tryz.prog.elem 27)) := by kernel_rfl
  have hl : Tryz.prog.arrayLen 27 = 32 := by kernel_rfl
  have hs : (sizeOf (Tryz.prog.elem 27)).run Tryz.prog W = .ok 1 W := by kernel_rfl
  have h16 : (16 : Int).toNat = 16 := rfl
  rw [run_sliceAt_array_h W 27 ⟨X, 0, none⟩ ha .i64 16 (by omega) (by rw [hl]; omega), hs, hl, h16]
  rfl
theorem toArr16 (X c : Nat) (W : World) : (Instr.arrayAt 25 (.slice (some ⟨X, 0, none⟩) 16 c)).run Tryz.prog W = .ok (.pointer (some ⟨X, 0, none⟩)) W := by
  simp [Instr.arrayAt, run_underlying Tryz.underlying25]
set_option maxRecDepth 100000 in
set_option maxHeartbeats 1000000 in
theorem SDerive_any (s : List UInt8) (hs : s.length ≤ 1000000) (x : Value) (w : World) (hT : Hm.Tab w) (h : Arg w x s) :
    Calls Tryz.prog 7 #[x] w fun e w' => ∃ ks : List Value, Hid (KeysV (encK s) (macK s) ks) ∧ e = .returned (.agg ks.toArray) ∧ Below w.heap.size w w' := by
  obtain ⟨A, cap, rfl⟩ := h.form
  obtain ⟨n, hnl⟩ : ∃ n, n = s.length := ⟨_, rfl⟩
  rw [← hnl] at h ⊢
  have HSl := Lib.hid hs
  have hzk := zeroSk
  have hz := Hm.zeroTag
  obtain ⟨w0, hw0⟩ : ∃ w0, w0 = w.alloc (.cells Z48.toArray 29) := ⟨_, rfl⟩
  have HSZ0 : Hid (w0.heap.size = w.heap.size + 1) := by show _ = _; rw [hw0]; simp
  have HB0 : Hid (Below w.heap.size w w0) := by rw [hw0]; exact (Below.refl _ _).alloc (Nat.le_refl _) _
  have HZ0 : Hid (Row w0 w.heap.size 29 Z48) := by rw [hw0]; exact Row.new w 29 Z48
  have hc1 := Joins.run_convert_bytes_const_at (P := Tryz.prog) w0 22 5 #[.int .u8 101, .int .u8 110, .int .u8 99] 3 3 (w.heap.size + 1) HSZ0.out.symm Tryz.underlying22 Tryz.underlying5
  rw [hw0] at hc1
  obtain ⟨w1, hw1⟩ : ∃ w1, w1 = w0.alloc (.cells #[.int .u8 101, .int .u8 110, .int .u8 99] 5 (3, 4)) := ⟨_, rfl⟩
  have HSZ1 : Hid (w1.heap.size = w.heap.size + 1 + 1) := by show _ = _; rw [hw1, hw0]; simp
  have HB1 : Hid (Below w.heap.size w w1) := by rw [hw1]; exact HB0.out.alloc HB0.out.size _
  have HZ1 : Hid (Row w1 w.heap.size 29 Z48) := by rw [hw1]; exact HZ0.out.alloc _
  have HE1 : Hid (Arg w1 (.slice (some ⟨w.heap.size + 1, 0, none⟩) 3 3) encW) := by
    refine .inr ⟨w.heap.size + 1, 0, 3, rfl, by rw [HSZ1.out]; omega, by decide, fun j u hu => ?_⟩
    rw [hw1, Nat.zero_add]
    refine (Joins.cell_alloc_mark_at w0 _ _ _ _ j HSZ0.out.symm).trans ?_
    rw [List.getElem?_toArray]
    exact hu
  obtain ⟨w2, hw2⟩ : ∃ w2, w2 = w1.alloc (.cells #[.slice (some ⟨w.heap.size + 1, 0, none⟩) 3 3] 22) := ⟨_, rfl⟩
  have HB2 : Hid (Below w.heap.size w w2) := by rw [hw2]; exact HB1.out.alloc HB1.out.size _
  have HZ2 : Hid (Row w2 w.heap.size 29 Z48) := by rw [hw2]; exact HZ1.out.alloc _
  have HP2 : Hid (Hm.Parts w2 (.slice (some ⟨w.heap.size + 1 + 1, 0, none⟩) 1 1) [encW]) := by
    have := parts1 HE1.out
    rw [← hw2, HSZ1.out] at this
    exact this
  have HT2 : Hid (Hm.Tab w2) := hT.below HB2.out
  have HV2 : Hid (Arg w2 (.slice A n cap) s) := h.below HB2.out
  clear hnl hs h hT HE1 HZ1 HZ0 HB1 HB0
  go_enter Tryz.func7, Tryz.ntmps7
  go_wp2_with fail
  rw [← hw0, ← hw1, ← hw2]
  refine (Hm.Join_any _ s HSl.out _ _ _ _ smallE w2 HT2.out HV2.out HP2.out).mono ?_
  rintro e w3 ⟨rs, Hrs, rfl, hb3⟩
  have hs23 := hb3.size
  have Hsz : Hid (rs.toArray.size = 32) := Hrs.out.size
  have Hone : Hid (rs.toArray.all (·.oneCell') = true) := Hrs.out.one
  have HB3 := Lib.hid (HB2.out.trans (hb3.mono HB2.out.size))
  have HZ3 := Lib.hid (HZ2.out.below hb3 HZ2.out.lt)
  have HT3 := Lib.hid (HT2.out.below hb3)
  have HV3 := Lib.hid (HV2.out.below hb3)
  clear hw0 hw1 hw2 hc1 hzk HT2 HV2 HP2 HB2 HZ2 hb3
  go_wp2_with (refine wpList_store_row rfl 27 (.tmp 3) (.tmp 8) rfl w3.heap.size rs.toArray rfl rfl 27 _ (Row.new w3 _ Hm.Z32) (by rw [Hsz.out]; kernel_rfl) (by rw [Hsz.out]; rfl) Hone.out ?_)
  have HB34 : Hid (Below w3.heap.size w3 ((w3.alloc (.cells Hm.Z32.toArray 27)).setRow w3.heap.size rs.toArray)) := below_setRow' ((Below.refl _ _).alloc (Nat.le_refl _) _) (Nat.le_refl _) _
  have HX4 : Hid (Row ((w3.alloc (.cells Hm.Z32.toArray 27)).setRow w3.heap.size rs.toArray) w3.heap.size 27 rs) := (Row.new w3 27 Hm.Z32).whole rs
  have HXne : Hid (w3.heap.size ≠ w.heap.size) := by show _ ≠ _; have := HZ3.out.lt; omega
  obtain ⟨X, hX⟩ : ∃ X, X = w3.heap.size := ⟨_, rfl⟩
  rw [← hX] at HX4 HXne ⊢
  have HB34' : Below w3.heap.size w3 ((w3.alloc (.cells Hm.Z32.toArray 27)).setRow X rs.toArray) := by rw [hX]; exact HB34.out
  clear HB34 hX
  generalize (w3.alloc (.cells Hm.Z32.toArray 27)).setRow X rs.toArray = w4 at *
  have HB4 := Lib.hid (HB3.out.trans (HB34'.mono HB3.out.size))
  have HZ4 := Lib.hid (HZ3.out.below HB34' HZ3.out.lt)
  have HT4 := Lib.hid (HT3.out.below HB34')
  have HV4 := Lib.hid (HV3.out.below HB34')
  obtain ⟨C16, HCe⟩ : ∃ C, Hid (C = List.map V8 (encK s)) := ⟨_, rfl⟩
  have HC16 : Hid (C16.length = 16) := by show _ = _; rw [HCe.out, List.length_map, encK_length]
  have HKeep : Hid (∀ W, Below w4.heap.size w4 W → W.rangeAt X 0 C16) := fun W hW => by
    have h1 := ((HX4.out.below hW HX4.out.lt)).sees.piece 0 16
    rw [Nat.zero_add, List.drop_zero, Hrs.out.1, ← List.map_take] at h1
    rw [HCe.out]
    exact h1
  have hi1 : (Tryz.prog.info? 25).map (·.size) = some C16.length := by rw [HC16.out]; kernel_rfl
  clear HB34' HB3 HZ3 HT3 HV3 hz
  have hC : Below w4.heap.size w4 w4.drew := below_drewN (Below.refl _ _) 1
  refine wp_region_held_drew (S := (fun W => W.rangeAt X 0 (C16))) (by kernel_rfl) (HKeep.out _ hC) (fun hHeld => ?_)
  generalize w4.drew = w4d at *
  refine wpAnyH_take (i := 0) (oi := ⟨some 9, _, _, _, _, _⟩) (v := ?_) rfl (by kernel_rfl) (by kernel_rfl) (by kernel_rfl) (fun _ _ _ h => h) (Or.inl ⟨by rfl, ?_⟩) hHeld ?_
  rotate_left
  · intro w hSw
    have hsl := cut16 X w
    go_simp
    with_reducible rfl
  try go_frame
  refine wpAnyH_take (i := 1) (oi := ⟨some 10, _, _, _, _, _⟩) (v := ?_) rfl (by kernel_rfl) (by kernel_rfl) (by kernel_rfl) (fun _ _ _ h => h) (Or.inl ⟨by rfl, ?_⟩) hHeld ?_
  rotate_left
  · intro w hSw
    have hsp := toArr16 X 32 w
    go_simp
    with_reducible rfl
  try go_frame
  refine wpAnyH_take (i := 2) (oi := ⟨some 11, _, _, _, _, _⟩) (v := .agg (C16).toArray) rfl (by kernel_rfl) (by kernel_rfl) (by kernel_rfl) (fun _ _ _ h => h) (yieldsIf_load_mid (by rfl) 25 (.tmp 10) rfl (X) 0 rfl (C16) _ (fun W h => h) Tryz.underlying25 rfl hi1) hHeld ?_
  try go_frame
  refine wpAnyH_take (i := 3) (oi := ⟨some 12, _, _, _, _, _⟩) (v := ?_) rfl (by kernel_rfl) (by kernel_rfl) (by kernel_rfl) (fun _ _ _ h => h) (Or.inl ⟨by rfl, ?_⟩) hHeld ?_
  rotate_left
  · intro w hSw
    go_simp
    with_reducible rfl
  try go_frame
  refine wpAnyH_ready (rs := [4]) (by kernel_rfl) (by simp) ?_
  refine AllReadyH.cons (o := ⟨some 13, _, _, _, _, _⟩) rfl (fun K hK => ?_) AllReadyH.nil
  go_simp
  have hb : Below w4d.heap.size w4d (w4d.alloc (.cells #[.int .u8 109, .int .u8 97, .int .u8 99] 5)) := Joins.below_alloc1 _ _
  have hg_lf := hC.size
  obtain ⟨g_lf, Hg_lf⟩ : ∃ g, Hid (g = w4d.heap.size) := ⟨_, rfl⟩
  have R_lf : Hid (Row (w4d.alloc (.cells #[.int .u8 109, .int .u8 97, .int .u8 99] 5)) w4d.heap.size 5 (macW.map V8)) := Row.new w4d 5 (macW.map V8)
  replace hC := hC.trans (hb.mono hC.size)
  refine hK.out _ _ (HKeep.out _ hC) (fun hHeld => ?_)
  clear hK K hb
  generalize (w4d.alloc (.cells #[.int .u8 109, .int .u8 97, .int .u8 99] 5)) = w4d_lf at *
  rw [← Hg_lf.out] at hg_lf ⊢
  rw [← Hg_lf.out] at R_lf
  clear Hg_lf
  try go_frame
  refine wpAnyH_ready (rs := [5]) (by kernel_rfl) (by simp) ?_
  refine AllReadyH.cons (o := ⟨some 14, _, _, _, _, _⟩) rfl (fun K hK => ?_) AllReadyH.nil
  have hcv := run_mark g_lf 3 3 macW w4d_lf R_lf.out
  go_simp
  clear hcv
  have hb0 := hC.trans (mark_below w4d_lf _ g_lf (List.length macW) hg_lf)
  have F_lf : Hid (Arg (w4d_lf.freeze ⟨g_lf, List.length macW, none⟩ 1) (.slice (some ⟨g_lf, 0, none⟩) 3 3) (macW)) := mark_arg w4d_lf g_lf _ R_lf.out 3 rfl
  clear R_lf
  replace hC := hb0
  refine hK.out _ _ (HKeep.out _ hC) (fun hHeld => ?_)
  clear hK K hb0
  generalize (w4d_lf.freeze ⟨g_lf, List.length macW, none⟩ 1) = w4d_lf_mk at *
  try go_frame
  refine wpAnyH_ready (rs := [6]) (by kernel_rfl) (by simp) ?_
  refine AllReadyH.cons (o := ⟨some 15, _, _, _, _, _⟩) rfl (fun K hK => ?_) AllReadyH.nil
  go_simp
  have hb : Below w4d_lf_mk.heap.size w4d_lf_mk (w4d_lf_mk.alloc (.cells #[.slice (some ⟨g_lf, 0, none⟩) 3 3] 22)) := Joins.below_alloc1 _ _
  have hg_ps := hC.size
  obtain ⟨g_ps, Hg_ps⟩ : ∃ g, Hid (g = w4d_lf_mk.heap.size) := ⟨_, rfl⟩
  have F_ps : Hid (Hm.Parts (w4d_lf_mk.alloc (.cells #[.slice (some ⟨g_lf, 0, none⟩) 3 3] 22)) (.slice (some ⟨w4d_lf_mk.heap.size, 0, none⟩) 1 1) [macW]) := parts1 F_lf.out
  replace hC := hC.trans (hb.mono hC.size)
  replace F_lf := Lib.hid (F_lf.out.below hb)
  refine hK.out _ _ (HKeep.out _ hC) (fun hHeld => ?_)
  clear hK K hb
  generalize (w4d_lf_mk.alloc (.cells #[.slice (some ⟨g_lf, 0, none⟩) 3 3] 22)) = w4d_lf_mk_ps at *
  rw [← Hg_ps.out] at hg_ps ⊢
  rw [← Hg_ps.out] at F_ps
  clear Hg_ps
  try go_frame
  refine wpAnyH_ready (rs := [7]) (by kernel_rfl) (by simp) ?_
  refine AllReadyH.cons (o := ⟨some 16, _, _, _, _, _⟩) rfl (fun K hK => ?_) AllReadyH.nil
  go_simp
  go_at_call 31
  refine (Hm.Join_any _ s HSl.out _ _ _ _ smallM w4d_lf_mk_ps (HT4.out.below hC) (HV4.out.below hC) F_ps.out).mono ?_
  rintro e w4d_lf_mk_ps_jn ⟨r2, Hr2, rfl, hb⟩
  replace hC := hC.trans (hb.mono hC.size)
  replace F_lf := Lib.hid (F_lf.out.below hb)
  replace F_ps := Lib.hid (F_ps.out.below hb)
  refine hK.out _ _ (HKeep.out _ hC) (fun hHeld => ?_)
  clear hK K hb 
  have hbk := fun W => run_build (P := Tryz.prog) W 29 #[(0, .agg (C16).toArray), (1, .agg r2.toArray)] _ (built_keys (C16) r2 HC16.out Hr2.out.len)
  clear F_lf F_ps
  try go_frame
  refine wpAnyH_take (i := 8) (oi := ⟨some 17, _, _, _, _, _⟩) (v := .agg (C16 ++ r2).toArray) rfl (by kernel_rfl) (by kernel_rfl) (by kernel_rfl) (fun _ _ _ h => h) (yieldsIf_build2 (by rfl) 29 (.tmp 11) (.tmp 16) rfl _ _ rfl rfl _ (built_keys (C16) r2 HC16.out Hr2.out.len)) hHeld ?_
  try go_frame
  refine wpAnyH_ready (rs := [9]) (by kernel_rfl) (by simp) ?_
  refine AllReadyH.cons (o := ⟨none, _, _, _, _, _⟩) rfl (fun K hK => ?_) AllReadyH.nil
  rw [if_pos (by rfl)]
  have HZ := Lib.hid (HZ4.out.below hC HZ4.out.lt)
  have Hsz48 : Hid ((C16 ++ r2).toArray.size = 48) := by show _ = _; rw [List.size_toArray, List.length_append, HC16.out, Hr2.out.len]
  have Hone48 : Hid ((C16 ++ r2).toArray.all (·.oneCell') = true) := by show _ = _; rw [Hr2.out.1, HCe.out]; have h8 := one8 (encK s ++ macK s); rw [List.map_append] at h8; exact h8
  refine Go.wp_store_row 29 (.tmp 2) (.tmp 17) rfl w.heap.size (C16 ++ r2).toArray rfl rfl 29 _ HZ.out (by rw [Hsz48.out]; kernel_rfl) (by rw [Hsz48.out]; rfl) Hone48.out ?_
  have HF := Lib.hid (HZ.out.whole (C16 ++ r2))
  have HBF := Lib.hid (below_setRow' (HB4.out.trans (hC.mono HB4.out.size)) (k := w.heap.size) (Nat.le_refl _) (C16 ++ r2).toArray)
  refine hK.out _ _ (fun j u hj => (World.cell?_of_block (setRow_other _ _ _ _ HXne.out)).trans (hHeld j u hj)) (fun hHeld => ?_)
  clear hK K
  generalize (w4d_lf_mk_ps_jn.setRow w.heap.size (C16 ++ r2).toArray) = w4d_lf_mk_ps_jn_st at *
  try go_frame
  refine wpAnyH_done (by kernel_rfl) ?_ _
  clear hC HKeep hHeld
  have hinfo : (Tryz.prog.info? 29).map (·.size) = some (C16 ++ r2).toArray.size := by rw [Hsz48.out]; kernel_rfl
  go_wp2
  refine bodyPost_ret (v := .agg (C16 ++ r2).toArray) (results_cell_row rfl _ _ w.heap.size 29 (C16 ++ r2).toArray (0, 0) _ rfl HF.out Tryz.underlying29 rfl hinfo) rfl ?_
  exact ⟨C16 ++ r2, ⟨by rw [Hr2.out.1, HCe.out, List.map_append]; rfl, encK_length s, macK_length s⟩, rfl, HBF.out⟩
end Go.Proofs.YthbmknpbcgnabaaGreatDoor
