/-
  TOOLS: a row that is the call's own, the mark that a literal's bytes get, the cells of keys; THE WALKS of putNumber and getNumber.
-/
import Derived.Test.YtfodblgoamkgmaaDoorSA
import Derived.Test.YtfodblgoamkgmaaDoorCE
namespace Go.Proofs.YtfodblgoamkgmaaDoor
open Go.RowKit Aes Ctr Sl

theorem Row.own {w : World} {g B n : Nat} {cs : List Value} (h : Row w g 5 cs) (hB : B ≤ g) (hn : cs.length = n) (hm : n ≤ 1000000) : Own w B 5 (.slice (some ⟨g, 0, none⟩) n n) cs := by
  subst hn
  refine ⟨by simp, .inr ⟨g, cs.length, cs.toArray, rfl, hB, h, Nat.le_refl _, by simp only [maxLen]; omega, by simp, by simp⟩⟩

/-- The mark behind the last cell of a literal's bytes. -/
theorem run_mark (g n c : Nat) (bs : List UInt8) (W : World) (h : Row W g 5 (bs.map V8)) : (convert 22 22 (.slice (some ⟨g, 0, none⟩) n c)).run Tryd.prog W = .ok (.slice (some ⟨g, 0, none⟩) n c) (W.freeze ⟨g, bs.length, none⟩ 1) := by
  have hsh : W.shape? g = some (5, bs.length) := by
    have h' : W.heap[g]? = some (.cells (bs.map V8).toArray 5 (0, 0)) := h
    unfold World.shape?
    rw [h']
    simp
  simp [convert, run_underlying Tryd.underlying22, run_underlying Tryd.underlying5, markStringish, hsh]
theorem mark_heap (W : World) (g k j : Nat) (hj : j ≠ g) : (W.freeze ⟨g, k, none⟩ 1).heap[j]? = W.heap[j]? := by
  unfold World.freeze
  rw [if_neg (by decide)]
  show (W.heap.modify g _)[j]? = _
  rw [Array.getElem?_modify, if_neg (fun e => hj e.symm)]
theorem mark_size (W : World) (g k : Nat) : (W.freeze ⟨g, k, none⟩ 1).heap.size = W.heap.size := by
  unfold World.freeze
  rw [if_neg (by decide)]
  show (W.heap.modify g _).size = _
  simp
theorem mark_below (W : World) (B g k : Nat) (hB : B ≤ g) : Below B W (W.freeze ⟨g, k, none⟩ 1) := by
  refine ⟨?_, ?_, ?_, by rw [mark_size]; exact Nat.le_refl _, fun j hj => mark_heap W g k j (by omega)⟩ <;> (unfold World.freeze; rw [if_neg (by decide)])
theorem mark_cell (W : World) (g k : Nat) (p : Addr) : (W.freeze ⟨g, k, none⟩ 1).cell? p = W.cell? p := by
  rcases Nat.lt_trichotomy p.block g with h | h | h
  · exact World.cell?_of_block (mark_heap W g k p.block (by omega))
  · unfold World.freeze
    rw [if_neg (by decide)]
    unfold World.cell?
    show (match (W.heap.modify g _)[p.block]? with | some (.cells c _ _) => if p.spot.isSome then none else c[p.off]? | _ => none) = _
    rw [Array.getElem?_modify, if_pos h.symm]
    cases hq : W.heap[p.block]? with
    | none => rfl
    | some o => cases o <;> rfl
  · exact World.cell?_of_block (mark_heap W g k p.block (by omega))
theorem Arg.mark {W : World} {v : Value} {bs : List UInt8} (h : Arg W v bs) (g k : Nat) : Arg (W.freeze ⟨g, k, none⟩ 1) v bs := by
  rcases h with h | ⟨b, o, c, e, hb, hc, hs⟩
  · exact .inl h
  · exact .inr ⟨b, o, c, e, by rw [mark_size]; exact hb, hc, fun j u hu => (mark_cell W g k _).trans (hs j u hu)⟩
theorem mark_arg (W : World) (g k : Nat) {t : TypeId} {bs : List UInt8} (h : Row W g t (bs.map V8)) (n : Nat) (hn : bs.length = n) : Arg (W.freeze ⟨g, k, none⟩ 1) (.slice (some ⟨g, 0, none⟩) n n) bs := (h.arg n hn).mark g k

/-- A literal's row of parts. -/
theorem vals3 {w : World} {v1 v2 v3 : Value} {p1 p2 p3 : List UInt8} (h1 : Arg w v1 p1) (h2 : Arg w v2 p2) (h3 : Arg w v3 p3) : Hm.Vals w [v1, v2, v3] [p1, p2, p3] := by
  refine ⟨rfl, fun j v p hv hp => ?_⟩
  match j with
  | 0 => simp only [List.getElem?_cons_zero, Option.some.injEq] at hv hp; subst hv hp; exact h1
  | 1 => simp only [List.getElem?_cons_succ, List.getElem?_cons_zero, Option.some.injEq] at hv hp; subst hv hp; exact h2
  | 2 => simp only [List.getElem?_cons_succ, List.getElem?_cons_zero, Option.some.injEq] at hv hp; subst hv hp; exact h3
  | j + 3 => simp at hv
theorem parts3 {w : World} {v1 v2 v3 : Value} {p1 p2 p3 : List UInt8} (h1 : Arg w v1 p1) (h2 : Arg w v2 p2) (h3 : Arg w v3 p3) :
    Hm.Parts (w.alloc (.cells #[v1, v2, v3] 22)) (.slice (some ⟨w.heap.size, 0, none⟩) 3 3) [p1, p2, p3] :=
  ⟨_, 3, [v1, v2, v3], rfl, Hm.Vals.below (vals3 h1 h2 h3) ((Below.refl _ _).alloc (Nat.le_refl _) _), fun _ => ⟨w.heap.size, 0, rfl, by simp, (Row.new w 22 [v1, v2, v3]).sees⟩⟩
theorem parts1 {w : World} {v1 : Value} {p1 : List UInt8} (h1 : Arg w v1 p1) :
    Hm.Parts (w.alloc (.cells #[v1] 22)) (.slice (some ⟨w.heap.size, 0, none⟩) 1 1) [p1] := by
  refine ⟨_, 1, [v1], rfl, Hm.Vals.below (w := w) ⟨rfl, fun j v p hv hp => ?_⟩ ((Below.refl _ _).alloc (Nat.le_refl _) _), fun _ => ⟨w.heap.size, 0, rfl, by simp, (Row.new w 22 [v1]).sees⟩⟩
  match j with
  | 0 => simp only [List.getElem?_cons_zero, Option.some.injEq] at hv hp; subst hv hp; exact h1
  | j + 1 => simp at hv

/-- The cells of a pair of keys. -/
def KeysV (ek mk : List UInt8) (ks : List Value) : Prop := ks = (ek ++ mk).map V8 ∧ ek.length = 16 ∧ mk.length = 32
section
variable {ek mk : List UInt8} {ks : List Value}
theorem KeysV.vec (h : KeysV ek mk ks) : Vec 48 (ek ++ mk) ks := ⟨h.1, by rw [List.length_append, h.2.1, h.2.2]⟩
theorem KeysV.size (h : KeysV ek mk ks) : ks.toArray.size = 48 := h.vec.size
theorem KeysV.enc {w : World} {g : Nat} {t : TypeId} (h : KeysV ek mk ks) (hr : Row w g t ks) : Arg w (.slice (some ⟨g, 0, none⟩) 16 16) ek := by
  refine .inr ⟨g, 0, 16, by rw [h.2.1], hr.lt, by rw [h.2.1]; omega, ?_⟩
  have := (h.1 ▸ hr : Row w g t ((ek ++ mk).map V8)).sees.piece 0 16
  rwa [Nat.zero_add, List.drop_zero, ← List.map_take, List.take_append_of_le_length (by rw [h.2.1]; omega), List.take_of_length_le (by rw [h.2.1]; omega)] at this
theorem KeysV.mac {w : World} {g : Nat} {t : TypeId} (h : KeysV ek mk ks) (hr : Row w g t ks) : Arg w (.slice (some ⟨g, 16, none⟩) 32 32) mk := by
  refine .inr ⟨g, 16, 32, by rw [h.2.2], hr.lt, by rw [h.2.2]; omega, ?_⟩
  have := (h.1 ▸ hr : Row w g t ((ek ++ mk).map V8)).sees.tail 16
  rwa [Nat.zero_add, ← List.map_drop, List.drop_append_of_le_length (by rw [h.2.1]; omega), List.drop_of_length_le (by rw [h.2.1]; omega), List.nil_append] at this
end

set_option maxRecDepth 100000 in
set_option maxHeartbeats 400000 in
theorem SputN_any (n x : Nat) (hx : x < 2 ^ 64) (hn : n ≤ 8) (w : World) :
    Calls Tryd.prog 20 #[.int .u64 x, .int .i64 n] w fun e w' => e = .returned (.slice (some ⟨w.heap.size, 0, none⟩) n n) ∧ Hid (Row w' w.heap.size 5 ((big n x).map V8)) ∧ Below w.heap.size w w' := by
  obtain ⟨zs, hzs⟩ : ∃ zs, zs = (List.replicate n (0 : UInt8)).map V8 := ⟨_, rfl⟩
  have hmk : ∀ W, (Instr.makeSlice 22 (.int .i64 (n : Int)) (.int .i64 (n : Int))).run Tryd.prog W = .ok (.slice (some ⟨W.heap.size, 0, none⟩) n n) (W.alloc (.cells zs.toArray 5)) := fun W => by rw [hzs]; exact made_n n (by omega) W
  have HR : Hid (Row (w.alloc (.cells zs.toArray 5)) w.heap.size 5 ((List.replicate n (0 : UInt8)).map V8)) := by
    show Row _ _ _ _
    rw [← hzs]; exact Row.new w _ zs
  have HB0 : Hid (Below w.heap.size w (w.alloc (.cells zs.toArray 5))) := (Below.refl _ _).alloc (Nat.le_refl _) _
  have Hfin : Hid (putK (List.replicate n 0) 0 n x = big n x) := by
    show _ = _
    have := put_mid n [] (List.replicate n 0) [] x (by simp)
    simpa [putK] using this
  clear hzs
  go_enter Tryd.func20, Tryd.ntmps20
  go_wp2
  go_loopw [0, 6] (fun y i wr => ∃ (k z : Nat) (m : List UInt8), k ≤ n ∧ i = .int .i64 ((k : Int) - 1) ∧ y = .int .u64 z ∧ z < 2 ^ 64 ∧ Hid (m.length = n) ∧ Hid (putK m 0 k z = putK (List.replicate n 0) 0 n x) ∧ Hid (Row wr w.heap.size 5 (m.map V8)) ∧ Below w.heap.size w wr) (fun _ i _ => (intOf i + 1).toNat)
  case atStart => exact ⟨n, x, List.replicate n 0, Nat.le_refl _, rfl, rfl, hx, List.length_replicate, rfl, HR, HB0.out⟩
  case round =>
    obtain ⟨k, z, m, hk, rfl, rfl, hz, Hml, Hput, Hrow, hgr⟩ := hrel
    clear HR HB0 hmk
    rcases Nat.eq_zero_or_pos k with rfl | hpos
    · go_wp2
      rw [putK_zero] at Hput
      have e := Hput.out.trans Hfin.out
      go_ret
      exact ⟨rfl, by rw [← e]; exact Hrow, hgr⟩
    · obtain ⟨j, rfl⟩ : ∃ j, k = j + 1 := ⟨k - 1, by omega⟩
      have e1 : ((j + 1 : Nat) : Int) - 1 = (j : Int) := by omega
      rw [e1]
      have c0 : wr.cell? ⟨w.heap.size, j, none⟩ = some (.int .u8 (m.getD j 0).toNat) := by
        have := row8 Hrow.out j (by rw [Hml.out]; omega)
        exact this
      have f0 := Hrow.out.free j
      rw [putK_succ, Nat.zero_add] at Hput
      generalize (m.getD j 0).toNat = y at *
      clear e1
      go_wp2
      go_roundw
      case rel =>
        refine ⟨j, z / 256, m.set j (UInt8.ofNat z), by omega, rfl, by rw [Int.natCast_ediv]; rfl, by omega, ?_, Hput, ?_, hgr.setCell (Nat.le_refl _) _⟩
        · show _ = _
          rw [List.length_set]; exact Hml.out
        · show Row _ _ _ _
          rw [List.map_set, byte_eq z]
          exact Hrow.out.set j _
      case measure => simp only [intOf]; omega

theorem SputN_at (n x : Nat) (z : Int) (hz : z = ((x : Nat) : Int)) (hx : x < 2 ^ 64) (hn : n ≤ 8) (w : World) :
    Calls Tryd.prog 20 #[.int .u64 z, .int .i64 n] w fun e w' => e = .returned (.slice (some ⟨w.heap.size, 0, none⟩) n n) ∧ Hid (Row w' w.heap.size 5 ((big n x).map V8)) ∧ Below w.heap.size w w' := by
  subst hz
  exact SputN_any n x hx hn w
theorem SputN_4 (x : Nat) (z : Int) (hz : z = ((x : Nat) : Int)) (hx : x < 2 ^ 64) (w : World) :
    Calls Tryd.prog 20 #[.int .u64 z, .int .i64 4] w fun e w' => e = .returned (.slice (some ⟨w.heap.size, 0, none⟩) 4 4) ∧ Hid (Row w' w.heap.size 5 ((big 4 x).map V8)) ∧ Below w.heap.size w w' := SputN_at 4 x z hz hx (by omega) w
theorem SputN_8 (x : Nat) (hx : x < 2 ^ 64) (w : World) :
    Calls Tryd.prog 20 #[.int .u64 (x : Int), .int .i64 8] w fun e w' => e = .returned (.slice (some ⟨w.heap.size, 0, none⟩) 8 8) ∧ Hid (Row w' w.heap.size 5 ((big 8 x).map V8)) ∧ Below w.heap.size w w' := SputN_at 8 x _ rfl hx (by omega) w
theorem nm_wrap (d : Int) : IntKind.u64.wrap d = ((nm d : Nat) : Int) := by rw [IntKind.wrap_u64, nm_int]

theorem or_byte (a x : Nat) (ha : a < 2 ^ 56) (hx : x < 256) : bits .or .u64 ((a : Int) * 256) (x : Int) = ((a * 256 + x : Nat) : Int) := by
  have e : (a : Int) * 256 = ((a * 256 : Nat) : Int) := by omega
  rw [e, u64_or_nat _ _ (by omega) (by omega)]
  congr 1
  have := Nat.shiftLeft_add_eq_or_of_lt (i := 8) (by omega : x < 2 ^ 8) a
  rw [Nat.shiftLeft_eq] at this
  exact this.symm

set_option maxRecDepth 100000 in
set_option maxHeartbeats 400000 in
theorem SgetN_any (b : List UInt8) (hb8 : b.length ≤ 8) (v : Value) (w : World) (h : Arg w v b) :
    Calls Tryd.prog 26 #[v] w fun e w' => e = .returned (.int .u64 ((num b : Nat) : Int)) ∧ Below w.heap.size w w' := by
  obtain ⟨A, cap, rfl⟩ := h.form
  obtain ⟨n, hnl⟩ : ∃ n, n = b.length := ⟨_, rfl⟩
  have HS : Hid (∀ j, j < n → ∃ bb o, A = some ⟨bb, o, none⟩ ∧ w.cell? ⟨bb, o + j, none⟩ = some (.int .u8 (b.getD j 0).toNat)) := fun j hj => by
    rcases h with ⟨A', e, rfl⟩ | ⟨bb, o, c, e, hbb, _, hs⟩
    · simp at hnl; omega
    · injection e with e1 _ _
      exact ⟨bb, o, e1, at8 hs j (by omega)⟩
  rw [← hnl] at hb8 ⊢
  have HNl := Lib.hid hnl
  clear hnl h
  go_enter Tryd.func26, Tryd.ntmps26
  go_wp2
  go_loop [3, 8] (fun s i => ∃ (k a : Nat), k ≤ n ∧ i = .int .i64 k ∧ s = .int .u64 a ∧ Hid (a = num (b.take k))) (fun _ i => n - (intOf i).toNat)
  case atStart => exact ⟨0, 0, by omega, rfl, rfl, by show _ = _; simp [num]⟩
  case round =>
    obtain ⟨k, a, hk, rfl, rfl, Ha⟩ := hrel
    by_cases hlt : k < n
    · obtain ⟨bb, o, rfl, hx⟩ := HS.out k hlt
      have Htk := Lib.hid (num_take b k (by rw [← HNl.out]; exact hlt))
      have ha : a < 2 ^ 56 := by
        rw [Ha.out]
        have h1 := num_lt (b.take k) 7 (by rw [List.length_take]; omega)
        have : (256 : Nat) ^ 7 = 2 ^ 56 := by decide
        omega
      clear HS
      generalize b.getD k 0 = x at *
      have hx8 := lt8 x
      have Hor := Lib.hid (or_byte a x.toNat ha hx8)
      go_wp2
      go_round
      case rel =>
        refine ⟨k + 1, a * 256 + x.toNat, by omega, by go_num, ?_, ?_⟩
        · rw [Hor.out]
        · show _ = _
          rw [Htk.out, Ha.out]
      case measure => simp [intOf]; omega
    · obtain rfl : k = n := by omega
      go_wp2
      go_ret
      rw [Ha.out, HNl.out, List.take_length]
      exact ⟨rfl, Below.refl _ _⟩
end Go.Proofs.YtfodblgoamkgmaaDoor
