/-
  OF THE WALK: DF, DG, DH, DJ, DK, DL.
-/
import Derived.Deep.OwnRows
import Derived.Laws.Cover3
import Derived.Laws.IdiomArrays
import Derived.Shelf.Abstract
import Derived.StillTailTactics
import Derived.Test.YthbmknpbcgnabaaGreatDoorP15
namespace Go.Proofs.YthbmknpbcgnabaaGreatDoor
open Go.RowKit Dsk
theorem cells_cur {b : Blk} (h : b.ok) : (b.cur.map V8).length = 72 := V8_length _ 72 h.cur
set_option maxRecDepth 100000 in
set_option maxHeartbeats 1000000 in
theorem DWrite_any {w : World} {F : Nat → Prop} {D : Nat} {L : List Blk} (h : DiskAt w F D L) (i : Int) (v : Value) (bs : List UInt8) (hv : Arg w v bs) :
    Calls Tryz.prog 91 #[.pointer (some ⟨D, 0, none⟩), .int .i64 i, v] w fun e w' => e = .returned (.int .i64 (errI (okW L i bs))) ∧ After w F w' D (writeL L i bs) := by
  have HA0 := Lib.hid h.after
  obtain ⟨g, ps, hD⟩ := h
  obtain ⟨A, cap, rfl⟩ := hv.form
  have HV := Lib.hid hv
  clear hv
  cases hg : getB L i with
  | none =>
    have Hok : Hid (okW L i bs = false) := by show _ = _; rw [okW, hg]; rfl
    have Hw : Hid (writeL L i bs = L) := by show _ = _; rw [writeL, Hok.out]; rfl
    have HAt := Lib.hid (Dat_out hD i (getB_none hg))
    rw [Hok.out, Hw.out]
    generalize bs.length = n at *
    clear hD hg Hok Hw HV
    go_enter Tryz.func91, Tryz.ntmps91
    go_wp2_with fail
    refine HAt.out.mono ?_
    rintro e w1 ⟨rfl, rfl⟩
    go_wp2
    go_ret
    exact ⟨rfl, HA0.out⟩
  | some b =>
    obtain ⟨i, rfl, hb⟩ := getB_nat hg
    have hi := (List.getElem?_eq_some_iff.1 hb).1
    have HAt := Lib.hid (Dat_in hD i hi)
    by_cases h72 : bs.length = 72
    · have Hok : Hid (okW L i bs = true) := by show _ = _; rw [okW, hg, h72]; rfl
      have Hw : Hid (writeL L i bs = L.set i (b.write bs)) := by show _ = _; rw [writeL, Hok.out, if_pos rfl, upd1_some hb]
      rw [Hok.out, Hw.out]
      have hbok := hD.ok i b hb
      obtain ⟨ad, hA, hsee⟩ := HV.out.src (by omega)
      subst hA
      obtain ⟨sb, so, rfl⟩ : ∃ sb so, ad = ⟨sb, so, none⟩ := by
        rcases HV.out with ⟨A', e, e2⟩ | ⟨b', o', c', e, _⟩
        · rw [e2] at h72; simp at h72
        · injection e with e1 _ _; injection e1 with e1; exact ⟨b', o', e1⟩
      have Hrg : Hid (w.rangeAt sb so (bs.map V8)) := fun j u hu => by have := hsee j u hu; rwa [add_off] at this
      rw [h72]
      have har : (Instr.arrayAt 131 (.slice (some ⟨sb, so, none⟩) 72 cap)).run Tryz.prog w = .ok (.pointer (some ⟨sb, so, none⟩)) w := run_arrayAt w _ 5 72 _ _ _ Tryz.underlying131 (Nat.le_refl _)
      have Hi : Hid ((Tryz.prog.info? 131).map (·.size) = some (bs.map V8).length) := info72 (V8_length _ 72 h72)
      have Hwr := Lib.hid (Dbwrite_any g (i * 145) b.dirty (ps i) (curAt g ps i b).block (curAt g ps i b).off (by unfold curAt; split <;> rfl) (b.cur.map V8) (bs.map V8) (b.past.map V8) w (hD.ptr hb) (hD.cur hb) (hD.past hb) (cells_cur hbok) (V8_length _ 72 hbok.past) (one8 _))
      have HF : Hid (∀ w', Here w' w.heap.size 0 (bs.map V8) → Here w' g (i * 145 + 72) [.pointer (some ⟨w.heap.size, 0, none⟩)] → Here w' g (i * 145 + 73) (b.cur.map V8) → Chg (fun b j => b = g ∧ i * 145 + 72 ≤ j ∧ j < i * 145 + 145) w w' → After w F w' D (L.set i (b.write bs))) := by
        intro w' h1 h2 h3 h4
        refine ⟨fun k => F k ∨ k = w.heap.size, ⟨g, _, hD.one h4 i hb w.heap.size ?_ (Blk.write_ok hbok h72) ?_ ?_ (fun k hk => .inl hk) ?_⟩, fun k hk => ?_, h4.mono ?_⟩
        · rintro k o ⟨rfl, h5, h6⟩; exact .inl ⟨rfl, by omega, by omega⟩
        · show Here w' g (i * 145) (b.dur.map V8 ++ ([.pointer (some ⟨w.heap.size, 0, none⟩)] ++ b.cur.map V8))
          have e1 : (b.dur.map V8).length = 72 := V8_length _ 72 hbok.dur
          refine Here.append ((hD.dur hb).chg h4 fun j hj hs => ?_) ?_
          · rw [e1] at hj; omega
          · rw [e1]; exact h2.append h3
        · intro _; exact ⟨h1, .inr ⟨Nat.le_refl _, .inr rfl⟩⟩
        · rintro k (hk | rfl)
          · exact Nat.lt_of_lt_of_le (hD.lt k hk) h4.size
          · exact h1.lt (by rw [V8_length _ 72 h72]; omega)
        · rcases hk with h | rfl
          · exact .inl h
          · exact .inr (Nat.le_refl _)
        · rintro b' o _ ⟨rfl, _⟩; exact hD.fg
      generalize bs.map V8 = rs at *
      clear hD hg Hok Hw HV hsee HA0 hbok
      go_enter Tryz.func91, Tryz.ntmps91
      go_wp2_with fail
      refine HAt.out.mono ?_
      rintro e w1 ⟨rfl, rfl⟩
      clear HAt
      go_wp2_with (refine wpList_load_mid rfl 131 (.tmp 20) rfl sb so rfl rs _ Hrg.out Tryz.underlying131 rfl Hi.out ?_)
      refine Hwr.out.mono ?_
      rintro e w2 ⟨rfl, h1, h2, h3, h4⟩
      have HE := Lib.hid (HF.out w2 h1 h2 h3 h4)
      clear h1 h2 h3 h4 HF Hwr Hrg Hi
      go_wp2
      go_ret
      exact ⟨rfl, HE.out⟩
    · have Hok : Hid (okW L i bs = false) := by show _ = _; rw [okW, hg, decide_eq_false h72]; rfl
      have Hw : Hid (writeL L i bs = L) := by show _ = _; rw [writeL, Hok.out]; rfl
      rw [Hok.out, Hw.out]
      generalize bs.length = n at *
      clear hD hg Hok Hw HV
      go_enter Tryz.func91, Tryz.ntmps91
      go_wp2_with fail
      refine HAt.out.mono ?_
      rintro e w1 ⟨rfl, rfl⟩
      go_wp2
      go_ret
      exact ⟨rfl, HA0.out⟩
end Go.Proofs.YthbmknpbcgnabaaGreatDoor
namespace Go.Proofs.YthbmknpbcgnabaaGreatDoor
open Go.RowKit Dsk
def Z72 : List Value := List.replicate 72 (.int .u8 0)
theorem zero72 (w : World) : (zeroValue 131).run Tryz.prog w = .ok (.agg Z72.toArray) w := by kernel_rfl
theorem below_setCells {a : World} {B g : Nat} (hg : B ≤ g) : ∀ (ds : List Value) (o : Nat) (w : World), Below B a w → Below B a (w.setCells g o ds)
  | [], _, _, h => h
  | v :: r, o, w, h => by rw [World.setCells]; exact below_setCells hg r (o + 1) _ (h.setCell hg v)
set_option maxRecDepth 100000 in
set_option maxHeartbeats 1000000 in
theorem DRead_in {w : World} {F : Nat → Prop} {D : Nat} {L : List Blk} (h : DiskAt w F D L) (i : Int) (b : Blk) (hg : getB L i = some b) :
    Calls Tryz.prog 27 #[.pointer (some ⟨D, 0, none⟩), .int .i64 i] w fun e w' => e = .returned (.tuple #[.slice (some ⟨w.heap.size, 0, none⟩) 72 72, .int .i64 0]) ∧ Here w' w.heap.size 0 (b.cur.map V8) ∧ Below w.heap.size w w' := by
  obtain ⟨g, ps, hD⟩ := h
  obtain ⟨i, rfl, hb⟩ := getB_nat hg
  have hi := (List.getElem?_eq_some_iff.1 hb).1
  have HAt := Lib.hid (Dat_in hD i hi)
  have hpc := (hD.ptr hb).cell (j := 0) rfl
  rw [Nat.add_zero] at hpc
  have hCur := Dcur_any g (i * 145) b.dirty (ps i) w hpc
  have hc := hD.cur hb
  have l1 := cells_cur (hD.ok i b hb)
  have c1 := one8 b.cur
  rw [show (if b.dirty = true then (⟨ps i, 0, none⟩ : Addr) else ⟨g, i * 145, none⟩) = ⟨(curAt g ps i b).block, (curAt g ps i b).off, none⟩ from by unfold curAt; split <;> rfl] at hCur
  have HCur := Lib.hid hCur
  generalize b.cur.map V8 = cs at *
  generalize (curAt g ps i b).block = cb at *
  generalize (curAt g ps i b).off = co at *
  have Hc := Lib.hid hc.1
  have Hi := Lib.hid (info72 l1)
  have Hj := Lib.hid (info72a l1)
  have C1 := Lib.hid c1
  have hN : Here (w.alloc (.cells Z72.toArray 131)) w.heap.size 0 Z72 := (Row.new w 131 Z72).here
  have HT : Hid ((w.alloc (.cells Z72.toArray 131)).there w.heap.size 0 cs.toArray.size) := by show World.there _ _ _ _; rw [show cs.toArray.size = Z72.length from by rw [List.size_toArray, l1]; rfl]; exact hN.2
  have HE : Hid (Here ((w.alloc (.cells Z72.toArray 131)).setCells w.heap.size 0 cs) w.heap.size 0 cs ∧ Below w.heap.size w ((w.alloc (.cells Z72.toArray 131)).setCells w.heap.size 0 cs)) :=
    ⟨hN.set cs l1, below_setCells (Nat.le_refl _) _ _ _ ((Below.refl _ _).alloc (Nat.le_refl _) _)⟩
  have hz := zero72
  clear hD hg hb hpc hCur hc l1 c1 hN
  go_enter Tryz.func27, Tryz.ntmps27
  go_wp2_with fail
  refine HAt.out.mono ?_
  rintro e w1 ⟨rfl, rfl⟩
  clear HAt
  go_wp2_with fail
  refine HCur.out.mono ?_
  rintro e w1 ⟨rfl, rfl⟩
  clear HCur
  obtain ⟨w3, hw3⟩ : ∃ w3, w3 = (w1.alloc (.cells Z72.toArray 131)).setCells w1.heap.size 0 cs := ⟨_, rfl⟩
  rw [← hw3] at HE
  have HW3 := Lib.hid hw3
  clear hw3
  go_wp2_with (first
    | (refine wpList_load_mid rfl 131 (.tmp 15) rfl cb co rfl cs _ Hc.out Tryz.underlying131 rfl Hi.out ?_)
    | (refine wpList_store_mid rfl 131 (.tmp 7) (.tmp 16) rfl w1.heap.size 0 cs.toArray rfl rfl HT.out Hj.out C1.out ?_; rw [List.toList_toArray, ← HW3.out]; clear HT HW3 Hc hz))
  go_ret2
  exact ⟨rfl, HE.out⟩
end Go.Proofs.YthbmknpbcgnabaaGreatDoor
namespace Go.Proofs.YthbmknpbcgnabaaGreatDoor
open Go.RowKit Dsk
namespace Dsk
def Blk.setBoth (b : Blk) (c p : List UInt8) : Blk := match b.wr with
  | some _ => ⟨b.dur, some c, p⟩
  | none => ⟨c, none, p⟩
theorem Blk.setBoth_cur (b : Blk) (c p : List UInt8) : (b.setBoth c p).cur = c := by unfold Blk.setBoth Blk.cur; cases b.wr <;> rfl
theorem Blk.setBoth_past (b : Blk) (c p : List UInt8) : (b.setBoth c p).past = p := by unfold Blk.setBoth; cases b.wr <;> rfl
theorem Blk.setBoth_dirty (b : Blk) (c p : List UInt8) : (b.setBoth c p).dirty = b.dirty := by unfold Blk.setBoth Blk.dirty; cases h : b.wr <;> rfl
theorem Blk.setBoth_ok {b : Blk} (h : b.ok) {c p : List UInt8} (hc : c.length = 72) (hp : p.length = 72) : (b.setBoth c p).ok := by
  unfold Blk.setBoth
  cases hw : b.wr with
  | none => exact ⟨hc, hp, fun c hc => by cases hc⟩
  | some d => exact ⟨h.dur, hp, fun c' e => by injection e with e; rw [← e]; exact hc⟩
theorem Blk.setBoth_dur {b : Blk} (c p : List UInt8) : (b.setBoth c p).dur = if b.dirty then b.dur else c := by unfold Blk.setBoth Blk.dirty; cases b.wr <;> rfl
end Dsk
section
variable {w w' : World} {F F' : Nat → Prop} {D g : Nat} {ps : Nat → Nat} {L : List Blk} {S : Nat → Nat → Prop}
theorem DiskW.rowBoth (h : DiskW w F D g ps L) (hc : Chg S w w') {i : Nat} {b : Blk} (hb : L[i]? = some b) (c' p' : List UInt8)
    (hS : ¬ S g (i * 145 + 72)) (hS2 : b.dirty = true → ∀ o, o < 72 → ¬ S g (i * 145 + o))
    (l1 : c'.length = 72) (h1 : Here w' (curAt g ps i b).block (curAt g ps i b).off (c'.map V8)) (h2 : Here w' g (i * 145 + 73) (p'.map V8)) :
    Here w' g (i * 145) (cellsB (b.setBoth c' p') (ps i)) ∧ ((b.setBoth c' p').dirty = true → Here w' (ps i) 0 ((b.setBoth c' p').cur.map V8)) := by
  have hok := h.ok i b hb
  constructor
  · unfold cellsB
    rw [Blk.setBoth_dirty, Blk.setBoth_past, Blk.setBoth_dur]
    have e1 : ((if b.dirty = true then b.dur else c').map V8).length = 72 := by split <;> exact V8_length _ 72 (by first | exact hok.dur | exact l1)
    refine Here.append ?_ ?_
    · by_cases hd : b.dirty = true
      · rw [if_pos hd]
        refine (h.dur hb).chg hc fun j hj => hS2 hd j ?_
        rwa [V8_length _ 72 hok.dur] at hj
      · rw [if_neg hd]
        unfold curAt at h1
        rw [if_neg hd] at h1
        exact h1
    · rw [e1]
      have h3 : Here w' g (i * 145 + 72) [.pointer (if b.dirty then some ⟨ps i, 0, none⟩ else none)] := (h.ptr hb).chg hc fun j hj => by
        have : j = 0 := by simpa using hj
        rw [this, Nat.add_zero]; exact hS
      exact h3.append h2
  · intro hd
    rw [Blk.setBoth_dirty] at hd
    rw [Blk.setBoth_cur]
    unfold curAt at h1
    rw [if_pos hd] at h1
    exact h1
theorem DiskW.both (h : DiskW w F D g ps L) (hc : Chg S w w') {i : Nat} {b : Blk} (hb : L[i]? = some b) (c' p' : List UInt8)
    (hS : ∀ k o, S k o → (k = (curAt g ps i b).block ∧ (curAt g ps i b).off ≤ o ∧ o < (curAt g ps i b).off + 72) ∨ (k = g ∧ i * 145 + 73 ≤ o ∧ o < i * 145 + 145))
    (l1 : c'.length = 72) (l2 : p'.length = 72) (h1 : Here w' (curAt g ps i b).block (curAt g ps i b).off (c'.map V8)) (h2 : Here w' g (i * 145 + 73) (p'.map V8)) :
    After w F w' D (L.set i (b.setBoth c' p')) := by
  have hok := h.ok i b hb
  have hd1 : ∀ k o, S k o → (b.dirty = true ∧ k = ps i) ∨ (b.dirty = false ∧ k = g ∧ i * 145 ≤ o ∧ o < i * 145 + 72) ∨ (k = g ∧ i * 145 + 73 ≤ o ∧ o < i * 145 + 145) := fun k o hs => by
    rcases hS k o hs with ⟨e, h3, h4⟩ | h3
    · unfold curAt at e h3 h4
      by_cases hd : b.dirty = true
      · rw [if_pos hd] at e; exact .inl ⟨hd, e⟩
      · rw [if_neg hd] at e h3 h4
        exact .inr (.inl ⟨by simpa using hd, e, h3, h4⟩)
    · exact .inr (.inr h3)
  obtain ⟨r1, r2⟩ := h.rowBoth hc hb c' p' (fun hs => by
      rcases hd1 _ _ hs with ⟨hd, e⟩ | ⟨_, _, h3, h4⟩ | ⟨_, h3, h4⟩
      · exact (h.apart i b hb hd).2.1 e.symm
      · omega
      · omega) (fun hd o ho hs => by
      rcases hd1 _ _ hs with ⟨hd, e⟩ | ⟨hd', _⟩ | ⟨_, h3, h4⟩
      · exact (h.apart i b hb hd).2.1 e.symm
      · rw [hd] at hd'; cases hd'
      · omega) l1 h1 h2
  refine ⟨F, ⟨g, _, h.one hc i hb (ps i) (fun k o hs => ?_) (Blk.setBoth_ok hok l1 l2) r1 (fun hd => ⟨r2 hd, .inl ⟨rfl, by rw [Blk.setBoth_dirty] at hd; exact hd⟩⟩) (fun _ hk => hk) (fun k hk => Nat.lt_of_lt_of_le (h.lt k hk) hc.size)⟩, fun k hk => .inl hk, hc.mono fun k o _ hs => ?_⟩
  · rcases hd1 _ _ hs with ⟨hd, e⟩ | ⟨_, e, h3, h4⟩ | ⟨e, h3, h4⟩
    · exact .inr ⟨hd, e⟩
    · exact .inl ⟨e, by omega, by omega⟩
    · exact .inl ⟨e, by omega, by omega⟩
  · rcases hd1 _ _ hs with ⟨hd, e⟩ | ⟨_, e, _⟩ | ⟨e, _⟩
    · rw [e]; exact (h.apart i b hb hd).2.2
    · rw [e]; exact h.fg
    · rw [e]; exact h.fg
end
end Go.Proofs.YthbmknpbcgnabaaGreatDoor
namespace Go.Proofs.YthbmknpbcgnabaaGreatDoor
open Go.RowKit Dsk
def Zb : List Value := List.replicate 72 (.int .u8 0) ++ .pointer none :: List.replicate 72 (.int .u8 0)
theorem Zb_length : Zb.length = 145 := by simp [Zb]
theorem Zb_cells (p : Nat) : Zb = cellsB Blk.zero p := by
  unfold Zb cellsB Blk.zero z72
  rw [List.map_replicate]
  rfl
theorem infoBlk : (Tryz.prog.info? 182).map (fun i => (i.zero, i.size, i.bytes)) = some (some (.agg Zb.toArray), 145, 152) := by kernel_rfl
theorem madeBlk (n : Nat) (hn : n ≤ 512) (w : World) : (Instr.makeSlice 82 (.int .i64 (n : Int)) (.int .i64 (n : Int))).run Tryz.prog w = .ok (.slice (some ⟨w.heap.size, 0, none⟩) n n) (w.alloc (.cells (madeCells Zb.toArray (n * 145)) 182)) := by
  obtain ⟨i, hi, h⟩ := Option.map_eq_some_iff.1 infoBlk
  simp only [Prod.mk.injEq] at h
  have := run_make (P := Tryz.prog) w 82 182 i _ Tryz.underlying82 hi h.1 .i64 .i64 n n (by omega) (Int.le_refl _) (by rw [h.2.2]; omega) (by omega)
  rw [h.2.1] at this
  exact this
theorem madeHere (w : World) (n i : Nat) (hi : i < n) (p : Nat) : Here (w.alloc (.cells (madeCells Zb.toArray (n * 145)) 182)) w.heap.size (i * 145) (cellsB Blk.zero p) := by
  have h0 := (Row.new w 182 (madeCells Zb.toArray (n * 145)).toList).here
  rw [Array.toArray_toList] at h0
  have h1 := h0.part (i * 145) 145
  rw [Nat.zero_add] at h1
  have e : ((madeCells Zb.toArray (n * 145)).toList.drop (i * 145)).take 145 = cellsB Blk.zero p := by
    rw [← Zb_cells p]
    apply List.ext_getElem?
    intro j
    rw [List.getElem?_take]
    by_cases hj : j < 145
    · rw [if_pos hj, List.getElem?_drop, Array.getElem?_toList, madeCells, Array.getElem?_map, Array.getElem?_range, if_pos (by omega), Option.map_some]
      have hs : Zb.toArray.size = 145 := by rw [List.size_toArray, Zb_length]
      rw [hs, show (i * 145 + j) % 145 = j by omega, List.getElem?_eq_getElem (by rw [Zb_length]; exact hj)]
      rw [getElem!_pos Zb.toArray j (by rw [hs]; exact hj)]
      rfl
    · rw [if_neg hj, List.getElem?_eq_none (by rw [Zb_length]; omega)]
  rw [e] at h1
  exact h1
set_option maxRecDepth 100000 in
set_option maxHeartbeats 400000 in
theorem DNew_any (n : Nat) (h1 : 1 ≤ n) (h2 : n ≤ 512) (w : World) :
    Calls Tryz.prog 8 #[.int .i64 n] w fun e w' => ∃ D F, e = .returned (.tuple #[.pointer (some ⟨D, 0, none⟩), .int .i64 0]) ∧ DiskAt w' F D (List.replicate n Blk.zero) ∧ (∀ k, F k → w.heap.size ≤ k) ∧ Below w.heap.size w w' := by
  have hmk := madeBlk n h2
  have HF : Hid (∀ w', w' = (w.alloc (.cells (madeCells Zb.toArray (n * 145)) 182)).alloc (.cells #[.slice (some ⟨w.heap.size, 0, none⟩) n n] 84) → DiskAt w' (fun k => w.heap.size ≤ k ∧ k < w.heap.size + 2) (w.heap.size + 1) (List.replicate n Blk.zero) ∧ Below w.heap.size w w') := by
    rintro w' rfl
    have hz : ∀ (i : Nat) (b : Blk), (List.replicate n Blk.zero)[i]? = some b → b = Blk.zero ∧ i < n := fun i b hb => by
      rw [List.getElem?_replicate] at hb
      split at hb
      · injection hb with hb; exact ⟨hb.symm, by assumption⟩
      · cases hb
    constructor
    · refine ⟨w.heap.size, fun _ => 0, ?_, fun i b hb => ?_, fun i b hb hd => ?_, fun i b hb => ?_, fun i j b c hb _ hd => ?_, fun i b hb hd => ?_, by omega, ⟨by omega, by omega⟩, ⟨by omega, by omega⟩, fun k hk => by simp; exact hk.2, by simp; omega⟩
      · have := (Row.newAt (w := w.alloc (.cells (madeCells Zb.toArray (n * 145)) 182)) 84 [.slice (some ⟨w.heap.size, 0, none⟩) n n] (by simp)).here (g := w.heap.size + 1)
        rwa [List.length_replicate]
      · obtain ⟨rfl, hi⟩ := hz i b hb
        exact (madeHere w n i hi 0).alloc _
      · obtain ⟨rfl, hi⟩ := hz i b hb; cases hd
      · obtain ⟨rfl, hi⟩ := hz i b hb; exact Blk.zero_ok
      · obtain ⟨rfl, hi⟩ := hz i b hb; cases hd
      · obtain ⟨rfl, hi⟩ := hz i b hb; cases hd
    · exact ((Below.refl _ _).alloc (Nat.le_refl _) _).alloc (by simp) _
  generalize List.replicate n Blk.zero = L at *
  generalize madeCells Zb.toArray (n * 145) = mc at *
  go_enter Tryz.func8, Tryz.ntmps8
  go_wp2
  go_ret2
  obtain ⟨h3, h4⟩ := HF.out _ rfl
  exact ⟨_, _, rfl, h3, fun k hk => hk.1, h4⟩
end Go.Proofs.YthbmknpbcgnabaaGreatDoor
namespace Go.Proofs.YthbmknpbcgnabaaGreatDoor
open Go.RowKit Dsk
set_option maxRecDepth 100000 in
set_option maxHeartbeats 1000000 in
theorem Deach_any (k : FuncId) (caps : Array Value) (D g n : Nat) (hn : n ≤ 512) (dirty : Nat → Bool) (ps : Nat → Nat) (J : Nat → World → Prop) (w : World)
    (hEn : ∀ (args : Array Value) (W : World), (callFunc k args).run Tryz.prog W = .ok (.enter k args) W)
    (hB : Calls Tryz.prog 70 #[.pointer (some ⟨D, 0, none⟩)] w fun e w' => e = .returned (.int .i64 n) ∧ w' = w)
    (hAt : ∀ (i : Nat) W, i < n → J i W → Calls Tryz.prog 63 #[.pointer (some ⟨D, 0, none⟩), .int .i64 i] W fun e w' => e = .returned (.pointer (some ⟨g, i * 145, none⟩)) ∧ w' = W)
    (hPtr : ∀ (i : Nat) W, i < n → J i W → W.cell? ⟨g, i * 145 + 72, none⟩ = some (.pointer (if dirty i then some ⟨ps i, 0, none⟩ else none)))
    (hDo : ∀ (i : Nat) W, i < n → J i W → dirty i = true → Calls Tryz.prog k (#[.pointer (some ⟨g, i * 145, none⟩)] ++ caps) W fun e w' => e = .returned (.tuple #[]) ∧ J (i + 1) w')
    (hSkip : ∀ (i : Nat) W, i < n → J i W → dirty i = false → J (i + 1) W) (h0 : J 0 w) :
    Calls Tryz.prog 65 #[.pointer (some ⟨D, 0, none⟩), .func (.func k) #[] caps] w fun e w' => e = .returned (.tuple #[]) ∧ J n w' := by
  have HB := Lib.hid hB
  have HAt := Lib.hid hAt
  have HP := Lib.hid hPtr
  have HDo := Lib.hid hDo
  have HS := Lib.hid hSkip
  have H0 := Lib.hid h0
  clear hB hAt hPtr hDo hSkip h0
  go_enter Tryz.func65, Tryz.ntmps65
  go_wp2_with fail
  refine HB.out.mono ?_
  rintro e w1 ⟨rfl, rfl⟩
  clear HB
  go_wp2
  go_loopw [8] (fun i wr => ∃ m : Nat, m ≤ n ∧ i = .int .i64 m ∧ Hid (J m wr)) (fun i _ => n - (intOf i).toNat)
  case atStart => exact ⟨0, by omega, rfl, H0⟩
  case round =>
    obtain ⟨m, hm, rfl, HJ⟩ := hrel
    clear H0
    by_cases hlt : m < n
    · have HA := Lib.hid (HAt.out m wr hlt HJ.out)
      have hp := HP.out m wr hlt HJ.out
      by_cases hd : dirty m = true
      · have HD := Lib.hid (HDo.out m wr hlt HJ.out hd)
        rw [hd, if_pos rfl] at hp
        clear hd HAt HP HDo HS
        go_wp2_with fail
        refine HA.out.mono ?_
        rintro e w2 ⟨rfl, rfl⟩
        go_wp2_with fail
        refine HD.out.mono ?_
        rintro e w3 ⟨rfl, hJ3⟩
        have HJ3 := Lib.hid hJ3
        clear hJ3 HD HJ hp HA
        go_wp2
        go_roundw
        case rel => exact ⟨m + 1, by omega, by go_num, HJ3⟩
        case measure => simp [intOf]; omega
      · have hd' : dirty m = false := by simpa using hd
        have HJ' := Lib.hid (HS.out m wr hlt HJ.out hd')
        rw [if_neg hd] at hp
        clear hd hd' HAt HP HDo HS HJ
        go_wp2_with fail
        refine HA.out.mono ?_
        rintro e w2 ⟨rfl, rfl⟩
        go_wp2_with fail
        go_roundw
        case rel => exact ⟨m + 1, by omega, by go_num, HJ'⟩
        case measure => simp [intOf]; omega
    · obtain rfl : m = n := by omega
      go_wp2
      go_end0
      exact ⟨rfl, HJ.out⟩
end Go.Proofs.YthbmknpbcgnabaaGreatDoor
namespace Go.Proofs.YthbmknpbcgnabaaGreatDoor
open Go.RowKit Dsk
section
variable {w w' : World} {F : Nat → Prop} {D g : Nat} {ps : Nat → Nat} {L : List Blk} {S : Nat → Nat → Prop}
theorem DiskW.settled (h : DiskW w F D g ps L) (hc : Chg S w w') {i : Nat} {b : Blk} (hb : L[i]? = some b) (k : Bool)
    (hS : ∀ c o, c < w.heap.size → F c → S c o → c = g ∧ i * 145 ≤ o ∧ o < i * 145 + 73)
    (h1 : Here w' g (i * 145 + 72) [.pointer none]) (h2 : Here w' g (i * 145) (if k then b.cur.map V8 else b.dur.map V8)) :
    DiskW w' F D g ps (L.set i (b.settle k)) := by
  have hok := h.ok i b hb
  have hc' : Chg (fun c o => (c = g ∧ i * 145 ≤ o ∧ o < i * 145 + 73) ∨ ¬ F c) w w' := hc.mono fun c o hl hs => by
    by_cases hf : F c
    · exact .inl (hS c o hl hf hs)
    · exact .inr hf
  have hi := (List.getElem?_eq_some_iff.1 hb).1
  have hgo : ∀ j, 73 ≤ j → j < 145 → ¬ ((g = g ∧ i * 145 ≤ i * 145 + j ∧ i * 145 + j < i * 145 + 73) ∨ ¬ F g) := fun j hj _ hs => by
    rcases hs with hs | hs
    · omega
    · exact hs h.fg
  have hother : ∀ (m : Nat) (c : Blk), L[m]? = some c → m ≠ i → Here w' g (m * 145) (cellsB c (ps m)) := fun m c hm hne => (h.row m c hm).chg hc' fun j hj hs => by
    rw [cellsB_length (h.ok m c hm)] at hj
    rcases hs with hs | hs
    · omega
    · exact hs h.fg
  have hget : ∀ (m : Nat) (c : Blk), (L.set i (b.settle k))[m]? = some c → (m = i ∧ c = b.settle k) ∨ (m ≠ i ∧ L[m]? = some c) := fun m c hm => by
    by_cases e : m = i
    · subst e
      rw [List.getElem?_set_self hi] at hm
      injection hm with hm
      exact .inl ⟨rfl, hm.symm⟩
    · rw [List.getElem?_set_ne (fun e' => e e'.symm)] at hm
      exact .inr ⟨e, hm⟩
  refine ⟨?_, fun m c hm => ?_, fun m c hm hd => ?_, fun m c hm => ?_, fun m n c d hm hn hd hd' e => ?_, fun m c hm hd => ?_, h.dg, h.fD, h.fg, fun c hf => Nat.lt_of_lt_of_le (h.lt c hf) hc.size, by simp; exact h.few⟩
  · rw [List.length_set]
    exact h.head.chg hc' fun j _ hs => by
      rcases hs with hs | hs
      · exact h.dg hs.1
      · exact hs h.fD
  · rcases hget m c hm with ⟨rfl, rfl⟩ | ⟨hne, hm⟩
    · have e1 : ((b.settle k).dur.map V8).length = 72 := V8_length _ 72 (Blk.settle_ok hok k).dur
      refine Here.append ?_ ?_
      · show Here w' g (m * 145) ((if k then b.cur else b.dur).map V8)
        cases k
        · exact h2
        · exact h2
      · rw [e1]
        have h3 : Here w' g (m * 145 + 73) (b.past.map V8) := (h.past hb).chg hc' fun j hj hs => by
          rw [V8_length _ 72 hok.past] at hj
          exact hgo (73 + j) (by omega) (by omega) (by rw [show m * 145 + (73 + j) = m * 145 + 73 + j by omega]; exact hs)
        exact h1.append h3
    · exact hother m c hm hne
  · rcases hget m c hm with ⟨rfl, rfl⟩ | ⟨hne, hm⟩
    · cases hd
    · refine (h.wr m c hm hd).chg hc' fun j _ hs => ?_
      have ha := h.apart m c hm hd
      rcases hs with hs | hs
      · exact ha.2.1 hs.1
      · exact hs ha.2.2
  · rcases hget m c hm with ⟨rfl, rfl⟩ | ⟨hne, hm⟩
    · exact Blk.settle_ok hok k
    · exact h.ok m c hm
  · rcases hget m c hm with ⟨rfl, rfl⟩ | ⟨_, hm⟩
    · cases hd
    · rcases hget n d hn with ⟨rfl, rfl⟩ | ⟨_, hn⟩
      · cases hd'
      · exact h.inj m n c d hm hn hd hd' e
  · rcases hget m c hm with ⟨rfl, rfl⟩ | ⟨_, hm⟩
    · cases hd
    · exact h.apart m c hm hd
end
set_option maxRecDepth 100000 in
set_option maxHeartbeats 1000000 in
theorem DFlush1_any (g o p : Nat) (cs ds : List Value) (w : World)
    (hp : Here w g (o + 72) [.pointer (some ⟨p, 0, none⟩)]) (hc : Here w p 0 cs) (hd : Here w g o ds)
    (l1 : cs.length = 72) (l2 : ds.length = 72) (c1 : cs.toArray.all (·.oneCell') = true) :
    Calls Tryz.prog 142 #[.pointer (some ⟨g, o, none⟩)] w fun e w' => e = .returned (.tuple #[]) ∧
      Here w' g (o + 72) [.pointer none] ∧ Here w' g o cs ∧ Chg (fun b j => b = g ∧ o ≤ j ∧ j < o + 73) w w' := by
  have HS := Lib.hid (Dsettle_any g o p true cs ds w hp hc hd l1 l2 c1)
  clear hp hc hd l1 l2 c1
  go_enter Tryz.func142, Tryz.ntmps142
  go_wp2_with fail
  refine HS.out.mono ?_
  rintro e w1 ⟨rfl, h1, h2, h3⟩
  have HE : Hid (_ ∧ _ ∧ _) := ⟨h1, h2, h3⟩
  clear h1 h2 h3 HS
  go_wp2
  go_end0
  exact ⟨rfl, HE.out⟩
theorem at_bool {w : World} {b off : Nat} {l : List Bool} (h : Sees w b off (l.map Value.bool)) (i : Nat) (hi : i < l.length) : w.cell? ⟨b, off + i, none⟩ = some (.bool (l.getD i false)) :=
  h.at_ (by rw [List.getElem?_map, List.getElem?_eq_getElem hi]; simp [hi])
set_option maxRecDepth 100000 in
set_option maxHeartbeats 1000000 in
theorem DCrash1_any (g o p pc kc m : Nat) (A : Option Addr) (nk cap : Nat) (bs : List Bool) (hnk : bs.length = nk) (hm : m ≤ 512) (cs ds : List Value) (w : World)
    (hp : Here w g (o + 72) [.pointer (some ⟨p, 0, none⟩)]) (hc : Here w p 0 cs) (hd : Here w g o ds)
    (l1 : cs.length = 72) (l2 : ds.length = 72) (c1 : cs.toArray.all (·.oneCell') = true)
    (hpl : Here w pc 0 [.int .i64 m]) (hkc : Here w kc 0 [.slice A nk cap]) (hk : From w (.slice A nk cap) (bs.map Value.bool)) (hpg : pc ≠ g) :
    Calls Tryz.prog 66 #[.pointer (some ⟨g, o, none⟩), .pointer (some ⟨pc, 0, none⟩), .pointer (some ⟨kc, 0, none⟩)] w fun e w' => e = .returned (.tuple #[]) ∧
      Here w' g (o + 72) [.pointer none] ∧ Here w' g o (if bs.getD m false then cs else ds) ∧ Here w' pc 0 [.int .i64 ((m + 1 : Nat) : Int)] ∧ Chg (fun b j => (b = g ∧ o ≤ j ∧ j < o + 73) ∨ b = pc) w w' := by
  have HS : Hid (∀ k, Calls Tryz.prog 67 #[.pointer (some ⟨g, o, none⟩), .bool k] w fun e w' => e = .returned (.tuple #[]) ∧
      Here w' g (o + 72) [.pointer none] ∧ Here w' g o (if k then cs else ds) ∧ Here w' pc 0 [.int .i64 m] ∧ Chg (fun b j => (b = g ∧ o ≤ j ∧ j < o + 73) ∨ b = pc) w w') := fun k => by
    refine (Dsettle_any g o p k cs ds w hp hc hd l1 l2 c1).mono ?_
    rintro e w' ⟨rfl, h1, h2, h3⟩
    exact ⟨rfl, h1, h2, hpl.chg h3 fun j _ hs => hpg hs.1, h3.mono fun b j _ hs => .inl hs⟩
  have c1 := hpl.head (j := 0) rfl
  have c2 := hkc.head (j := 0) rfl
  have HPG := Lib.hid hpg
  have HK := Lib.hid hk
  have HN := Lib.hid hnk
  clear hp hc hd l1 l2 hpl hkc hk hpg hnk
  have fin : ∀ (k : Bool) (w1 : World), (Here w1 g (o + 72) [.pointer none] ∧ Here w1 g o (if k then cs else ds) ∧ Here w1 pc 0 [.int .i64 m] ∧ Chg (fun b j => (b = g ∧ o ≤ j ∧ j < o + 73) ∨ b = pc) w w1) →
      (w1.cell? ⟨pc, 0, none⟩ = some (.int .i64 m) ∧ w1.frozen? ⟨pc, 0, none⟩ = false) ∧ Hid (Here (w1.setCell ⟨pc, 0, none⟩ (.int .i64 ((m : Int) + 1))) g (o + 72) [.pointer none] ∧ Here (w1.setCell ⟨pc, 0, none⟩ (.int .i64 ((m : Int) + 1))) g o (if k then cs else ds) ∧ Here (w1.setCell ⟨pc, 0, none⟩ (.int .i64 ((m : Int) + 1))) pc 0 [.int .i64 ((m + 1 : Nat) : Int)] ∧ Chg (fun b j => (b = g ∧ o ≤ j ∧ j < o + 73) ∨ b = pc) w (w1.setCell ⟨pc, 0, none⟩ (.int .i64 ((m : Int) + 1)))) := by
    rintro k w1 ⟨h1, h2, h3, h4⟩
    refine ⟨⟨h3.head (j := 0) rfl, h3.headFree (j := 0) (by simp)⟩, h1.putOff (fun e => HPG.out e.symm) _, h2.putOff (fun e => HPG.out e.symm) _, ?_, h4.setCell rfl (fun _ => .inr rfl) (by rw [h3.head (j := 0) rfl]; rfl) _⟩
    have := h3.put 0 (by simp) (.int .i64 ((m : Int) + 1))
    exact this
  have HFin := Lib.hid fin
  clear fin
  go_enter Tryz.func66, Tryz.ntmps66
  by_cases hlt : m < nk
  · obtain ⟨A', cap', hA, hs⟩ := HK.out.parts
    injection hA with hA1 hA2 hA3
    subst hA1
    obtain ⟨bb, bo, rfl, hbl, hsee⟩ := hs (by rw [List.length_map, HN.out]; omega)
    have hcell := at_bool hsee m (by rw [HN.out]; exact hlt)
    generalize bs.getD m false = k at *
    clear hA2 hA3 hs hsee hbl HK HN
    cases k
    all_goals
      go_wp2_with fail
      refine (HS.out _).mono ?_
      rintro e w1 ⟨rfl, h1⟩
      obtain ⟨⟨hc1, hf1⟩, HE⟩ := HFin.out _ w1 h1
      clear h1 HS HFin c1 c2 hcell
      go_wp2
      go_end0
      exact ⟨rfl, HE.out⟩
  · have hg : bs.getD m false = false := by rw [List.getD_eq_getElem?_getD, List.getElem?_eq_none (by rw [HN.out]; omega)]; rfl
    rw [hg]
    clear HK HN hg
    go_wp2_with fail
    refine (HS.out false).mono ?_
    rintro e w1 ⟨rfl, h1⟩
    obtain ⟨⟨hc1, hf1⟩, HE⟩ := HFin.out false w1 h1
    clear h1 HS HFin c1 c2
    go_wp2
    go_end0
    exact ⟨rfl, HE.out⟩
end Go.Proofs.YthbmknpbcgnabaaGreatDoor
