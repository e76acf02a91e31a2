/-
  A STORE beside the law's own memory; the walk of the law's knows.
-/
import Derived.Test.YtiafmghdiidniaaLI
namespace Go.Proofs.Ytiafmghdiidniaa
open Go.RowKit Cdc Inn Fil

theorem below_chgF {w0 w w' : World} {B : Nat} {S : Nat → Nat → Prop} (h : Below B w0 w) (hB : B ≤ w.heap.size) (hc : Chg S w w') (hS : ∀ k o, S k o → B ≤ k) : Below B w0 w' :=
  h.trans ⟨hc.os, hc.tape, hc.output, hc.size, fun k hk => hc.block k (by omega) fun o hs => by have := hS k o hs; omega⟩
/-- The store m, in memory of the call's own (from w0 on) that is none of Y. -/
def Sto (C : Stor) (w0 W : World) (Y : Nat → Prop) (m : Nat) (bl : List (List UInt8)) : Prop :=
  ∃ F, C W F m bl ∧ (∀ k, F k → w0.heap.size ≤ k ∧ ¬ Y k) ∧ (∀ k, Y k → k < W.heap.size) ∧ Below w0.heap.size w0 W
def FrmF (w0 : World) (Y : Nat → Prop) : Nat → Nat → Prop := fun k _ => w0.heap.size ≤ k ∧ ¬ Y k
theorem Row.chg {w w' : World} {g : Nat} {t : TypeId} {cs : List Value} {S : Nat → Nat → Prop} (h : Row w g t cs) (hc : Chg S w w') (hn : ∀ o, ¬ S g o) : Row w' g t cs := h.same (hc.block g h.lt hn)
section
variable {C : Stor} {w0 W W' : World} {Y : Nat → Prop} {m : Nat} {bl bl' : List (List UInt8)}
theorem Sto.below (h : Sto C w0 W Y m bl) : Below w0.heap.size w0 W := by obtain ⟨F, _, _, _, hb⟩ := h; exact hb
theorem Sto.sixty (X : FileC C) (h : Sto C w0 W Y m bl) : Sixty bl := by obtain ⟨F, hC, _⟩ := h; exact X.sixty hC
theorem Sto.wrote (X : FileC C) {S : Nat → Nat → Prop} (h : Sto C w0 W Y m bl) (hc : Chg S W W') (hS : ∀ k o, k < W.heap.size → S k o → Y k ∧ w0.heap.size ≤ k) : Sto C w0 W' Y m bl := by
  obtain ⟨F, hC, hF, hY, hb⟩ := h
  have hc' : Chg (fun k _ => Y k ∧ w0.heap.size ≤ k) W W' := hc.mono fun k o hk hs => hS k o hk hs
  exact ⟨F, X.stay hC hc' fun k _ hf hs => (hF k hf).2 hs.1, hF, fun k hk => Nat.lt_of_lt_of_le (hY k hk) hc.size, below_chgF hb hb.size hc' fun k _ hk => hk.2⟩
theorem Sto.stay (X : FileC C) (h : Sto C w0 W Y m bl) (hb : Below W.heap.size W W') : Sto C w0 W' Y m bl := h.wrote X (Chg.below hb fun _ _ => False) fun _ _ _ x => x.elim
theorem Sto.also (X : FileC C) (h : Sto C w0 W Y m bl) (hb : Below W.heap.size W W') (Z : Nat → Prop) (hZ : ∀ k, Z k → Y k ∨ (W.heap.size ≤ k ∧ k < W'.heap.size)) : Sto C w0 W' Z m bl := by
  obtain ⟨F, hC, hF, hY, hb0⟩ := h
  refine ⟨F, X.stay hC (Chg.below hb fun _ _ => False) fun _ _ _ x => x, fun k hk => ⟨(hF k hk).1, fun hz => ?_⟩, fun k hk => ?_, hb0.trans (hb.mono hb0.size)⟩
  · rcases hZ k hz with h | h
    · exact (hF k hk).2 h
    · have := X.lt hC k hk; omega
  · rcases hZ k hk with h | h
    · exact Nat.lt_of_lt_of_le (hY k h) hb.size
    · exact h.2
theorem Sto.after {F : Nat → Prop} (hF : ∀ k, F k → w0.heap.size ≤ k ∧ ¬ Y k) (hY : ∀ k, Y k → k < W.heap.size) (hb : Below w0.heap.size w0 W) (h : AfterF C W F W' m bl') : Sto C w0 W' Y m bl' ∧ Chg (FrmF w0 Y) W W' := by
  obtain ⟨F', hC', hF', hc⟩ := h
  refine ⟨⟨F', hC', fun k hk => ?_, fun k hk => Nat.lt_of_lt_of_le (hY k hk) hc.size, below_chgF hb hb.size hc fun k _ hk => (hF k hk).1⟩, hc.mono fun k _ _ hk => hF k hk⟩
  rcases hF' k hk with h | h
  · exact hF k h
  · exact ⟨Nat.le_trans hb.size h, fun hy => by have := hY k hy; omega⟩
theorem Sto.make (X : FileC C) (w : World) (hb : Below w0.heap.size w0 w) (Y : Nat → Prop) (hY : ∀ k, Y k → k < w.heap.size) (g : Geo) (hg : gmay g = true) :
    Calls Try.prog 7 #[.agg #[.int .i64 g.n, .int .i64 g.k]] w fun e w' => ∃ m, e = .returned (.tuple #[.pointer (some ⟨m, 0, none⟩), .int .i64 0]) ∧ Sto C w0 w' Y m (freshB g) ∧ Below w.heap.size w w' := by
  refine (X.newOk g w hg).mono ?_
  rintro e w' ⟨m, F, rfl, hC, hF, hbw⟩
  refine ⟨m, rfl, ⟨F, hC, fun k hk => ⟨Nat.le_trans hb.size (hF k hk), fun hy => by have := hY k hy; have := hF k hk; omega⟩, fun k hk => Nat.lt_of_lt_of_le (hY k hk) hbw.size, hb.trans (hbw.mono hb.size)⟩, hbw⟩
theorem Sto.mread (X : FileC C) (h : Sto C w0 W Y m bl) (i : Nat) (hi : i < bl.length) :
    Calls Try.prog 39 #[.pointer (some ⟨m, 0, none⟩), .int .i64 i] W fun e w' => ∃ r, e = .returned (.tuple #[r, .int .i64 0]) ∧ Hid (ArgHi w' W.heap.size r (blk bl i)) ∧ Below W.heap.size W w' := by
  obtain ⟨F, hC, _⟩ := h
  exact X.mread hC i hi
theorem Sto.mwrite (X : FileC C) (h : Sto C w0 W Y m bl) (i : Nat) (v : Value) (b : List UInt8) (hi : i ≤ 1000) (hl : b.length = 64) (hA : Arg W v b) (hv : ∀ a n c, v = .slice (some a) n c → 0 < n → a.block < w0.heap.size) :
    Calls Try.prog 24 #[.pointer (some ⟨m, 0, none⟩), .int .i64 i, v] W fun e w' => ∃ h bl', e = .returned (.int .i64 h) ∧ bl'.length = bl.length ∧ Sto C w0 w' Y m bl' ∧ Chg (FrmF w0 Y) W w' := by
  obtain ⟨F, hC, hF, hY, hb⟩ := h
  refine (X.mwrite hC i v b hi hl hA fun a n c e h0 hf => by have := hv a n c e h0; have := (hF _ hf).1; omega).mono ?_
  rintro e w' ⟨h, bl', rfl, _, hn, hA'⟩
  exact ⟨h, bl', rfl, hn, Sto.after hF hY hb hA'⟩
theorem Sto.left (X : FileC C) (h : Sto C w0 W Y m bl) (g : Geo) (hg : geoIn g) :
    Calls Try.prog 19 #[.iface 26 (.pointer (some ⟨m, 0, none⟩)), .agg #[.int .i64 g.n, .int .i64 g.k]] W fun e w' => ∃ n h, e = .returned (.tuple #[.int .i64 n, .int .i64 h]) ∧ LeftDoes g bl n h ∧ Below W.heap.size W w' := by
  obtain ⟨F, hC, _⟩ := h
  exact X.left hC g hg
theorem Sto.read (X : FileC C) (h : Sto C w0 W Y m bl) (x : Ino) (off n : Int) (hx : x.fits) (ho : Inn.In64 off) (hn : Inn.In64 n) :
    Calls Try.prog 17 #[.iface 26 (.pointer (some ⟨m, 0, none⟩)), .agg (inoC x), .int .i64 off, .int .i64 n] W fun e w' =>
      ∃ v bs h, e = .returned (.tuple #[v, .int .i64 h]) ∧ ReadDoes x off n bl bs h ∧ Hid (ArgHi w' W.heap.size v bs) ∧ Below W.heap.size W w' := by
  obtain ⟨F, hC, _⟩ := h
  exact X.read hC x off n hx ho hn
theorem Sto.resize (X : FileC C) (h : Sto C w0 W Y m bl) (g : Geo) (x : Ino) (z : Int) (hg : geoIn g) (hx : x.fits) (hz : Inn.In64 z) :
    Calls Try.prog 13 #[.iface 26 (.pointer (some ⟨m, 0, none⟩)), .agg #[.int .i64 g.n, .int .i64 g.k], .agg (inoC x), .int .i64 z] W fun e w' =>
      ∃ r h bl', e = .returned (.tuple #[.agg (inoC r), .int .i64 h]) ∧ ResizeDoes g x z bl r h bl' ∧ Sto C w0 w' Y m bl' ∧ Chg (FrmF w0 Y) W w' := by
  obtain ⟨F, hC, hF, hY, hb⟩ := h
  refine (X.resize hC g x z hg hx hz).mono ?_
  rintro e w' ⟨r, h, bl', rfl, hd, hA⟩
  exact ⟨r, h, bl', rfl, hd, Sto.after hF hY hb hA⟩
theorem Sto.write (X : FileC C) (h : Sto C w0 W Y m bl) (g : Geo) (x : Ino) (off : Int) (v : Value) (b : List UInt8) (hg : geoIn g) (hx : x.fits) (ho : Inn.In64 off) (hl : b.length ≤ 1000) (hA : Arg W v b) (hv : ∀ a n c, v = .slice (some a) n c → 0 < n → a.block < w0.heap.size ∨ Y a.block) :
    Calls Try.prog 15 #[.iface 26 (.pointer (some ⟨m, 0, none⟩)), .agg #[.int .i64 g.n, .int .i64 g.k], .agg (inoC x), .int .i64 off, v] W fun e w' =>
      ∃ r h bl', e = .returned (.tuple #[.agg (inoC r), .int .i64 h]) ∧ WriteDoes g x off b bl r h bl' ∧ Sto C w0 w' Y m bl' ∧ Chg (FrmF w0 Y) W w' := by
  obtain ⟨F, hC, hF, hY, hb⟩ := h
  refine (X.write hC g x off v b hg hx ho hl hA fun a n c e h0 hf => by
    rcases hv a n c e h0 with h | h
    · have := (hF _ hf).1; omega
    · exact (hF _ hf).2 h).mono ?_
  rintro e w' ⟨r, h, bl', rfl, hd, hA⟩
  exact ⟨r, h, bl', rfl, hd, Sto.after hF hY hb hA⟩
end

theorem g82 : gmay ⟨8, 2⟩ = true := by decide +kernel
theorem ex_left : gleft ⟨8, 2⟩ [[]] = 6 ∧ resizeE ⟨8, 2⟩ [[]] 0 257 = 0 ∧ gleft ⟨8, 2⟩ (resizeF [[]] 0 257) = 0 ∧ resizeE ⟨8, 2⟩ (resizeF [[]] 0 257) 0 321 = 7 := by decide +kernel
theorem geo82 : geoIn ⟨8, 2⟩ := ⟨⟨by decide, by decide⟩, ⟨by decide, by decide⟩⟩
theorem i257 : Inn.In64 257 := ⟨by decide, by decide⟩
theorem i321 : Inn.In64 321 := ⟨by decide, by decide⟩
theorem fits_empty (k : Int) (h : Inn.In64 k) : (empty k).fits := by
  intro z hz
  simp only [empty, Ino.l, List.mem_cons, List.not_mem_nil, or_false] at hz
  rcases hz with rfl | rfl | rfl | rfl | rfl | rfl | rfl
  · exact h
  all_goals exact ⟨by decide, by decide⟩
end Go.Proofs.Ytiafmghdiidniaa
