/-
  THE DEEDS of the law FilePlays; what its regions that draw their order lean on; the calls beside all that lies.
-/
import Derived.Test.YtiafmghdiidniaaLP
namespace Go.Proofs.Ytiafmghdiidniaa
open Go.RowKit Cdc Inn Fil

structure FDeed where
  what : Int
  f : Int
  off : Int
  n : Int
  v : Value
  b : List UInt8
def FDeed.cells (d : FDeed) : List Value := [.int .i64 d.what, .int .i64 d.f, .int .i64 d.off, .int .i64 d.n, d.v]
structure FDeed.ok (w : World) (d : FDeed) : Prop where
  arg : Arg w d.v d.b
  i1 : Inn.In64 d.what
  i2 : Inn.In64 d.f
  i3 : Inn.In64 d.off
  i4 : Inn.In64 d.n
def FDeeds (w : World) (v : Value) (l : List FDeed) : Prop :=
  ∃ A cap, v = .slice A l.length cap ∧ (0 < l.length → ∃ b o, A = some ⟨b, o, none⟩ ∧ b < w.heap.size ∧ ∀ (j : Nat) (d : FDeed), l[j]? = some d → Sees w b (o + j * 5) d.cells) ∧ ∀ d ∈ l, d.ok w
theorem infoFd : (Try.prog.info? 43).map (·.size) = some 5 := by kernel_rfl
theorem infoIno : (Try.prog.info? 40).map (·.size) = some 7 := by kernel_rfl

/-- What the loads of a round lean on. -/
structure PlS (X : World) (L : Lay14) (db : Nat) (g : Geo) (f : Nat) (x : Ino) (fs : List (List UInt8)) (dw df do' dn : Int) (dv : Value) : Prop where
  geo : Row X L.gb 23 [.int .i64 g.n, .int .i64 g.k]
  ino : X.rangeAt L.ib (f * 7) (x.l.map VI)
  deed : Row X db 43 [.int .i64 dw, .int .i64 df, .int .i64 do', .int .i64 dn, dv]
  fl : FlAt X L.ob L.lb g fs
section
variable {X : World} {L : Lay14} {db : Nat} {g : Geo} {f : Nat} {x : Ino} {fs : List (List UInt8)} {dw df do' dn : Int} {dv : Value}
theorem PlS.cells (h : PlS X L db g f x fs dw df do' dn dv) : X.cell? ⟨L.gb, 0, none⟩ = some (.int .i64 g.n) ∧ X.cell? ⟨L.gb, 1, none⟩ = some (.int .i64 g.k)
    ∧ X.cell? ⟨db, 0, none⟩ = some (.int .i64 dw) ∧ X.cell? ⟨db, 1, none⟩ = some (.int .i64 df) ∧ X.cell? ⟨db, 2, none⟩ = some (.int .i64 do') ∧ X.cell? ⟨db, 3, none⟩ = some (.int .i64 dn) ∧ X.cell? ⟨db, 4, none⟩ = some dv :=
  ⟨h.geo.cell 0, h.geo.cell 1, h.deed.cell 0, h.deed.cell 1, h.deed.cell 2, h.deed.cell 3, h.deed.cell 4⟩
theorem PlS.row (h : PlS X L db g f x fs dw df do' dn dv) : X.cell? ⟨L.ob, 2, none⟩ = some (.slice (some ⟨L.lb, 0, none⟩) 4 4) := h.fl.head.cell 2
theorem PlS.bytes (h : PlS X L db g f x fs dw df do' dn dv) : X.cell? ⟨L.ib, f * 7 + 1, none⟩ = some (.int .i64 x.b) := h.ino 1 _ rfl
end
section
variable {C : Stor} {w X : World} {L : Lay14} {Z : Nat → Prop} {g : Geo} {l : List Ino} {fs bl : List (List UInt8)}
theorem PlW.s (h : PlW C w X L Z g l fs bl) {db f : Nat} {x : Ino} {dw df do' dn : Int} {dv : Value} (hx : l[f]? = some x) (hd : Row X db 43 [.int .i64 dw, .int .i64 df, .int .i64 do', .int .i64 dn, dv]) : PlS X L db g f x fs dw df do' dn dv :=
  ⟨h.geo, (h.ino f x hx).1, hd, h.fl⟩
/-- A row beside the store stays when the store is called. -/
theorem PlW.rowZ {X' : World} (hc : Chg (FrmF w (fun k => L.Y k ∨ Z k)) X X') {b : Nat} {t : TypeId} {cs : List Value} (hr : Row X b t cs) (hz : Z b) : Row X' b t cs := hr.chg hc fun _ k => k.2 (.inr hz)
theorem PlW.resize (K : FileC C) (h : PlW C w X L Z g l fs bl) (hg : gmay g = true) (hF : Files g l bl fs) {f : Nat} {x : Ino} (hx : l[f]? = some x) (z : Int) (hz : Inn.In64 z) :
    Calls Try.prog 13 #[.iface 26 (.pointer (some ⟨L.m, 0, none⟩)), .agg #[.int .i64 g.n, .int .i64 g.k], .agg (inoC x), .int .i64 z] X fun e X' =>
      ∃ r bl', e = .returned (.tuple #[.agg (inoC r), .int .i64 (resizeE g fs f z)]) ∧ (resizeE g fs f z ≠ 0 → bl' = bl) ∧ (resizeE g fs f z = 0 → Files g (l.set f r) bl' (resizeF fs f z)) ∧ PlW C w X' L Z g l fs bl' ∧ Chg (FrmF w (fun k => L.Y k ∨ Z k)) X X' := by
  obtain ⟨g1, g2, g3, g4, _⟩ := gmay_iff.1 hg
  have hgi : geoIn g := ⟨⟨by omega, by omega⟩, ⟨by omega, by omega⟩⟩
  have hm := List.mem_of_getElem? hx
  refine (h.sto.resize K g x z hgi (fits_of (hF.apart.may x hm)) hz).mono ?_
  rintro e X' ⟨r, h', bl', rfl, hd, hs, hc⟩
  obtain ⟨rfl, h2, h3⟩ := hd.file l f fs hg hF hx
  exact ⟨r, bl', rfl, h2, h3, h.called hs hc, hc⟩
theorem PlW.write (K : FileC C) (h : PlW C w X L Z g l fs bl) (hg : gmay g = true) (hF : Files g l bl fs) {f : Nat} {x : Ino} (hx : l[f]? = some x) (off : Int) (ho : Inn.In64 off) (v : Value) (b : List UInt8) (hb : b.length ≤ 1000) (hA : Arg w v b) :
    Calls Try.prog 15 #[.iface 26 (.pointer (some ⟨L.m, 0, none⟩)), .agg #[.int .i64 g.n, .int .i64 g.k], .agg (inoC x), .int .i64 off, v] X fun e X' =>
      ∃ r bl', e = .returned (.tuple #[.agg (inoC r), .int .i64 (writeE g fs f off b)]) ∧ (writeE g fs f off b ≠ 0 → bl' = bl) ∧ (writeE g fs f off b = 0 → Files g (l.set f r) bl' (writeF fs f off b)) ∧ PlW C w X' L Z g l fs bl' ∧ Chg (FrmF w (fun k => L.Y k ∨ Z k)) X X' := by
  obtain ⟨g1, g2, g3, g4, _⟩ := gmay_iff.1 hg
  have hgi : geoIn g := ⟨⟨by omega, by omega⟩, ⟨by omega, by omega⟩⟩
  have hm := List.mem_of_getElem? hx
  refine (h.sto.write K g x off v b hgi (fits_of (hF.apart.may x hm)) ho hb (hA.below h.sto.below) fun a n c e h0 => by
    subst e
    have := hA.form
    obtain ⟨A, c', e⟩ := this
    injection e with e1 e2 e3
    subst e2
    exact .inl (Arg.blk hA a rfl h0)).mono ?_
  rintro e X' ⟨r, h', bl', rfl, hd, hs, hc⟩
  obtain ⟨rfl, h2, h3⟩ := hd.file l f fs hg hF hx
  exact ⟨r, bl', rfl, h2, h3, h.called hs hc, hc⟩
theorem PlW.read (K : FileC C) (h : PlW C w X L Z g l fs bl) (hF : Files g l bl fs) {f : Nat} {x : Ino} (hx : l[f]? = some x) (off n : Int) (ho : Inn.In64 off) (hn : Inn.In64 n) :
    Calls Try.prog 17 #[.iface 26 (.pointer (some ⟨L.m, 0, none⟩)), .agg (inoC x), .int .i64 off, .int .i64 n] X fun e X' =>
      ∃ v bs h', e = .returned (.tuple #[v, .int .i64 h']) ∧ (off < 0 ∨ n < 0 → h' = 1 ∧ bs = []) ∧ (0 ≤ off → 0 ≤ n → h' = 0 ∧ bs = piece (fs.getD f []) off n) ∧ Hid (ArgHi X' X.heap.size v bs) ∧ Below X.heap.size X X' := by
  have hm := List.mem_of_getElem? hx
  refine (h.sto.read K x off n (fits_of (hF.apart.may x hm)) ho hn).mono ?_
  rintro e X' ⟨v, bs, h', rfl, hd, hv, hb⟩
  refine ⟨v, bs, h', rfl, fun hk => ?_, fun h1 h2 => hd.file g l f fs hF hx h1 h2, hv, hb⟩
  have h1 := hd.arg (.inr hk)
  exact ⟨h1, hd.bad (by rw [h1]; decide)⟩
theorem PlW.left (K : FileC C) (h : PlW C w X L Z g l fs bl) (hg : gmay g = true) (hF : Files g l bl fs) :
    Calls Try.prog 19 #[.iface 26 (.pointer (some ⟨L.m, 0, none⟩)), .agg #[.int .i64 g.n, .int .i64 g.k]] X fun e X' => e = .returned (.tuple #[.int .i64 (gleft g fs), .int .i64 0]) ∧ Below X.heap.size X X' := by
  obtain ⟨g1, g2, g3, g4, _⟩ := gmay_iff.1 hg
  refine (h.sto.left K g ⟨⟨by omega, by omega⟩, ⟨by omega, by omega⟩⟩).mono ?_
  rintro e X' ⟨n, h', rfl, hd, hb⟩
  obtain ⟨rfl, rfl⟩ := hd.file l fs hg hF
  exact ⟨rfl, hb⟩
theorem PlW.apart (K : FileC C) (h : PlW C w X L Z g l fs bl) (hg : gmay g = true) (hF : Files g l bl fs) (cap : Nat) :
    Calls Try.prog 21 #[.pointer (some ⟨L.m, 0, none⟩), .agg #[.int .i64 g.n, .int .i64 g.k], .slice (some ⟨L.ib, 0, none⟩) 4 cap] X fun e X' => e = .returned (.bool true) ∧ Below X.heap.size X X' := by
  have := FiApart_any g hg l (by rw [h.four]; omega) hF.kind bl hF.apart L.m L.ib cap X h.sees.1 h.sees.2 (fun i hi W hW => by
    have hm := hF.apart.many
    refine ((h.sto.stay K hW).mread K i (by omega)).mono ?_
    rintro e w' ⟨r, rfl, hr, hb⟩
    exact ⟨r, rfl, hr, hb⟩)
  rwa [h.four] at this
theorem PlW.rleft (h : PlW C w X L Z g l fs bl) (hg : gmay g = true) : Calls Try.prog 20 #[.pointer (some ⟨L.ob, 0, none⟩)] X fun e X' => e = .returned (.int .i64 (gleft g fs)) ∧ Below X.heap.size X X' := RFiLeft_any g hg fs L.ob L.lb X h.fl
theorem PlW.rresize (K : FileC C) (h : PlW C w X L Z g l fs bl) (hg : gmay g = true) {f : Nat} (hf : f < 4) (z : Int) (hz : Inn.In64 z) :
    Calls Try.prog 14 #[.pointer (some ⟨L.ob, 0, none⟩), .int .i64 f, .int .i64 z] X fun e X' => e = .returned (.int .i64 (resizeE g fs f z)) ∧ PlW C w X' L Z g l (if resizeE g fs f z = 0 then resizeF fs f z else fs) bl ∧ Chg (fun k _ => k = L.lb) X X' := by
  refine (RFiResize_any g hg fs L.ob L.lb f hf z hz X h.fl).mono ?_
  rintro e X' ⟨rfl, hf', hg'⟩
  exact ⟨rfl, h.ref K hf' hg', chg_row hg' h.fl.row hf'.row (by rw [List.length_map, List.length_map, hf'.four, h.fl.four])⟩
theorem PlW.rwrite (K : FileC C) (h : PlW C w X L Z g l fs bl) (hg : gmay g = true) {f : Nat} (hf : f < 4) (off : Int) (ho : Inn.In64 off) (b : List UInt8) (hb : b.length ≤ 1000) :
    Calls Try.prog 16 #[.pointer (some ⟨L.ob, 0, none⟩), .int .i64 f, .int .i64 off, .string (strB b)] X fun e X' => e = .returned (.int .i64 (writeE g fs f off b)) ∧ PlW C w X' L Z g l (if writeE g fs f off b = 0 then writeF fs f off b else fs) bl ∧ Chg (fun k _ => k = L.lb) X X' := by
  refine (RFiWrite_any g hg fs L.ob L.lb f hf off ho b hb X h.fl).mono ?_
  rintro e X' ⟨rfl, hf', hg'⟩
  exact ⟨rfl, h.ref K hf' hg', chg_row hg' h.fl.row hf'.row (by rw [List.length_map, List.length_map, hf'.four, h.fl.four])⟩
end
theorem infoInoL (r : Ino) : (Try.prog.info? 40).map (·.size) = some (r.l.map VI).length := by rw [List.length_map, l_len]; exact infoIno
theorem infoInoS (r : Ino) : (Try.prog.info? 40).map (·.size) = some (r.l.map VI).toArray.size := by rw [List.size_toArray]; exact infoInoL r
theorem oneIn (l : List Int) : ((l.map VI).toArray).all (·.oneCell') = true := by
  rw [Array.all_eq_true_iff_forall_mem]
  intro u hu
  obtain ⟨x, _, rfl⟩ := List.mem_map.1 (by simpa using hu)
  rfl
theorem FDeeds.at_ {w : World} {B : Option Addr} {n cap : Nat} {ds : List FDeed} (h : FDeeds w (.slice B n cap) ds) {k : Nat} (hk : k < n) : ∃ (b o : Nat) (d : FDeed), B = some ⟨b, o, none⟩ ∧ b < w.heap.size ∧ d.ok w ∧ Sees w b (o + k * 5) d.cells := by
  obtain ⟨A, c, e, h1, h2⟩ := h
  injection e with e1 e2 e3
  subst e1; subst e2
  obtain ⟨b, o, rfl, hb, hs⟩ := h1 (by omega)
  exact ⟨b, o, ds[k], rfl, hb, h2 _ (List.getElem_mem _), hs k _ (List.getElem?_eq_getElem hk)⟩
theorem piece_all {s : List UInt8} (h : s.length ≤ 2304) : piece s 0 3000 = s := by
  unfold piece
  rw [show (0 : Int).toNat = 0 from rfl, List.drop_zero, List.take_of_length_le (by simp; omega)]
theorem Files.same {g : Geo} {l : List Ino} {bl fs : List (List UInt8)} (h : Files g l bl fs) {f : Nat} {x : Ino} (hx : l[f]? = some x) : Files g (l.set f x) bl fs := by
  have : l.set f x = l := by
    apply List.ext_getElem?
    intro i
    rw [List.getElem?_set]
    split
    · next e => subst e; rw [hx, if_pos (List.getElem?_eq_some_iff.1 hx).1]
    · rfl
  rwa [this]
end Go.Proofs.Ytiafmghdiidniaa
