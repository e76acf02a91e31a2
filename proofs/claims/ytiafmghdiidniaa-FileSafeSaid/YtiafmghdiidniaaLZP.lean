/-
  THE WALK of the landed edit, for any change.
-/
import Derived.Test.YtiafmghdiidniaaLZO
import Derived.Laws.ResultCell
namespace Go.Proofs.Ytiafmghdiidniaa
set_option maxRecDepth 100000
set_option maxHeartbeats 1000000
open Go.RowKit Cdc Inn Fil

namespace Fil
/-- The draft at first. -/
def draft0 (x : Ino) (bl : List (List UInt8)) : Dr := ⟨allOf x bl, x.b, fun _ => none⟩
end Fil
def draftL (a b c d e f : Value) : List Value := [a, b, c, d, e, f] ++ List.replicate 128 (Value.slice none 0 0)
theorem draft_zero : Try.zeroCells92 = (draftL .nilIface (.int .i64 0) (.int .i64 0) (.int .i64 0) (.int .i64 0) (.slice none 0 0)).toArray := by kernel_rfl
theorem draft_cells (a b c d e f : Value) : (((((Try.zeroCells92.setIfInBounds 0 a).setIfInBounds 1 b).setIfInBounds 2 c).setIfInBounds 3 d).setIfInBounds 4 e).setIfInBounds 5 f = (draftL a b c d e f).toArray := by
  rw [draft_zero]
  simp only [List.setIfInBounds_toArray, draftL, List.cons_append, List.set_cons_zero, List.set_cons_succ]
theorem draft_lies {w : World} {B m q ln c : Nat} {gn gk xk xb : Int} {l : List Nat} (hB : B ≤ w.heap.size) (hO : Own w B 3 (.slice (some ⟨q, 0, none⟩) ln c) (VNs l)) (hl : ln = l.length) (hc : ln ≤ c) :
    DrL (w.alloc (.cells (((((Try.zeroCells92.setIfInBounds 0 (sto m)).setIfInBounds 1 (.int .i64 gn)).setIfInBounds 2 (.int .i64 gk)).setIfInBounds 3 (.int .i64 xk)).setIfInBounds 4 (.int .i64 xb) |>.setIfInBounds 5 (.slice (some ⟨q, 0, none⟩) ln c)) 92)) B w.heap.size m ⟨gn, gk⟩ xk ⟨l, xb, fun _ => none⟩ (.slice (some ⟨q, 0, none⟩) ln c) (fun _ => .slice none 0 0) (fun _ => 0) := by
  rw [draft_cells]
  have hR := Row.new w 92 (draftL (sto m) (.int .i64 gn) (.int .i64 gk) (.int .i64 xk) (.int .i64 xb) (.slice (some ⟨q, 0, none⟩) ln c))
  have hq := (hO.lt (k := q) rfl).2
  refine ⟨⟨hR.cell 0, hR.cell 1, hR.cell 2, hR.cell 3, hR.cell 4, hR.cell 5, fun i hi => ?_, fun o => hR.free o⟩, hB, fun i _ _ => rfl, (fun i _ b hb => nomatch hb), (fun i j _ _ h => absurd rfl h), hO.alloc _, fun e => ?_, q, c, by rw [hl], by rw [← hl]; exact hc⟩
  · rw [hR.cell (6 + i), draftL, List.getElem?_append_right (by simp)]
    show (List.replicate 128 (Value.slice none 0 0))[6 + i - 6]? = _
    rw [Nat.add_sub_cancel_left, List.getElem?_replicate, if_pos hi]
  · injection e with e
    have hq' : q < w.heap.size := hq
    have e' : q = w.heap.size := e
    omega
/-- What edit hands back, and leaves. -/
def EditP (x : Ino) (bl : List (List UInt8)) (RR : Except Int Dr) (r : Ino) (h : Int) (bl' : List (List UInt8)) : Prop :=
  if numsE x bl ≠ 0 then r = zero ∧ h = numsE x bl ∧ bl' = bl
  else match RR with
    | .error er => r = zero ∧ h = er ∧ bl' = bl
    | .ok d => bl' = d.saved bl ∧ h = d.saveE bl ∧ r = if d.saveE bl = 0 then d.ino x.k else zero
theorem z7size : (Try.prog.info? 40).map (·.size) = some (#[.int .i64 0, .int .i64 0, .int .i64 0, .int .i64 0, .int .i64 0, .int .i64 0, .int .i64 0] : Array Value).size := by kernel_rfl
theorem z7len : (#[.int .i64 0, .int .i64 0, .int .i64 0, .int .i64 0, .int .i64 0, .int .i64 0, .int .i64 0] : Array Value).size = Z7.length := rfl
theorem z7one : (#[.int .i64 0, .int .i64 0, .int .i64 0, .int .i64 0, .int .i64 0, .int .i64 0, .int .i64 0] : Array Value).all (·.oneCell') = true := oneIs [0, 0, 0, 0, 0, 0, 0]
theorem setRow_mem {w w4 : World} {F : Nat → Prop} {m R cap : Nat} {bl : List (List UInt8)} {vs : Nat → Value} {gs : Nat → Nat} (h : MemL w4 F m bl R cap vs gs) (hF : ∀ k, F k → k < w.heap.size) (cs : Array Value) : MemL (w4.setRow (w.heap.size + 1 + 1) cs) F m bl R cap vs gs :=
  h.block fun k hk => setRow_other w4 (w.heap.size + 1 + 1) k cs (by have := hF k hk; omega)
theorem setRow_chg {w w4 : World} {F : Nat → Prop} (h : Chg (fun k _ => F k) w w4) {g : Nat} (hg : w.heap.size ≤ g) (cs : Array Value) : Chg (fun k _ => F k) w (w4.setRow g cs) := by
  have hb : ∀ k, k < w.heap.size → (w4.setRow g cs).heap[k]? = w4.heap[k]? := fun k hk => setRow_other w4 g k cs (by omega)
  refine ⟨h.os, h.tape, h.output, by have := h.size; simpa [World.setRow] using this, fun k hk hn => (hb k hk).trans (h.block k hk hn), fun k o hk hn => ?_, fun k o hs => ?_, fun k o hk => ?_⟩
  · rw [World.cell?_of_block (w := w4) (hb k hk)]; exact h.cell k o hk hn
  · obtain ⟨u, hu⟩ := Option.isSome_iff_exists.1 hs
    rw [World.cell?_of_block (w := w4) (hb k (World.block_lt_of_cell? w _ hu))]; exact h.some k o hs
  · have := h.free k o hk
    simp only [World.frozen?, hb k hk] at this ⊢
    exact this
section
variable {w : World} {F : Nat → Prop} {m R cap : Nat} {bl : List (List UInt8)} {vs : Nat → Value} {gs : Nat → Nat}
theorem FiNums_any (h : MemL w F m bl R cap vs gs) (x : Ino) (hx : odd x = false) : Calls Try.prog 35 #[sto m, .agg (inoC x)] w fun e w' => NumsR w x bl e w' := by
  by_cases h4 : 4 < data x.b
  · by_cases hd : x.d.toNat < bl.length
    · exact FiNums_in h x hx h4 hd
    · exact FiNums_out h x hx h4 hd
  · exact FiNums_few x hx h4 _
theorem results_row_tmpF {P : Program} {fn : Func} {p u : Tmp} {ty : TypeId} (h : fn.results = #[.cell p ty, .tmp u]) (tmps : Array Value) (w : World) (g : Nat) (t : TypeId) (cs : Array Value) (fr : Nat × Nat) (d : TypeDesc)
    (hp : tmps.getD p undef = .pointer (some ⟨g, 0, none⟩)) (hg : w.heap[g]? = some (.cells cs t fr))
    (hu : P.underlying ty = some d) (hd : (match d with | .struct _ | .array _ _ => true | _ => false) = true) (hi : (P.info? ty).map (·.size) = some cs.size) :
    (results fn tmps).run P w = .ok (.tuple #[.agg cs, tmps.getD u undef]) w := by
  rw [results_cell_tmp h, hp]
  simp [asAddr, run_loadVar_row w g t ty cs fr d hg hu hd hi]
theorem FiEdit_any (h : MemL w F m bl R cap vs gs) (g : Geo) (x : Ino) (hf : x.fits) (hx : odd x = false) (k : FuncId) (caps : Array Value) (RR : Except Int Dr)
    (hEn : ∀ (args : Array Value) (W : World), (callFunc k args).run Try.prog W = .ok (.enter k args) W)
    (hDo : ∀ (B : Nat) (W : World) (D : Nat) (nv : Value) (vd : Nat → Value) (gd : Nat → Nat), numsE x bl = 0 → w.heap.size ≤ B → B ≤ W.heap.size → Below w.heap.size w W → DrL W B D m g x.k (draft0 x bl) nv vd gd → Calls Try.prog k (#[.pointer (some ⟨D, 0, none⟩)] ++ caps) W fun e w' => Turns B D m g x.k W RR e w')
    (hOk' : numsE x bl = 0 → ∀ d, RR = .ok d → d.Ok) (hErr : ∀ er, RR = .error er → er ≠ 0) (hF : ∀ k, F k → k < w.heap.size) :
    Calls Try.prog 28 #[sto m, .agg #[.int .i64 g.n, .int .i64 g.k], .agg (inoC x), .func (.func k) #[] caps] w fun e w' =>
      ∃ r h bl', e = .returned (.tuple #[.agg (inoC r), .int .i64 h]) ∧ EditP x bl RR r h bl' ∧ MemL w' F m bl' R cap vs gs ∧ Chg (fun k _ => F k) w w' := by
  have HNm : Hid (∀ W, Below w.heap.size w W → Calls Try.prog 35 #[sto m, .agg (inoC x)] W fun e w' => NumsR W x bl e w') := fun W hW => FiNums_any (h.below hW) x hx
  obtain ⟨gn, gk⟩ := g
  have hinoC := inoC_l x
  obtain ⟨xk, xb, b0, b1, b2, b3, d⟩ := x
  simp only [inoC] at HNm hinoC ⊢
  obtain ⟨w0, hw0⟩ : ∃ w0, w0 = ((w.alloc (.cells #[.int .i64 gn, .int .i64 gk] 23)).alloc (.cells #[.int .i64 xk, .int .i64 xb, .int .i64 b0, .int .i64 b1, .int .i64 b2, .int .i64 b3, .int .i64 d] 40)).alloc (.cells #[.int .i64 0, .int .i64 0, .int .i64 0, .int .i64 0, .int .i64 0, .int .i64 0, .int .i64 0] 40) := ⟨_, rfl⟩
  have s0 : w0.heap.size = w.heap.size + 3 := by rw [hw0]; simp
  have HB0 : Hid (Below w.heap.size w w0) := by rw [hw0]; exact (((Below.refl _ _).alloc (Nat.le_refl _) _).alloc (by simp) _).alloc (by simp; omega) _
  have HG0 : Hid (Row w0 w.heap.size 23 [.int .i64 gn, .int .i64 gk]) := by rw [hw0]; exact ((Row.new w 23 _).alloc _).alloc _
  have HI0 : Hid (Row w0 (w.heap.size + 1) 40 [.int .i64 xk, .int .i64 xb, .int .i64 b0, .int .i64 b1, .int .i64 b2, .int .i64 b3, .int .i64 d]) := by rw [hw0]; exact Row.alloc (Row.newAt 40 _ (by simp)) _
  have HZ0 : Hid (Row w0 (w.heap.size + 1 + 1) 40 Z7) := by rw [hw0]; exact Row.newAt 40 Z7 (by simp)
  have HN0 := Lib.hid (HNm.out w0 HB0.out)
  clear HNm hinoC
  go_enter Try.func28, Try.ntmps28
  go_wp2_with fail
  rw [← hw0]
  refine HN0.out.mono ?_
  rintro e w1 ⟨v1, rfl, hv1, hB1⟩
  have HB1 : Hid (Below w.heap.size w w1) := HB0.out.trans (hB1.mono (by omega))
  have HZ1 := Lib.hid (HZ0.out.below hB1 (by omega))
  have HG1 := Lib.hid (HG0.out.below hB1 (by omega))
  have HI1 := Lib.hid (HI0.out.below hB1 (by omega))
  clear HN0 hw0 HG0 HI0 HZ0
  obtain ⟨E, HE⟩ : ∃ E, Hid (E = numsE ⟨xk, xb, b0, b1, b2, b3, d⟩ bl) := ⟨_, rfl⟩
  rw [← HE.out] at hv1 hDo ⊢
  have HDo := Lib.hid hDo
  clear hDo
  by_cases hE : E = 0
  · have hOk := hOk' (by rw [← HE.out]; exact hE)
    have hOw := hv1 hE
    have HOw : Hid (Own w1 (w.heap.size + 3) 3 v1 (VNs (allOf ⟨xk, xb, b0, b1, b2, b3, d⟩ bl))) := by rw [← s0]; exact hOw.out.1
    have hvf := hOw.out.2
    obtain ⟨q, c, hvf, hqc⟩ := hvf
    have hB13 : w.heap.size + 3 ≤ w1.heap.size := by have := hB1.size; omega
    subst hE
    obtain ⟨ln, hln⟩ : ∃ n, n = (allOf ⟨xk, xb, b0, b1, b2, b3, d⟩ bl).length := ⟨_, rfl⟩
    rw [← hln] at hvf hqc
    subst hvf
    have cg0 := HG1.out.cell 0
    have cg1 := HG1.out.cell 1
    have ci0 := HI1.out.cell 0
    have ci1 := HI1.out.cell 1
    simp only [List.getElem?_cons_zero, List.getElem?_cons_succ] at cg0 cg1 ci0 ci1
    have hLn := Lib.hid hln
    clear hv1 hOw hB1 hln hOk'
    go_wp2_with fail
    have HDL := Lib.hid (draft_lies (gn := gn) (gk := gk) (xk := xk) (xb := xb) (m := m) hB13 HOw.out hLn.out hqc)
    obtain ⟨w2, hw2⟩ : ∃ w2, w2 = (w1.alloc (.cells (((((Try.zeroCells92.setIfInBounds 0 (sto m)).setIfInBounds 1 (.int .i64 gn)).setIfInBounds 2 (.int .i64 gk)).setIfInBounds 3 (.int .i64 xk)).setIfInBounds 4 (.int .i64 xb) |>.setIfInBounds 5 (.slice (some ⟨q, 0, none⟩) ln c)) 92)) := ⟨_, rfl⟩
    have hbw2 : Below w1.heap.size w1 w2 := by rw [hw2]; exact (Below.refl _ _).alloc (Nat.le_refl _) _
    have HB2 : Hid (Below w.heap.size w w2) := HB1.out.trans (hbw2.mono HB1.out.size)
    have HZ2 := Lib.hid (HZ1.out.below hbw2 HZ1.out.lt)
    rw [← hw2] at HDL
    have hsz1 := HZ1.out.lt
    have hB23 : w.heap.size + 3 ≤ w2.heap.size := Nat.le_trans hB13 hbw2.size
    have HC := Lib.hid (HDo.out (w.heap.size + 3) w2 w1.heap.size _ _ _ trivial (by omega) hB23 HB2.out HDL.out)
    rw [← hw2]
    clear hw2 HDo HDL hbw2 HOw HZ1 HG1 HI1 cg0 cg1 ci0 ci1
    generalize w1.heap.size = D at *
    refine HC.out.mono ?_
    rintro e w3 ⟨hB3, hm3⟩
    have HB3 := Lib.hid (HB2.out.trans (hB3.mono (by omega)))
    have HZ3 := Lib.hid (HZ2.out.below hB3 (by omega))
    have HOk := Lib.hid hOk
    rcases hr : RR with er | d'
    · rw [hr] at hm3
      have he0 := hErr er hr
      have hne : (er != 0) = true := by simpa using he0
      simp only at hm3
      subst hm3
      have HP : Hid (EditP ⟨xk, xb, b0, b1, b2, b3, d⟩ bl RR zero er bl) := by
        show EditP _ _ _ _ _ _
        unfold EditP
        rw [← HE.out, if_neg (by decide), hr]
        exact ⟨rfl, rfl, rfl⟩
      clear hr he0 hErr HOk hOk hB3 HC HZ2
      go_wp2_with (refine wpList_store_row rfl 40 (.tmp 8) (.tmp 39) rfl (w.heap.size + 1 + 1) #[.int .i64 0, .int .i64 0, .int .i64 0, .int .i64 0, .int .i64 0, .int .i64 0, .int .i64 0] rfl rfl 40 _ HZ3.out z7size z7len z7one ?_)
      have hlast : (w3.setRow (w.heap.size + 1 + 1) #[.int .i64 0, .int .i64 0, .int .i64 0, .int .i64 0, .int .i64 0, .int .i64 0, .int .i64 0]).heap[w.heap.size + 1 + 1]? = some (.cells #[.int .i64 0, .int .i64 0, .int .i64 0, .int .i64 0, .int .i64 0, .int .i64 0, .int .i64 0] 40 (0, 0)) := HZ3.out.whole Z7
      have HBy := below_setRow' HB3.out (k := w.heap.size + 1 + 1) (by omega) #[.int .i64 0, .int .i64 0, .int .i64 0, .int .i64 0, .int .i64 0, .int .i64 0, .int .i64 0]
      (try simp only [Exit.inBlock, Exit.then])
      refine bodyPost_ret (v := .tuple #[.agg #[.int .i64 0, .int .i64 0, .int .i64 0, .int .i64 0, .int .i64 0, .int .i64 0, .int .i64 0], .int .i64 er]) (results_row_tmpF (p := 8) (u := 9) rfl _ _ (w.heap.size + 1 + 1) 40 _ (0, 0) _ rfl hlast Try.underlying40 rfl (by kernel_rfl)) rfl ?_
      exact ⟨zero, er, bl, rfl, HP.out, h.below HBy, Chg.below HBy _⟩
    · rw [hr] at hm3
      simp only at hm3
      obtain ⟨rfl, nv3, vs3, gs3, hL3⟩ := hm3
      have hOkd := HOk.out d' hr
      have hM3 := h.below HB3.out
      have HSv := Lib.hid (FiDSave_any hL3 hM3 (fun k hk => by have := hF k hk; omega))
      have HPe : Hid (EditP ⟨xk, xb, b0, b1, b2, b3, d⟩ bl RR (if d'.saveE bl = 0 then d'.ino xk else zero) (d'.saveE bl) (d'.saved bl)) := by
        show EditP _ _ _ _ _ _
        unfold EditP
        rw [← HE.out, if_neg (by decide), hr]
        exact ⟨rfl, rfl, rfl⟩
      have HL3 := Lib.hid hL3
      clear hr hErr HOk hOk hB3 HC HZ2 hL3 hM3
      go_wp2_with fail
      refine HSv.out.mono ?_
      rintro e w4 ⟨rfl, hm4, hc4⟩
      have HM4 := Lib.hid hm4
      have HC4 : Hid (Chg (fun k _ => F k) w w4) := (Chg.below HB3.out _).then hc4
      have hkeep : ∀ k, w.heap.size ≤ k → k < w3.heap.size → w4.heap[k]? = w3.heap[k]? := fun k hk hl => hc4.block k hl fun _ hf => by have := hF k hf; omega
      have HZ4 : Hid (Row w4 (w.heap.size + 1 + 1) 40 Z7) := HZ3.out.same (hkeep _ (by omega) HZ3.out.lt)
      have HL4 := Lib.hid (HL3.out.keep (w' := w4) fun k hk hl => hkeep k (by omega) hl)
      clear hm4 hc4 hkeep HSv HL3 HZ3
      obtain ⟨S, hS⟩ : ∃ S, S = d'.saveE bl := ⟨_, rfl⟩
      rw [← hS] at HPe ⊢
      by_cases hS0 : S = 0
      · subst hS0
        obtain ⟨nv4, vs4, gs4, hL4⟩ : ∃ nv vs gs, DrL w4 (w.heap.size + 3) D m ⟨gn, gk⟩ xk d' nv vs gs := ⟨_, _, _, HL4.out⟩
        have HIn := Lib.hid (FiDInode_any hL4 hOkd)
        rw [if_pos rfl] at HPe
        obtain ⟨rr, hrr⟩ : ∃ rr, rr = d'.ino xk := ⟨_, rfl⟩
        rw [← hrr] at HIn HPe
        obtain ⟨cs, HCs⟩ : ∃ cs, Hid (cs = inoC rr) := ⟨_, rfl⟩
        rw [← HCs.out] at HIn
        have Hsz : Hid ((Try.prog.info? 40).map (·.size) = some cs.size) := by show _ = _; rw [HCs.out]; kernel_rfl
        have Hln : Hid (Z7.toArray.size = cs.size) := by show _ = _; rw [HCs.out]; rfl
        have Hone : Hid (cs.all (·.oneCell') = true) := by show _ = _; rw [HCs.out, inoC_l]; exact oneIs _
        clear HL4 hL4 hS hrr
        go_wp2_with fail
        refine HIn.out.mono ?_
        rintro e w5 ⟨rfl, hB5⟩
        have hsz45 := HZ4.out.lt
        have HZ5 := Lib.hid (HZ4.out.below hB5 hsz45)
        have hw45 : w.heap.size ≤ w4.heap.size := by omega
        have HM5 : Hid (MemL w5 F m (d'.saved bl) R cap vs gs) := HM4.out.below hB5
        have HC5 : Hid (Chg (fun k _ => F k) w w5) := HC4.out.then (Chg.below hB5 _)
        clear HZ4 HM4 HC4 HIn hB5
        go_wp2_with (refine wpList_store_row rfl 40 (.tmp 8) (.tmp 48) rfl (w.heap.size + 1 + 1) cs rfl rfl 40 _ HZ5.out Hsz.out Hln.out Hone.out ?_)
        have hlast : (w5.setRow (w.heap.size + 1 + 1) cs).heap[w.heap.size + 1 + 1]? = some (.cells cs 40 (0, 0)) := by
          rw [HCs.out, inoC_l]; exact HZ5.out.whole _
        (try simp only [Exit.inBlock, Exit.then])
        refine bodyPost_ret (v := .tuple #[.agg cs, .int .i64 0]) (results_row_tmpF (p := 8) (u := 9) rfl _ _ (w.heap.size + 1 + 1) 40 _ (0, 0) _ rfl hlast Try.underlying40 rfl Hsz.out) rfl ?_
        exact ⟨rr, 0, _, by rw [HCs.out]; rfl, HPe.out, setRow_mem HM5.out hF _, (setRow_chg HC5.out (by omega) _)⟩
      · have hne : (S != 0) = true := by simpa using hS0
        rw [if_neg hS0] at HPe
        clear hS HL4
        go_wp2_with (refine wpList_store_row rfl 40 (.tmp 8) (.tmp 45) rfl (w.heap.size + 1 + 1) #[.int .i64 0, .int .i64 0, .int .i64 0, .int .i64 0, .int .i64 0, .int .i64 0, .int .i64 0] rfl rfl 40 _ HZ4.out z7size z7len z7one ?_)
        have hlast : (w4.setRow (w.heap.size + 1 + 1) #[.int .i64 0, .int .i64 0, .int .i64 0, .int .i64 0, .int .i64 0, .int .i64 0, .int .i64 0]).heap[w.heap.size + 1 + 1]? = some (.cells #[.int .i64 0, .int .i64 0, .int .i64 0, .int .i64 0, .int .i64 0, .int .i64 0, .int .i64 0] 40 (0, 0)) := HZ4.out.whole Z7
        (try simp only [Exit.inBlock, Exit.then])
        refine bodyPost_ret (v := .tuple #[.agg #[.int .i64 0, .int .i64 0, .int .i64 0, .int .i64 0, .int .i64 0, .int .i64 0, .int .i64 0], .int .i64 S]) (results_row_tmpF (p := 8) (u := 9) rfl _ _ (w.heap.size + 1 + 1) 40 _ (0, 0) _ rfl hlast Try.underlying40 rfl (by kernel_rfl)) rfl ?_
        exact ⟨zero, S, _, rfl, HPe.out, setRow_mem HM4.out hF _, (setRow_chg HC4.out (by omega) _)⟩
  · have hne : (E != 0) = true := by simpa using hE
    have HP : Hid (EditP ⟨xk, xb, b0, b1, b2, b3, d⟩ bl RR zero E bl) := by
      show EditP _ _ _ _ _ _
      unfold EditP
      rw [← HE.out, if_pos hE]
      exact ⟨rfl, rfl, rfl⟩
    have HB1' := HB1
    have hB13 : w.heap.size + 3 ≤ w1.heap.size := by have := hB1.size; omega
    clear hv1 hB1 HDo hOk' hErr HG1 HI1
    go_wp2_with (refine wpList_store_row rfl 40 (.tmp 8) (.tmp 23) rfl (w.heap.size + 1 + 1) #[.int .i64 0, .int .i64 0, .int .i64 0, .int .i64 0, .int .i64 0, .int .i64 0, .int .i64 0] rfl rfl 40 _ HZ1.out z7size z7len z7one ?_)
    have hlast : (w1.setRow (w.heap.size + 1 + 1) #[.int .i64 0, .int .i64 0, .int .i64 0, .int .i64 0, .int .i64 0, .int .i64 0, .int .i64 0]).heap[w.heap.size + 1 + 1]? = some (.cells #[.int .i64 0, .int .i64 0, .int .i64 0, .int .i64 0, .int .i64 0, .int .i64 0, .int .i64 0] 40 (0, 0)) := HZ1.out.whole Z7
    have HBy := below_setRow' HB1.out (k := w.heap.size + 1 + 1) (by omega) #[.int .i64 0, .int .i64 0, .int .i64 0, .int .i64 0, .int .i64 0, .int .i64 0, .int .i64 0]
    (try simp only [Exit.inBlock, Exit.then])
    refine bodyPost_ret (v := .tuple #[.agg #[.int .i64 0, .int .i64 0, .int .i64 0, .int .i64 0, .int .i64 0, .int .i64 0, .int .i64 0], .int .i64 E]) (results_row_tmpF (p := 8) (u := 9) rfl _ _ (w.heap.size + 1 + 1) 40 _ (0, 0) _ rfl hlast Try.underlying40 rfl (by kernel_rfl)) rfl ?_
    exact ⟨zero, E, bl, rfl, HP.out, h.below HBy, Chg.below HBy _⟩
end
end Go.Proofs.Ytiafmghdiidniaa
