/-
  OF THE WALK: WA, WB.
-/
import Derived.Test.YthbmknpbcgnabaaGreatDoorP41
namespace Go.Proofs.YthbmknpbcgnabaaGreatDoor
open Go.RowKit Aes Ctr Sl Dsk
namespace Bk
theorem rootB_length (mk : List UInt8) (l : List (List UInt8)) (h32 : ∀ t ∈ l, t.length = 32) (h : l.length ≤ 100) : (rootB mk l).length = 32 := by
  unfold rootB
  rw [Mr.Mt.root_tv mk l _ (hB_is _ h)]
  exact Mr.Mt.tv_32 mk l h32 _ _
section
variable {ek mk : List UInt8} {n : Nat} {D : List Blk}
theorem Lies.t32 {bank ep : Nat} {tags : List (List UInt8)} {want : Nat → List UInt8} (h : Lies ek mk D n bank ep tags want) : ∀ t ∈ tags, t.length = 32 := fun t ht => by
  obtain ⟨i, hi, e⟩ := List.getElem_of_mem ht
  have := h.tag i (by rw [← h.tlen]; exact hi)
  rw [List.getD_eq_getElem?_getD, List.getElem?_eq_getElem hi] at this
  rw [← e]
  show (tags[i]).length = 32
  rw [show tags[i] = _ from this, tg_length]
theorem format_ex (hl : D.length = 2 * n) (h100 : n ≤ 100) : ∃ tags D1, format ek mk n D = (⟨n, 1, 0, rootB mk tags, tags, [], 0, []⟩, D1) ∧ D1.length = 2 * n ∧ Lies ek mk D1 n 0 1 tags (fun _ => z64) ∧ (rootB mk tags).length = 32 := by
  have hL : Lies ek mk (flush (putTo ek mk n 0 1 (fun _ => z64) n D).1) n 0 1 (putTo ek mk n 0 1 (fun _ => z64) n D).2 (fun _ => z64) := flush_lies (by omega) fun _ _ => z64_length
  exact ⟨_, _, rfl, by rw [flush_length, (putTo_length _).1, hl], hL, rootB_length mk _ hL.t32 (by rw [hL.tlen]; exact h100)⟩
end
end Bk
def Duo (w0 W : World) (X : Nat → Prop) (P d : Nat) (ek mk : List UInt8) (s : Bk.Bn) (D : List Blk) : Prop :=
  ∃ F G, BL W F P d ek mk s ∧ DiskAt W G d D ∧ (∀ k, F k → ¬ G k) ∧ (∀ k, F k → w0.heap.size ≤ k ∧ ¬ X k) ∧ (∀ k, G k → w0.heap.size ≤ k ∧ ¬ X k) ∧ (∀ k, X k → k < W.heap.size) ∧ Below w0.heap.size w0 W
def FrX (w0 : World) (X : Nat → Prop) : Nat → Nat → Prop := fun k _ => w0.heap.size ≤ k ∧ ¬ X k
theorem chg_below {w0 W W' : World} {S : Nat → Nat → Prop} (hb : Below w0.heap.size w0 W) (hc : Chg S W W') (hS : ∀ k o, k < W.heap.size → S k o → w0.heap.size ≤ k) : Below w0.heap.size w0 W' :=
  hb.trans ⟨hc.os, hc.tape, hc.output, hc.size, fun k hk => hc.block k (Nat.lt_of_lt_of_le hk hb.size) fun o ho => by have := hS k o (Nat.lt_of_lt_of_le hk hb.size) ho; omega⟩
section
variable {w0 W W' : World} {X : Nat → Prop} {P d : Nat} {ek mk : List UInt8} {s s' : Bk.Bn} {D D' : List Blk}
theorem Duo.below (h : Duo w0 W X P d ek mk s D) : Below w0.heap.size w0 W := by
  obtain ⟨_, _, _, _, _, _, _, _, hb⟩ := h
  exact hb
theorem Duo.tab (h : Duo w0 W X P d ek mk s D) (hT : Hm.Tab w0) : Hm.Tab W := hT.stay hT.1 h.below
theorem Duo.chg {S : Nat → Nat → Prop} (h : Duo w0 W X P d ek mk s D) (hc : Chg S W W') (hS : ∀ k o, k < W.heap.size → S k o → X k ∧ w0.heap.size ≤ k) : Duo w0 W' X P d ek mk s D := by
  obtain ⟨F, G, hL, hD, hFG, hF, hG, hX, hb⟩ := h
  have hc' : Chg (fun k _ => X k ∧ w0.heap.size ≤ k) W W' := hc.mono fun k o hk hs => hS k o hk hs
  exact ⟨F, G, hL.stay hc' fun k _ hf hs => (hF k hf).2 hs.1, hD.stay hc' fun k _ hg hs => (hG k hg).2 hs.1, hFG, hF, hG, fun k hk => Nat.lt_of_lt_of_le (hX k hk) hc.size, chg_below hb hc' fun k _ _ hs => hs.2⟩
theorem Duo.stay (h : Duo w0 W X P d ek mk s D) (hb : Below W.heap.size W W') : Duo w0 W' X P d ek mk s D := h.chg (Chg.below hb fun _ _ => False) fun _ _ _ x => x.elim
theorem Duo.lt (h : Duo w0 W X P d ek mk s D) : ∀ k, X k → k < W.heap.size := by
  obtain ⟨_, _, _, _, _, _, _, hX, _⟩ := h
  exact hX
theorem Duo.also (h : Duo w0 W X P d ek mk s D) (hb : Below W.heap.size W W') (Y : Nat → Prop) (hY : ∀ k, Y k → X k ∨ (W.heap.size ≤ k ∧ k < W'.heap.size)) : Duo w0 W' Y P d ek mk s D := by
  obtain ⟨F, G, hL, hD, hFG, hF, hG, hX, hb0⟩ := h
  have hFl : ∀ k, F k → k < W.heap.size := bankAll.lt hL
  have hGl : ∀ k, G k → k < W.heap.size := hD.lt
  refine ⟨F, G, hL.stay (Chg.below hb fun _ _ => False) (fun _ _ _ x => x), hD.below hb, hFG, fun k hk => ⟨(hF k hk).1, fun hy => ?_⟩, fun k hk => ⟨(hG k hk).1, fun hy => ?_⟩, fun k hk => ?_, hb0.trans (hb.mono hb0.size)⟩
  · rcases hY k hy with h | h
    · exact (hF k hk).2 h
    · have := hFl k hk; omega
  · rcases hY k hy with h | h
    · exact (hG k hk).2 h
    · have := hGl k hk; omega
  · rcases hY k hk with h | h
    · exact Nat.lt_of_lt_of_le (hX k h) hb.size
    · exact h.2
theorem Duo.after {F G : Nat → Prop} (hF : ∀ k, F k → w0.heap.size ≤ k ∧ ¬ X k) (hG : ∀ k, G k → w0.heap.size ≤ k ∧ ¬ X k) (hX : ∀ k, X k → k < W.heap.size) (hb : Below w0.heap.size w0 W) (h : AfterB BL W F G W' P d ek mk s' D') : Duo w0 W' X P d ek mk s' D' ∧ Chg (FrX w0 X) W W' := by
  obtain ⟨F', G', hL, hD, hFG, hF', hG', hC⟩ := h
  have hs := hb.size
  have nw : ∀ k, W.heap.size ≤ k → w0.heap.size ≤ k ∧ ¬ X k := fun k hk => ⟨by omega, fun hx => by have := hX k hx; omega⟩
  exact ⟨⟨F', G', hL, hD, hFG, fun k hk => (hF' k hk).elim (hF k) (nw k), fun k hk => (hG' k hk).elim (hG k) (nw k), fun k hk => Nat.lt_of_lt_of_le (hX k hk) hC.size, chg_below hb hC fun k _ _ hk => hk.elim (fun h => (hF k h).1) fun h => (hG k h).1⟩, hC.mono fun k _ _ hk => hk.elim (hF k) (hG k)⟩
theorem Duo.step (h : Duo w0 W X P d ek mk s D) (hT : Hm.Tab w0) (hl : D.length = 2 * s.n) (hep : s.ep ≤ 1000000) : Calls Tryz.prog 19 #[PT P] W fun e w' => e = .returned (.tuple #[.bool (Bk.step ek mk s D).2.1, .int .i64 ((Bk.step ek mk s D).2.2 : Int)]) ∧ Duo w0 w' X P d ek mk (Bk.step ek mk s D).1.1 (Bk.step ek mk s D).1.2 ∧ Chg (FrX w0 X) W w' := by
  have hTW := h.tab hT
  obtain ⟨F, G, hL, hD, hFG, hF, hG, hX, hb⟩ := h
  refine (Jstep_any hL hD hFG hl hep hTW fun k hk e => by have := (hF k hk).1; have := hT.1; omega).mono ?_
  rintro e w' ⟨rfl, hA⟩
  exact ⟨rfl, Duo.after hF hG hX hb hA⟩
theorem Duo.begin_ (h : Duo w0 W X P d ek mk s D) (hT : Hm.Tab w0) {K : Nat → Prop} {v : Value} {l : List (List UInt8)} (hP : PartsOn W K v l) (hep : s.ep ≤ 1000000) (hl : l.length ≤ 1000) : Calls Tryz.prog 16 #[PT P, v] W fun e w' => e = .returned (.int .i64 ((Bk.begin_ s l).2 : Int)) ∧ Duo w0 w' X P d ek mk (Bk.begin_ s l).1 D ∧ Chg (FrX w0 X) W w' := by
  have hTW := h.tab hT
  obtain ⟨F, G, hL, hD, hFG, hF, hG, hX, hb⟩ := h
  refine (Jbegin_any hL K v l hP hep hTW hl).mono ?_
  rintro e w' ⟨rfl, F', hL', hF', hC⟩
  refine ⟨rfl, Duo.after hF hG hX hb ⟨F', G, hL', hD.stay hC fun k _ hg hf => hFG k hf hg, fun k hk hg => (hF' k hk).elim (fun h => hFG k h hg) fun h => by have := hD.lt k hg; omega, hF', fun _ hg => .inl hg, hC.mono fun _ _ _ h => .inl h⟩⟩
theorem Duo.busy (h : Duo w0 W X P d ek mk s D) : Calls Tryz.prog 29 #[PT P] W fun e w' => e = .returned (.bool (decide (s.L ≠ []))) ∧ Below W.heap.size W w' := by
  obtain ⟨F, G, hL, _⟩ := h
  exact JBusy_any hL
theorem Duo.reg (h : Duo w0 W X P d ek mk s D) (rs : List Value) (hrs : Hid (rs = regV s.ep s.bank s.root)) : Calls Tryz.prog 24 #[PT P] W fun e w' => e = .returned (.agg rs.toArray) ∧ Below W.heap.size W w' := by
  obtain ⟨F, G, hL, _⟩ := h
  exact bankAll.reg hL rs hrs
theorem Duo.read (h : Duo w0 W X P d ek mk s D) (hT : Hm.Tab w0) (hl : D.length = 2 * s.n) (i : Nat) (hi : i < s.n) : Calls Tryz.prog 21 #[PT P, IV i] W fun e w' => ∃ v, e = .returned (.tuple #[v, .int .i64 (if (Bk.read ek mk s D i).isSome then 0 else 10)]) ∧ Hid (Own w' W.heap.size 5 v (((Bk.read ek mk s D i).getD []).map V8)) ∧ Below W.heap.size W w' := by
  have hTW := h.tab hT
  obtain ⟨F, G, hL, hD, _⟩ := h
  exact Jread_any hL hD hl hTW i hi
theorem Duo.n100 (h : Duo w0 W X P d ek mk s D) : 8 ≤ s.n ∧ s.n ≤ 100 ∧ s.bank ≤ 1 ∧ s.root.length = 32 ∧ s.tags.length = s.n := by
  obtain ⟨F, G, ⟨_, _, _, _, _, _, hH, _⟩, _⟩ := h
  exact ⟨hH.n8, hH.n100, hH.b1, hH.r32, hH.tl⟩
end
theorem Duo.format {w0 W : World} {X G : Nat → Prop} {d : Nat} {D : List Blk} (ek mk : List UInt8) (ks : List Value) (n : Nat) (hD : DiskAt W G d D) (hG : ∀ k, G k → w0.heap.size ≤ k ∧ ¬ X k) (hX : ∀ k, X k → k < W.heap.size) (hb : Below w0.heap.size w0 W) (hk : KeysV ek mk ks) (hn : 8 ≤ n ∧ n ≤ 100) (hl : D.length = 2 * n) (hT : Hm.Tab w0) :
    Calls Tryz.prog 9 #[PT d, .agg ks.toArray, IV n] W fun e w' => ∃ P, e = .returned (.tuple #[PT P, .int .i64 0]) ∧ Duo w0 w' X P d ek mk (Bk.format ek mk n D).1 (Bk.format ek mk n D).2 ∧ Chg (FrX w0 X) W w' := by
  refine (Jformat_ok ek mk ks n hD hk hn hl (hT.stay hT.1 hb) fun k hk e => by have := (hG k hk).1; have := hT.1; omega).mono ?_
  rintro e w' ⟨P, rfl, hA⟩
  exact ⟨P, rfl, Duo.after (fun k h => h.elim) hG hX hb hA⟩
theorem Duo.formatBad {w0 W : World} {X : Nat → Prop} {P d : Nat} {ek mk ek' mk' : List UInt8} {s : Bk.Bn} {D : List Blk} (h : Duo w0 W X P d ek mk s D) (ks : List Value) (n : Int) (hk : KeysV ek' mk' ks) (hr : -9223372036854775808 ≤ n ∧ n ≤ 9223372036854775807) (hn : n < 8 ∨ 128 < n ∨ (D.length : Int) ≠ 2 * n) :
    Calls Tryz.prog 9 #[PT d, .agg ks.toArray, .int .i64 n] W fun e w' => e = .returned (.tuple #[.pointer none, .int .i64 1]) ∧ Below W.heap.size W w' := by
  obtain ⟨F, G, hL, hD, _⟩ := h
  exact Jformat_bad ek' mk' ks n hD hk hr hn
theorem Duo.mountZero {w0 W : World} {X : Nat → Prop} {P d : Nat} {ek mk : List UInt8} {s : Bk.Bn} {D : List Blk} (h : Duo w0 W X P d ek mk s D) (ks : List Value) (hks : ks.length = 48) (n : Int) (bank : Nat) (root : List UInt8) (rs : List Value) (hroot : root.length = 32) (hrs : Hid (rs = regV 0 bank root)) (hb1 : bank ≤ 1) (hr : -9223372036854775808 ≤ n ∧ n ≤ 9223372036854775807) (hn : 8 ≤ n ∧ n ≤ 128 ∧ (D.length : Int) = 2 * n) :
    Calls Tryz.prog 10 #[PT d, .agg ks.toArray, .int .i64 n, .agg rs.toArray] W fun e w' => e = .returned (.tuple #[.pointer none, .int .i64 1]) ∧ Below W.heap.size W w' := by
  obtain ⟨F, G, hL, hD, _⟩ := h
  exact Jmount_zero ks hks n bank root rs hroot hrs hb1 hD hr hn
theorem row_chg {w w' : World} {S : Nat → Nat → Prop} {g : Nat} {t : TypeId} {cs : List Value} (h : Row w g t cs) (hc : Chg S w w') (hn : ∀ o, ¬ S g o) : Row w' g t cs := h.same (hc.block g h.lt hn)
theorem row_fr {w0 w w' : World} {X : Nat → Prop} {g : Nat} {t : TypeId} {cs : List Value} (h : Row w g t cs) (hc : Chg (FrX w0 X) w w') (hX : X g) : Row w' g t cs := row_chg h hc fun _ hs => hs.2 hX
theorem Duo.mount {w0 W : World} {X : Nat → Prop} {P d : Nat} {ek mk : List UInt8} {s : Bk.Bn} {D : List Blk} (h : Duo w0 W X P d ek mk s D) (hT : Hm.Tab w0) (ks : List Value) (hk : KeysV ek mk ks) (ep bank : Nat) (root : List UInt8) (rs : List Value) (hl : D.length = 2 * s.n) (hb1 : bank ≤ 1) (hep : 1 ≤ ep ∧ ep ≤ 1000000) (hroot : root.length = 32) (hrs : Hid (rs = regV ep bank root)) :
    Calls Tryz.prog 10 #[PT d, .agg ks.toArray, IV s.n, .agg rs.toArray] W fun e w' =>
      match Bk.mount mk s.n ep bank root D with
      | some s' => ∃ P', e = .returned (.tuple #[PT P', .int .i64 0]) ∧ Duo w0 w' X P' d ek mk s' D ∧ Duo w0 w' X P d ek mk s D ∧ Below W.heap.size W w'
      | none => e = .returned (.tuple #[.pointer none, .int .i64 10]) ∧ Duo w0 w' X P d ek mk s D ∧ Below W.heap.size W w' := by
  have hn := h.n100
  have hTW := h.tab hT
  have h0 := h
  obtain ⟨F, G, hL, hD, hFG, hF, hG, hX, hb⟩ := h
  refine (Jmount_ok ek mk ks s.n ep bank root rs hD hk ⟨hn.1, hn.2.1⟩ hl hTW hb1 hep hroot hrs).mono ?_
  intro e w' hR
  cases hm : Bk.mount mk s.n ep bank root D with
  | none =>
    rw [hm] at hR
    exact ⟨hR.1, h0.stay hR.2, hR.2⟩
  | some s' =>
    rw [hm] at hR
    obtain ⟨P', F', rfl, hL', hF', hb'⟩ := hR
    have hs := hb.size
    exact ⟨P', rfl, ⟨F', G, hL', hD.below hb', fun k hk hg => by have := hF' k hk; have := hD.lt k hg; omega, fun k hk => ⟨by have := hF' k hk; omega, fun hx => by have := hF' k hk; have := hX k hx; omega⟩, hG, fun k hk => Nat.lt_of_lt_of_le (hX k hk) hb'.size, hb.trans (hb'.mono hb.size)⟩, h0.stay hb', hb'⟩
end Go.Proofs.YthbmknpbcgnabaaGreatDoor
namespace Go.Proofs.YthbmknpbcgnabaaGreatDoor
open Go.RowKit Aes Ctr Sl Dsk
theorem field_ep (W : World) (ep bank : Nat) (root : List UInt8) : (Instr.field 41 (.agg (regV ep bank root).toArray) 0).run Tryz.prog W = .ok (.int .u64 (ep : Int)) W := by
  have hag : (isAgg 39).run Tryz.prog W = .ok false W := by kernel_rfl
  unfold Instr.field
  simp only [Sem.run_bind, run_underlying Tryz.underlying41, Result.andThen_ok]
  simp [part, regV, asAgg, hag]
def kByte : List UInt8 := [107]
set_option maxRecDepth 100000 in
set_option maxHeartbeats 2000000 in
theorem Jknows_any (w : World) (hT : Hm.Tab w) : Calls Tryz.prog 6 #[] w fun e w' => e = .returned (.bool true) ∧ Below w.heap.size w w' := by
  have HN := Lib.hid (DNew_any 16 (by omega) (by omega) w)
  have HT := Lib.hid hT
  have hzk := zeroSk
  have hzr := zeroReg
  have hzl : (regV 0 0 (List.replicate 32 0)).length = 34 := rfl
  generalize regV 0 0 (List.replicate 32 0) = ZR at hzr hzl
  have Hzr : Hid (ZR.toArray.size = 34) := hzl
  have HZk := Lib.hid hzk
  have HZr := Lib.hid hzr
  clear hzl hzk hzr
  clear hT
  go_enter Tryz.func6, Tryz.ntmps6
  go_wp2_with fail
  refine HN.out.mono ?_
  rintro e w1 ⟨d, G, rfl, hD, hG, hb1⟩
  have HD1 := Lib.hid hD
  have HG := Lib.hid hG
  have HB1 := Lib.hid hb1
  clear hD hG hb1 HN
  have hc1 := Joins.run_convert_bytes_const_at (P := Tryz.prog) w1 22 5 #[.int .u8 107] 1 1 w1.heap.size rfl Tryz.underlying22 Tryz.underlying5
  obtain ⟨w2, hw2⟩ : ∃ w2, w2 = w1.alloc (.cells #[.int .u8 107] 5 (1, 2)) := ⟨_, rfl⟩
  have HB2 : Hid (Below w.heap.size w w2) := by rw [hw2]; exact HB1.out.alloc HB1.out.size _
  have HD2 : Hid (DiskAt w2 G d (List.replicate 16 Blk.zero)) := by rw [hw2]; exact HD1.out.below ((Below.refl _ _).alloc (Nat.le_refl _) _)
  have HGl : Hid (∀ k, G k → k < w1.heap.size) := HD1.out.lt
  have HA : Hid (Arg w2 (.slice (some ⟨w1.heap.size, 0, none⟩) 1 1) kByte) := by
    refine .inr ⟨w1.heap.size, 0, 1, rfl, by rw [hw2]; simp, by decide, fun j u hu => ?_⟩
    rw [hw2, Nat.zero_add]
    refine (Joins.cell_alloc_mark_at w1 _ _ _ _ j rfl).trans ?_
    rw [List.getElem?_toArray]
    exact hu
  have HDr := Lib.hid (SDerive_any kByte (by decide) _ w2 (HT.out.below HB2.out) HA.out)
  go_wp2_with fail
  rw [← hw2]
  clear hw2 hc1 HA HD1 HB1
  refine HDr.out.mono ?_
  rintro e w3 ⟨ks, Hks, rfl, hb3⟩
  have hkk : KeysV (encK kByte) (macK kByte) ks := Hks.out
  generalize encK kByte = ek at *
  generalize macK kByte = mk at *
  have HK := Lib.hid hkk
  have Hk48 : Hid (ks.toArray.size = 48) := hkk.size
  have Hone : Hid (ks.toArray.all (·.oneCell') = true) := hkk.vec.one
  have HB3 := Lib.hid (HB2.out.trans (hb3.mono HB2.out.size))
  have HD3 := Lib.hid (HD2.out.below hb3)
  have HG3 : Hid (∀ k, G k → k < w3.heap.size) := HD3.out.lt
  clear hkk Hks hb3 HB2 HD2 HDr HGl
  obtain ⟨w4, hw4⟩ : ∃ W, W = w3.alloc (.cells Z48.toArray 29) := ⟨_, rfl⟩
  have HZ4 : Hid (Row w4 w3.heap.size 29 Z48) := by rw [hw4]; exact Row.new w3 29 Z48
  have HB4 : Hid (Below w3.heap.size w3 w4) := by rw [hw4]; exact (Below.refl _ _).alloc (Nat.le_refl _) _
  have hzk3 := HZk.out w3
  obtain ⟨w5, hw5⟩ : ∃ W, W = w4.setRow w3.heap.size ks.toArray := ⟨_, rfl⟩
  have HX5 : Hid (Row w5 w3.heap.size 29 ks) := by rw [hw5]; exact HZ4.out.whole ks
  have HB5 : Hid (Below w3.heap.size w3 w5) := by rw [hw5]; exact below_setRow' HB4.out (Nat.le_refl _) _
  have HW5 : Hid (Below w.heap.size w w5) := HB3.out.trans (HB5.out.mono HB3.out.size)
  have Hx0 : Hid (w.heap.size ≤ w3.heap.size) := HB3.out.size
  have HD5 := Lib.hid (HD3.out.below HB5.out)
  have HG5 : Hid (∀ k, G k → w.heap.size ≤ k ∧ ¬ k = w3.heap.size) := fun k hk => ⟨HG.out k hk, fun e => by have := HG3.out k hk; omega⟩
  obtain ⟨x0, hx0⟩ : ∃ x, x = w3.heap.size := ⟨_, rfl⟩
  rw [← hx0] at HX5 HG5 HZ4 hw5 Hx0
  have Hx0e := Lib.hid hx0
  clear hx0
  obtain ⟨tags, D1, hfe, hl1, hLi, hr32⟩ := Bk.format_ex (ek := ek) (mk := mk) (n := 8) (D := List.replicate 16 Blk.zero) List.length_replicate (by omega)
  have HF := Lib.hid (Duo.format (w0 := w) (X := fun k => k = x0) ek mk ks 8 HD5.out HG5.out (fun k e => by rw [e]; exact HX5.out.lt) HW5.out HK.out (by omega) List.length_replicate HT.out)
  rw [hfe] at HF
  obtain ⟨root, hroot⟩ : ∃ r, r = Bk.rootB mk tags := ⟨_, rfl⟩
  rw [← hroot] at HF hr32
  have hrd : Bk.read ek mk ⟨8, 1, 0, root, tags, [], 0, []⟩ D1 7 = some Bk.z64 := hLi.read rfl rfl rfl (by decide) 7 (by omega)
  have hmt : Bk.mount mk 8 1 0 root D1 = some ⟨8, 1, 0, root, tags, [], 0, []⟩ := by rw [hroot]; exact hLi.mount
  have HRD := Lib.hid hrd
  have HMT := Lib.hid hmt
  have HL1 := Lib.hid hl1
  have HR32 := Lib.hid hr32
  clear hfe hl1 hLi hr32 hroot hrd hmt HD5 HD3 HG HG3 HG5 HB3 HB4 HB5
  have go : ∀ {s : Bk.Bn}, s = ⟨8, 1, 0, root, tags, [], 0, []⟩ → s.n = 8 ∧ s.L = [] ∧ s.ep = 1 ∧ s.bank = 0 ∧ s.root = root := fun e => by rw [e]; exact ⟨rfl, rfl, rfl, rfl, rfl⟩
  obtain ⟨s, hs⟩ : ∃ s : Bk.Bn, s = ⟨8, 1, 0, root, tags, [], 0, []⟩ := ⟨_, rfl⟩
  rw [← hs] at HF HRD HMT
  obtain ⟨hs1, hs2, hs3, hs4, hs5⟩ := go hs
  have HS : Hid (s.n = 8 ∧ s.L = [] ∧ s.ep = 1 ∧ s.bank = 0 ∧ s.root = root) := ⟨hs1, hs2, hs3, hs4, hs5⟩
  clear hs go hs1 hs2 hs3 hs4 hs5
  go_wp2_with (first
    | (rw [← hw4, ← Hx0e.out]; clear hw4 hzk3; refine wpList_store_row rfl 29 (.tmp 3) (.tmp 23) rfl x0 ks.toArray rfl rfl 29 _ HZ4.out (by rw [Hk48.out]; kernel_rfl) (by rw [Hk48.out]; rfl) Hone.out ?_; rw [← hw5]; clear hw5)
    | (refine wpList_load_row rfl 29 (.tmp 3) rfl x0 rfl 29 ks.toArray (0, 0) _ HX5.out Tryz.underlying29 rfl (by rw [Hk48.out]; kernel_rfl) ?_))
  refine HF.out.mono ?_
  rintro e w6 ⟨P, rfl, hd6, hc6⟩
  have HX6 := Lib.hid (row_fr HX5.out hc6 rfl)
  have HD6 := Lib.hid hd6
  clear hd6 hc6 HF HX5 HW5 HZ4
  go_wp2_with (refine wpList_load_row rfl 29 (.tmp 3) rfl x0 rfl 29 ks.toArray (0, 0) _ HX6.out Tryz.underlying29 rfl (by rw [Hk48.out]; kernel_rfl) ?_)
  refine (HD6.out.formatBad ks 9 HK.out (by omega) (.inr (.inr (by rw [HL1.out]; omega)))).mono ?_
  rintro e w7 ⟨rfl, hb⟩
  have HX7 := Lib.hid (HX6.out.below hb HX6.out.lt)
  have HD7 := Lib.hid (HD6.out.stay hb)
  clear hb HX6 HD6
  go_wp2_with fail
  have hR7 := HD7.out.read HT.out (by rw [HS.out.1]; exact HL1.out) 7 (by rw [HS.out.1]; omega)
  rw [HRD.out] at hR7
  have HR7 := Lib.hid hR7
  clear hR7
  refine HR7.out.mono ?_
  rintro e w8 ⟨v, rfl, HO, hb⟩
  obtain ⟨Av, cv, hv⟩ := HO.out.arg.form
  rw [show ((some Bk.z64).getD []).length = 64 from Bk.z64_length] at hv
  subst hv
  have HX8 := Lib.hid (HX7.out.below hb HX7.out.lt)
  have HD8 := Lib.hid (HD7.out.stay hb)
  clear hb HX7 HD7 HO HR7
  go_wp2_with fail
  have hst : Bk.step ek mk s D1 = ((s, D1), false, 2) := by rw [Bk.step, if_pos HS.out.2.1]
  have hR8 := HD8.out.step HT.out (by rw [HS.out.1]; exact HL1.out) (by rw [HS.out.2.2.1]; omega)
  rw [hst] at hR8
  have HR8 := Lib.hid hR8
  clear hR8 hst
  refine HR8.out.mono ?_
  rintro e w9 ⟨rfl, hd9, hc9⟩
  have HX9 := Lib.hid (row_fr HX8.out hc9 rfl)
  have HD9 := Lib.hid hd9
  clear hd9 hc9 HR8 HX8 HD8
  obtain ⟨rs, hrs⟩ : ∃ r, r = regV s.ep s.bank s.root := ⟨_, rfl⟩
  have HRs := Lib.hid hrs
  have HRS : Hid (rs = regV 1 0 root) := by show _ = _; rw [hrs, HS.out.2.2.1, HS.out.2.2.2.1, HS.out.2.2.2.2]
  have HRg := Lib.hid (fun W (h : Duo w W (fun k => k = x0) P d ek mk s D1) => h.reg rs hrs)
  have Hr34 : Hid (rs.toArray.size = 34) := by show _ = _; rw [HRS.out]; exact regV_length HR32.out
  have Hone2 : Hid (rs.toArray.all (·.oneCell') = true) := by
    show _ = _
    rw [HRS.out, regV]
    simp
    exact ⟨rfl, rfl, fun _ _ => rfl⟩
  clear hrs
  go_wp2_with fail
  refine (HRg.out w9 HD9.out).mono ?_
  rintro e w10 ⟨rfl, hb⟩
  have HX10 := Lib.hid (HX9.out.below hb HX9.out.lt)
  have HD10 := Lib.hid (HD9.out.stay hb)
  clear hb HX9 HD9 HRg
  obtain ⟨r0, hr0⟩ : ∃ x, x = w10.heap.size := ⟨_, rfl⟩
  obtain ⟨w11, hw11⟩ : ∃ W, W = w10.alloc (.cells ZR.toArray 41) := ⟨_, rfl⟩
  have HZ11 : Hid (Row w11 r0 41 ZR) := by rw [hw11, hr0]; exact Row.new w10 41 ZR
  have hB11 : Below w10.heap.size w10 w11 := by rw [hw11]; exact (Below.refl _ _).alloc (Nat.le_refl _) _
  obtain ⟨w12, hw12⟩ : ∃ W, W = w11.setRow r0 rs.toArray := ⟨_, rfl⟩
  have HY12 : Hid (Row w12 r0 41 rs) := by rw [hw12]; exact HZ11.out.whole rs
  have hB12 : Below w10.heap.size w10 w12 := by rw [hw12]; exact below_setRow' hB11 (by omega) _
  have HX12 := Lib.hid (HX10.out.below hB12 HX10.out.lt)
  have hx10 := HX10.out.lt
  have Hne : Hid (x0 ≠ r0) := by show _ ≠ _; omega
  have HD12 : Hid (Duo w w12 (fun k => k = x0 ∨ k = r0) P d ek mk s D1) := HD10.out.also hB12 _ fun k hk => hk.imp id fun e => by rw [e]; exact ⟨by omega, HY12.out.lt⟩
  have hM := HD12.out.mount HT.out ks HK.out 1 0 root rs (by rw [HS.out.1]; exact HL1.out) (by omega) (by omega) HR32.out HRS
  rw [HS.out.1, HMT.out] at hM
  have HM := Lib.hid hM
  have Hr0w : Hid (w.heap.size ≤ r0) := by have := HD10.out.below.size; show _ ≤ _; omega
  have hzr10 := HZr.out w10
  have Hr0e := Lib.hid hr0
  clear hB11 hB12 hM HX10 HD10 hx10 hr0
  go_wp2_with (first
    | (rw [← hw11, ← Hr0e.out]; clear hw11 hzr10; refine wpList_store_row rfl 41 (.tmp 12) (.tmp 53) rfl r0 rs.toArray rfl rfl 41 _ HZ11.out (by rw [Hr34.out]; kernel_rfl) (by rw [Hr34.out, Hzr.out]) Hone2.out ?_; rw [← hw12]; clear hw12)
    | (refine wpList_load_row rfl 29 (.tmp 3) rfl x0 rfl 29 ks.toArray (0, 0) _ HX12.out Tryz.underlying29 rfl (by rw [Hk48.out]; kernel_rfl) ?_)
    | (refine wpList_load_row rfl 41 (.tmp 12) rfl r0 rfl 41 rs.toArray (0, 0) _ HY12.out Tryz.underlying41 rfl (by rw [Hr34.out]; kernel_rfl) ?_))
  refine HM.out.mono ?_
  rintro e w13 ⟨P', rfl, _, hd13, hb⟩
  have HX13 := Lib.hid (HX12.out.below hb HX12.out.lt)
  have HY13 := Lib.hid (HY12.out.below hb HY12.out.lt)
  have HD13 := Lib.hid hd13
  clear hb hd13 HM HX12 HY12 HD12 HZ11
  obtain ⟨rs0, hrs0⟩ : ∃ r, r = regV 0 0 root := ⟨_, rfl⟩
  have hy0 : w13.cell? ⟨r0, 0, none⟩ = some (.int .u64 1) := by rw [HY13.out.cell, HRS.out]; rfl
  have hf0 := HY13.out.free 0
  obtain ⟨w14, hw14⟩ : ∃ W, W = w13.setCell ⟨r0, 0, none⟩ (.int .u64 0) := ⟨_, rfl⟩
  have HY14 : Hid (Row w14 r0 41 rs0) := by
    have := HY13.out.set 0 (.int .u64 0)
    rw [HRS.out] at this
    rw [hw14, hrs0]
    exact this
  have hne : x0 ≠ r0 := Hne.out
  have HX14 : Hid (Row w14 x0 29 ks) := by rw [hw14]; exact HX13.out.apart hne _
  have hc14 : Chg (fun k _ => k = r0) w13 w14 := by rw [hw14]; exact (Chg.refl _ w13).setCell (p := ⟨r0, 0, none⟩) rfl (fun _ => rfl) (by rw [hy0]; rfl) _
  have HD14 : Hid (Duo w w14 (fun k => k = x0 ∨ k = r0) P d ek mk s D1) := HD13.out.chg hc14 fun k _ _ e => ⟨.inr e, by rw [e]; exact Hr0w.out⟩
  have Hs34 : Hid (rs0.toArray.size = 34) := by show _ = _; rw [hrs0]; exact regV_length HR32.out
  have HM0 := Lib.hid (HD14.out.mountZero ks HK.out.vec.len 8 0 root rs0 HR32.out hrs0 (by omega) (by omega) (by rw [HL1.out]; omega))
  clear hrs0 HX13 HY13 HD13 hne hc14 Hr0w
  go_wp2_with (first
    | (rw [← hw14]; clear hw14 hy0 hf0; refine wpList_load_row rfl 29 (.tmp 3) rfl x0 rfl 29 ks.toArray (0, 0) _ HX14.out Tryz.underlying29 rfl (by rw [Hk48.out]; kernel_rfl) ?_)
    | (refine wpList_load_row rfl 41 (.tmp 12) rfl r0 rfl 41 rs0.toArray (0, 0) _ HY14.out Tryz.underlying41 rfl (by rw [Hs34.out]; kernel_rfl) ?_))
  refine HM0.out.mono ?_
  rintro e w15 ⟨rfl, hb⟩
  have HR15 := Lib.hid ((HD14.out.stay hb).reg rs HRs)
  have HB15 : Hid (Below w.heap.size w w15) := (HD14.out.stay hb).below
  clear hb HM0 HX14 HY14 HD14
  go_wp2_with fail
  refine HR15.out.mono ?_
  rintro e w16 ⟨rfl, hb⟩
  have HB16 : Hid (Below w.heap.size w w16) := HB15.out.trans (hb.mono HB15.out.size)
  have hfd := field_ep w16 1 0 root
  rw [← HRS.out] at hfd
  clear hb HR15 HB15
  go_wp2
  go_ret
  exact ⟨rfl, HB16.out⟩
end Go.Proofs.YthbmknpbcgnabaaGreatDoor
