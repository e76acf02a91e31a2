/-
  THE WALK of the landed Read.
-/
import Derived.Test.YtiafmghdiidniaaLZS
namespace Go.Proofs.Ytiafmghdiidniaa
set_option maxRecDepth 100000
set_option maxHeartbeats 1000000
open Go.RowKit Cdc Inn Fil

namespace Fil
/-- So many bytes of the block of byte off. -/
def partOf (bl : List (List UInt8)) (l : List Nat) (off e : Nat) : List UInt8 := ((blk bl (numAt l off)).drop (off % 64)).take (min (64 - off % 64) (e - off))
/-- What is read. -/
def rd (bl : List (List UInt8)) (l : List Nat) : Nat → Nat → Nat → Option (List UInt8)
  | 0, _, _ => some []
  | k + 1, off, e => if off < e then (if numAt l off < bl.length then (rd bl l k (off + min (64 - off % 64) (e - off)) e).map (partOf bl l off e ++ ·) else none) else some []
theorem rd_end (bl : List (List UInt8)) (l : List Nat) (k off e : Nat) (h : ¬ off < e) : rd bl l k off e = some [] := by
  cases k with
  | zero => rfl
  | succ k => rw [rd, if_neg h]
/-- Where a read ends. -/
def endR (x : Ino) (off n : Int) : Int := off + min n (x.b - off)
/-- What Read hands back. -/
def ReadP (x : Ino) (off n : Int) (bl : List (List UInt8)) (bs : List UInt8) (h : Int) : Prop :=
  if odd x = true ∨ off < 0 ∨ n < 0 then bs = [] ∧ h = 1
  else if numsE x bl ≠ 0 then bs = [] ∧ h = numsE x bl
  else match rd bl (allOf x bl) ((endR x off n).toNat - off.toNat) off.toNat (endR x off n).toNat with
    | none => bs = [] ∧ h = 1
    | some r => bs = r ∧ h = 0
end Fil
section
variable {w : World} {F : Nat → Prop} {m R cap : Nat} {bl : List (List UInt8)} {vs : Nat → Value} {gs : Nat → Nat}
theorem FiRead_run (h : MemL w F m bl R cap vs gs) (x : Ino) (off n : Int) (hf : x.fits) (ho : In64 off) (hn : In64 n) :
    Calls Try.prog 17 #[sto m, .agg (inoC x), .int .i64 off, .int .i64 n] w fun e w' =>
      ∃ v bs h, e = .returned (.tuple #[v, .int .i64 h]) ∧ ReadP x off n bl bs h ∧ Hid (ArgHi w' w.heap.size v bs) ∧ Below w.heap.size w w' := by
  have HN := Lib.hid (FiNil_no m)
  have HI := Lib.hid (fun W => FiIsFile_any x hf W)
  obtain ⟨o1, o2⟩ := ho
  obtain ⟨n1, n2⟩ := hn
  have HQ0 : Hid (odd x = true ∨ off < 0 ∨ n < 0 → ReadP x off n bl [] 1) := fun hh => by unfold ReadP; rw [if_pos hh]; exact ⟨rfl, rfl⟩
  have HQn : Hid (¬ (odd x = true ∨ off < 0 ∨ n < 0) → numsE x bl ≠ 0 → ReadP x off n bl [] (numsE x bl)) := fun hh hb => by unfold ReadP; rw [if_neg hh, if_pos hb]; exact ⟨rfl, rfl⟩
  have HQe : Hid (¬ (odd x = true ∨ off < 0 ∨ n < 0) → numsE x bl = 0 → rd bl (allOf x bl) ((endR x off n).toNat - off.toNat) off.toNat (endR x off n).toNat = none → ReadP x off n bl [] 1) := fun hh hb hr => by
    unfold ReadP; rw [if_neg hh, if_neg (by rw [hb]; decide), hr]; exact ⟨rfl, rfl⟩
  have HQs : Hid (¬ (odd x = true ∨ off < 0 ∨ n < 0) → numsE x bl = 0 → ∀ r, rd bl (allOf x bl) ((endR x off n).toNat - off.toNat) off.toNat (endR x off n).toNat = some r → ReadP x off n bl r 0) := fun hh hb r hr => by
    unfold ReadP; rw [if_neg hh, if_neg (by rw [hb]; decide), hr]; exact ⟨rfl, rfl⟩
  have HNm : Hid (odd x = false → ∀ W, Below w.heap.size w W → Calls Try.prog 35 #[sto m, .agg (inoC x)] W fun e w' => NumsR W x bl e w') := fun hx W hW => FiNums_any (h.below hW) x hx
  have HXb : Hid (odd x = false → 0 ≤ x.b ∧ x.b ≤ 2304) := fun hx => by have := may_bounds (odd_no hx).1; omega
  have HLn : Hid (odd x = false → numsE x bl = 0 → (allOf x bl).length = need x.b ∧ ∀ n ∈ allOf x bl, n < 128) := fun hx hE => by
    obtain ⟨hO, hl⟩ := draft_ok hx hE (fun i hi => (h.blk i hi).len)
    exact ⟨hl, hO.num⟩
  have HNil : Hid (∀ W, ArgHi W w.heap.size (.slice none 0 0) []) := fun W => .inl ⟨_, rfl, rfl⟩
  obtain ⟨w0, hw0⟩ : ∃ w0, w0 = w.alloc (.cells (inoC x) 40) := ⟨_, rfl⟩
  have HB0 : Hid (Below w.heap.size w w0) := by rw [hw0]; exact (Below.refl _ _).alloc (Nat.le_refl _) _
  have HI0 : Hid (Row w0 w.heap.size 40 (x.l.map VI)) := by rw [hw0]; exact Row.new w 40 (x.l.map VI)
  obtain ⟨r2, hr2⟩ : ∃ r, r = odd x := ⟨_, rfl⟩
  rw [← hr2] at HI HQ0 HQn HQe HQs HNm HXb HLn
  obtain ⟨xk, xb, b0, b1, b2, b3, d⟩ := x
  simp only [inoC, Ino.l] at HI HNm HI0 hw0 ⊢
  clear hr2 hf
  go_enter Try.func17, Try.ntmps17
  go_wp2_with fail
  rw [← hw0]
  clear hw0
  refine (HN.out _).mono ?_
  rintro e w1 ⟨rfl, rfl⟩
  have ci0 := HI0.out.cell 0
  have ci1 := HI0.out.cell 1
  have ci2 := HI0.out.cell 2
  have ci3 := HI0.out.cell 3
  have ci4 := HI0.out.cell 4
  have ci5 := HI0.out.cell 5
  have ci6 := HI0.out.cell 6
  simp only [VI, List.map_cons, List.map_nil, List.getElem?_cons_zero, List.getElem?_cons_succ] at ci0 ci1 ci2 ci3 ci4 ci5 ci6
  go_wp2_with fail
  refine (HI.out _).mono ?_
  rintro e w3 ⟨rfl, hB3⟩
  have HB3 := Lib.hid (HB0.out.trans (hB3.mono HB0.out.size))
  have HI3 := Lib.hid (HI0.out.below hB3 HI0.out.lt)
  clear hB3 HB0 HI0 HI ci0 ci1 ci2 ci3 ci4 ci5 ci6 HN
  cases r2 with
  | true =>
    have HP : Hid (ReadP ⟨xk, xb, b0, b1, b2, b3, d⟩ off n bl [] 1) := HQ0.out (.inl rfl)
    clear HQ0 HQn HQe HQs HNm HXb HLn
    go_wp2_with fail
    go_ret2
    exact ⟨_, [], 1, rfl, HP.out, HNil.out _, HB3.out⟩
  | false =>
    by_cases ho0 : off < 0
    · have HP : Hid (ReadP ⟨xk, xb, b0, b1, b2, b3, d⟩ off n bl [] 1) := HQ0.out (.inr (.inl ho0))
      clear HQ0 HQn HQe HQs HNm HXb HLn
      go_wp2_with fail
      go_ret2
      exact ⟨_, [], 1, rfl, HP.out, HNil.out _, HB3.out⟩
    by_cases hn0 : n < 0
    · have HP : Hid (ReadP ⟨xk, xb, b0, b1, b2, b3, d⟩ off n bl [] 1) := HQ0.out (.inr (.inr hn0))
      clear HQ0 HQn HQe HQs HNm HXb HLn
      go_wp2_with fail
      go_ret2
      exact ⟨_, [], 1, rfl, HP.out, HNil.out _, HB3.out⟩
    have hno : ¬ (false = true ∨ off < 0 ∨ n < 0) := by rintro (h | h | h); cases h; exact ho0 h; exact hn0 h
    have ci0 := HI3.out.cell 0
    have ci1 := HI3.out.cell 1
    have ci2 := HI3.out.cell 2
    have ci3 := HI3.out.cell 3
    have ci4 := HI3.out.cell 4
    have ci5 := HI3.out.cell 5
    have ci6 := HI3.out.cell 6
    simp only [VI, List.map_cons, List.map_nil, List.getElem?_cons_zero, List.getElem?_cons_succ] at ci0 ci1 ci2 ci3 ci4 ci5 ci6
    have HNw := Lib.hid (HNm.out (by first | trivial | rfl) w3 HB3.out)
    obtain ⟨xb0, xb1⟩ := HXb.out (by first | trivial | rfl)
    have HLn2 : Hid (numsE ⟨xk, xb, b0, b1, b2, b3, d⟩ bl = 0 → (allOf ⟨xk, xb, b0, b1, b2, b3, d⟩ bl).length = need xb ∧ ∀ n ∈ allOf ⟨xk, xb, b0, b1, b2, b3, d⟩ bl, n < 128) := HLn.out (by first | trivial | rfl)
    have HQn2 := Lib.hid (fun hb => by first | exact HQn.out hno hb | exact HQn.out (by simp; omega) hb)
    have HQe2 := Lib.hid (fun hb hr => by first | exact HQe.out hno hb hr | exact HQe.out (by simp; omega) hb hr)
    have HQs2 := Lib.hid (fun hb r hr => by first | exact HQs.out hno hb r hr | exact HQs.out (by simp; omega) hb r hr)
    clear HQ0 HQn HQe HQs HNm HXb HLn hno
    go_wp2_with fail
    refine HNw.out.mono ?_
    rintro e w4 ⟨v4, rfl, hv4, hB4⟩
    have HB4 := Lib.hid (HB3.out.trans (hB4.mono HB3.out.size))
    have HI4 := Lib.hid (HI3.out.below hB4 HI3.out.lt)
    clear HNw HI3 ci0 ci1 ci2 ci3 ci4 ci5 ci6
    obtain ⟨E, HE⟩ : ∃ E, Hid (E = numsE ⟨xk, xb, b0, b1, b2, b3, d⟩ bl) := ⟨_, rfl⟩
    rw [← HE.out] at hv4 HLn2 HQn2 HQe2 HQs2 ⊢
    by_cases hE : E = 0
    · obtain ⟨hOw, q4, c4, hvf, hqc⟩ := hv4 hE
      have HOw := Lib.hid hOw
      obtain ⟨hlen, hnum⟩ := HLn2.out hE
      have HQe3 := Lib.hid (HQe2.out hE)
      have HQs3 := Lib.hid (HQs2.out hE)
      obtain ⟨l, Hl⟩ : ∃ l, Hid (l = allOf ⟨xk, xb, b0, b1, b2, b3, d⟩ bl) := ⟨_, rfl⟩
      rw [← Hl.out] at HOw hvf hqc hlen hnum HQe3 HQs3
      have Hnum := Lib.hid hnum
      have Hlen := Lib.hid hlen
      subst hE
      obtain ⟨ln, HLnn⟩ : ∃ ln, Hid (ln = l.length) := ⟨_, rfl⟩
      rw [← HLnn.out] at hvf hqc
      subst hvf
      have ci1 := HI4.out.cell 1
      simp only [VI, List.map_cons, List.map_nil, List.getElem?_cons_zero, List.getElem?_cons_succ] at ci1
      obtain ⟨mn, HMn⟩ : ∃ mn, Hid (mn = min n (xb - off)) := ⟨_, rfl⟩
      have hmin : ∀ W : World, (Builtin.min_ #[3, 3] 3 #[.int .i64 n, .int .i64 (xb - off)]).run Try.prog W = .ok (.int .i64 mn) W := by
        intro W
        by_cases hh : n ≤ xb - off
        · rw [show mn = n by rw [HMn.out]; omega]; simp [Builtin.min_, Builtin.min2]; omega
        · rw [show mn = xb - off by rw [HMn.out]; omega]; simp [Builtin.min_, Builtin.min2]; omega
      obtain ⟨EE, HEE⟩ : ∃ EE, Hid (EE = off + mn) := ⟨_, rfl⟩
      have hEE : EE = min (off + n) xb := by rw [HEE.out, HMn.out]; omega
      have HEnd : Hid (endR ⟨xk, xb, b0, b1, b2, b3, d⟩ off n = EE) := by show _ = _; rw [HEE.out, HMn.out]; rfl
      rw [HEnd.out] at HQe3 HQs3
      have hw1 : IntKind.i64.wrap (xb - off) = xb - off := Bm.wrapB _ ⟨by omega, by omega⟩
      have hw2 : IntKind.i64.wrap (off + mn) = EE := by rw [← HEE.out]; exact Bm.wrapB _ ⟨by omega, by omega⟩
      have HEm := Lib.hid hEE
      clear hv4 hOw hB4 HLn2 HQn2 HQe2 HQs2 hlen hnum hEE
      go_wp2_with fail
      by_cases hlt0 : off < EE
      · obtain ⟨f0, rfl⟩ : ∃ f : Nat, off = (f : Int) := ⟨off.toNat, by omega⟩
        obtain ⟨ee, rfl⟩ : ∃ f : Nat, EE = (f : Int) := ⟨EE.toNat, by omega⟩
        have heb : (ee : Int) ≤ xb := by have := HEm.out; omega
        rw [Int.toNat_natCast, Int.toNat_natCast] at HQe3 HQs3
        obtain ⟨X, HX⟩ : ∃ X, Hid (X = rd bl l (ee - f0) f0 ee) := ⟨_, rfl⟩
        rw [← HX.out] at HQe3 HQs3
        have HK0 : Hid (∃ k, ee - f0 ≤ k ∧ (rd bl l k f0 ee).map (([] : List UInt8) ++ ·) = X) := ⟨_, Nat.le_refl _, by rw [HX.out]; cases rd bl l (ee - f0) f0 ee <;> rfl⟩
        have HO4 : Hid (Own w4 w4.heap.size 5 (.slice none 0 0) (([] : List UInt8).map V8)) := Own.nil _ _ _
        have HBB : Hid (Below w4.heap.size w4 w4) := Below.refl _ _
        have HFrom : Hid (From w4 (.slice (some ⟨q4, 0, none⟩) ln c4) (VNs l)) := HOw.out.from_
        have hf0 : (f0 : Int) < (ee : Int) := hlt0
        have hle4 : w.heap.size ≤ w4.heap.size := HB4.out.size
        clear hmin hw1 hw2 HEm HEE HMn HEnd ci1 HOw hqc hlt0 HI4
        go_loopw [2, 12] (fun fv v wr => ∃ (vv : Value) (f : Nat) (acc : List UInt8), vv = v ∧ fv = .int .i64 f ∧ f ≤ ee ∧ acc.length ≤ f ∧ Hid (Own wr w4.heap.size 5 vv (acc.map V8)) ∧ Hid (Below w4.heap.size w4 wr) ∧ Hid (∃ k, ee - f ≤ k ∧ (rd bl l k f ee).map (acc ++ ·) = X)) (fun fv _ _ => ee - (intOf fv).toNat)
        case atStart => exact ⟨_, f0, [], rfl, rfl, by omega, Nat.zero_le _, HO4, HBB, HK0⟩
        case round =>
          rename World => wr
          clear HO4 HBB HK0 HX
          obtain ⟨vv, f, acc, rfl, rfl, hfe, hacc, HO, HB, HK⟩ := hrel
          have HBw : Hid (Below w.heap.size w wr) := HB4.out.trans (HB.out.mono hle4)
          by_cases hlt : f < ee
          · have hlti : (f : Int) < (ee : Int) := by omega
            have hf23 : f ≤ 2304 := by omega
            have HNA := Lib.hid (numberAt_any l f hf23 (by rw [Hlen.out]; exact place_lt2 (by omega)) _ wr (HFrom.out.below HB.out))
            have hn128 : numAt l f < 128 := by
              unfold numAt
              rw [List.getD_eq_getElem?_getD]
              rcases hq : l[placeOf f]? with _ | y
              · exact Nat.succ_pos _
              · exact Hnum.out y (List.mem_of_getElem? hq)
            obtain ⟨k, hk1, hk⟩ : ∃ k, ee - f ≤ k + 1 ∧ (rd bl l (k + 1) f ee).map (acc ++ ·) = X := by
              obtain ⟨k, h1, h2⟩ := HK.out
              exact ⟨k - 1, by omega, by rw [show k - 1 + 1 = k by omega]; exact h2⟩
            rw [rd, if_pos hlt] at hk
            by_cases hin : numAt l f < bl.length
            · rw [if_pos hin] at hk
              have HLd := Lib.hid (FiLoad_in (h.below HBw.out) (numAt l f) hin)
              obtain ⟨u, HU⟩ : ∃ u, Hid (u = f % 64) := ⟨_, rfl⟩
              have hu64 : u < 64 := by rw [HU.out]; omega
              obtain ⟨kk, HKK⟩ : ∃ kk, Hid (kk = min (64 - u) (ee - f)) := ⟨_, rfl⟩
              have hk0 : 0 < kk := by rw [HKK.out]; omega
              have hku : u + kk ≤ 64 := by rw [HKK.out]; omega
              have hkf : f + kk ≤ ee := by rw [HKK.out]; omega
              obtain ⟨p, HP⟩ : ∃ p, Hid (p = partOf bl l f ee) := ⟨_, rfl⟩
              have hbl64 : (Fil.blk bl (numAt l f)).length = 64 := (h.blk _ hin).len
              have hpl : p.length = kk := by
                rw [HP.out]; unfold partOf
                rw [List.length_take, List.length_drop, hbl64, ← HU.out, ← HKK.out]
                omega
              have Hpl := Lib.hid hpl
              have hmm : min (64 - f % 64) (ee - f) = kk := by rw [← HU.out, ← HKK.out]
              rw [hmm, ← HP.out, Option.map_map] at hk
              have HK2 : Hid (∃ k, ee - (f + kk) ≤ k ∧ (rd bl l k (f + kk) ee).map ((acc ++ p) ++ ·) = X) := ⟨k, by omega, by
                rw [← hk]
                congr 1
                funext s
                simp [List.append_assoc]⟩
              have hpe : p = ((Fil.blk bl (numAt l f)).drop u).take kk := by rw [HP.out]; unfold partOf; rw [hmm, ← HU.out]
              have Hpe := Lib.hid hpe
              have hfm : Int.tmod (f : Int) 64 = (u : Int) := by rw [HU.out, Int.tmod_eq_emod_of_nonneg (by omega)]; omega
              have hfm2 : (f : Int) % 64 = (u : Int) := by rw [HU.out]; omega
              obtain ⟨hi, HHi⟩ : ∃ hi, Hid (hi = u + kk) := ⟨_, rfl⟩
              have hmin2 : ∀ W : World, (Builtin.min_ #[3, 3] 3 #[.int .i64 64, .int .i64 ((u : Int) + (ee : Int) - (f : Int))]).run Try.prog W = .ok (.int .i64 (hi : Int)) W := by
                intro W
                by_cases hh : 64 ≤ (u : Int) + (ee : Int) - (f : Int)
                · rw [show (hi : Int) = 64 by rw [HHi.out, HKK.out]; omega]; simp [Builtin.min_, Builtin.min2]; omega
                · rw [show (hi : Int) = (u : Int) + (ee : Int) - (f : Int) by rw [HHi.out, HKK.out]; omega]; simp [Builtin.min_, Builtin.min2]; omega
              have hhi64 : hi ≤ 64 := by rw [HHi.out]; exact hku
              have huhi : u ≤ hi := by rw [HHi.out]; omega
              have hhiu : hi - u = kk := by rw [HHi.out]; omega
              have Hhiu := Lib.hid hhiu
              clear hk hmm hpe hpl HK hhiu HU HP
              have hu64i : (u : Int) < 64 := by omega
              have hfi : (f : Int) ≤ 2304 := by omega
              have hei : (ee : Int) ≤ 2304 := by omega
              have hhii : (hi : Int) ≤ 64 := by omega
              have huhii : (u : Int) ≤ (hi : Int) := by omega
              have hbk := Lib.hid hbl64
              clear hbl64
              obtain ⟨bs, Hbs⟩ : ∃ bs, Hid (bs = Fil.blk bl (numAt l f)) := ⟨_, rfl⟩
              rw [← Hbs.out] at HLd Hpe
              generalize numAt l f = nn at *
              go_wp2_with fail
              refine HNA.out.mono ?_
              rintro e w5 ⟨rfl, rfl⟩
              go_wp2_with fail
              refine HLd.out.mono ?_
              rintro e w6 ⟨v6, gq, rfl, hv6, hq6, hB6⟩
              obtain ⟨cv, rfl, hc64⟩ := hv6.out.val
              have HB6 : Hid (Below w4.heap.size w4 w6) := HB.out.trans (hB6.mono HB.out.size)
              have HO6 : Hid (Own w6 w4.heap.size 5 vv (acc.map V8)) := HO.out.below hB6 (Nat.le_refl _)
              have HFr6 : Hid (From w6 (.slice (some ⟨gq, u, none⟩) kk (cv - u)) (p.map V8)) := by
                refine .inr ⟨gq, u, cv - u, by rw [List.length_map, Hpl.out], hv6.out.lt, fun j v hv => ?_⟩
                rw [Hpe.out, List.map_take, List.getElem?_take] at hv
                split at hv
                · rw [List.map_drop, List.getElem?_drop] at hv
                  have := hv6.out.here.1 (u + j) v hv
                  rwa [Nat.zero_add] at this
                · cases hv
              have H1 : Hid (∀ y ∈ p.map V8, y.oneCell' = true) := V8_one p
              have HLs : Hid ((acc.map V8).length + (p.map V8).length ≤ 100000000) := by show _ ≤ _; rw [List.length_map, List.length_map, Hpl.out]; omega
              have HBs6 := Lib.hid HB6.out.size
              have hne : ¬ cv = u := by omega
              have hle : u ≤ cv := by omega
              have hhc : hi ≤ cv := by omega
              have h1 := Hhiu.out
              clear HO HB HBw hB6 hq6 hv6 HNA HLd
              go_wp2_with (first | (refine wpList_app rfl (.tmp 75) (.tmp 76) 41 rfl w4.heap.size 5 Try.underlying41 info8 rfl (by decide) vv (acc.map V8) rfl HO6.out _ (p.map V8) rfl (by first | exact HFr6.out | (rw [Hhiu.out]; exact HFr6.out)) H1.out HLs.out HBs6.out ?_; intro v7 w7 ho7 hg7 _; have HO7 : Hid (Own w7 w4.heap.size 5 v7 ((acc ++ p).map V8)) := (by rw [List.map_append]; exact ho7); have HB7 : Hid (Below w4.heap.size w4 w7) := below_app HB6.out HO6.out hg7 (Nat.le_refl _) HB6.out.size; clear ho7 hg7) | fail)
              refine ⟨⟨v7, f + kk, acc ++ p, rfl, by rw [Int.natCast_add], hkf, by rw [List.length_append, Hpl.out]; omega, HO7, HB7, HK2⟩, ?_⟩
              show ee - (((f : Int) + (kk : Int))).toNat < ee - ((f : Int)).toNat
              omega
            · rw [if_neg hin] at hk
              have HLd := Lib.hid (FiLoad_out (h.below HBw.out) (numAt l f : Nat) (⟨by omega, by omega⟩ : In64 ((numAt l f : Nat) : Int)) (by omega))
              have HP := Lib.hid (HQe3.out hk.symm)
              clear HK hk HO HB
              generalize numAt l f = nn at *
              go_wp2_with fail
              refine HNA.out.mono ?_
              rintro e w5 ⟨rfl, rfl⟩
              go_wp2_with fail
              refine HLd.out.mono ?_
              rintro e w6 ⟨rfl, rfl⟩
              go_wp2_with fail
              go_ret2
              exact ⟨_, [], 1, rfl, HP.out, HNil.out _, HBw.out⟩
          · have hX : X = some acc := by
              obtain ⟨k, _, hk⟩ := HK.out
              rw [rd_end bl l k f ee hlt] at hk
              rw [← hk]; simp
            have HP := Lib.hid (HQs3.out acc hX)
            have HA : Hid (ArgHi wr w.heap.size vv acc) := (HO.out.base hle4).argHi
            have hlti : ¬ (f : Int) < (ee : Int) := by omega
            clear HK hX HO HB
            go_wp2_with fail
            go_ret2
            exact ⟨vv, acc, 0, rfl, HP.out, HA, HBw.out⟩
      · have HP := Lib.hid (HQs3.out [] (by rw [rd_end]; omega))
        have hEo : EE ≤ off := by omega
        clear HQe3 HQs3 HOw hmin hw1 hw2
        refine wp_loop_rounds 1 ?_
        rw [rounds_succ]
        go_wp2_with fail
        go_ret2
        exact ⟨_, [], 0, rfl, HP.out, HNil.out _, HB4.out⟩
    · have hne : (E != 0) = true := by simpa using hE
      have HP := Lib.hid (HQn2.out hE)
      clear HLn2 HQn2 HQe2 HQs2 hv4 hB4
      go_wp2_with fail
      go_ret2
      exact ⟨_, [], E, rfl, HP.out, HNil.out _, HB4.out⟩
end
end Go.Proofs.Ytiafmghdiidniaa
