/-
  3 TEXTS IN ONE (HmW, HmTA, HmTK): each says at its own head what it holds.
-/
import Derived.Test.YtepbnimheedodaaDoorHmV
import Derived.Test.YtepbnimheedodaaDoorHmK
import Derived.Test.YtepbnimheedodaaDoorHmX
import Derived.Test.YtepbnimheedodaaDoorHmG
import Derived.Laws.BytesArg
import Derived.Laws.MakeOwn
import Derived.Deep.RegionHeld3
import Derived.Deep.RegionWith
import Derived.Laws.StructEq

section
/-
  THE WALKS of the reference's Prime, Constants and Sum.
-/
namespace Go.Proofs.YtepbnimheedodaaDoor.Hm
open Go.RowKit Sha

def PEq (n f d : Nat) : Prop := primeN n = primeGo n f d
theorem PEq.no {n f d : Nat} (h : PEq n (f + 1) d) (hd : d * d ≤ n) (hm : n % d = 0) : primeN n = false := by
  rw [h, primeGo, if_pos hd, if_pos hm]
theorem PEq.on {n f d : Nat} (h : PEq n (f + 1) d) (hd : d * d ≤ n) (hm : ¬ n % d = 0) : PEq n f (d + 1) := by
  unfold PEq at h ⊢
  rw [h, primeGo, if_pos hd, if_neg hm]
theorem PEq.yes {n f d : Nat} (h : PEq n f d) (hd : ¬ d * d ≤ n) : primeN n = true := by
  rw [h]
  cases f with
  | zero => rfl
  | succ f => rw [primeGo, if_neg hd]

set_option maxHeartbeats 400000 in
theorem Prime_any (n : Nat) (h2 : 2 ≤ n) (hn : n ≤ 1000) (w : World) :
    Calls Tryd.prog 35 #[.int .u64 n] w fun e w' => e = .returned (.bool (primeN n)) ∧ w = w' := by
  go_enter Tryd.func35, Tryd.ntmps35
  go_wp2
  go_loop [3] (fun t => ∃ d f : Nat, 2 ≤ d ∧ d + f = n + 2 ∧ t = .int .u64 d ∧ PEq n f d) (fun t => n + 2 - (intOf t).toNat)
  case atStart => exact ⟨2, n, by omega, by omega, rfl, rfl⟩
  case round =>
    obtain ⟨d, f, hd, hf, rfl, hp⟩ := hrel
    have hd2 : d ≤ n + 2 := by omega
    have hmul : d * d ≤ 1002 * 1002 := Nat.mul_le_mul (by omega) (by omega)
    have hmi : (d : Int) * d = ((d * d : Nat) : Int) := by rw [Int.natCast_mul]
    by_cases hdd : d * d ≤ n
    · have hdn : d ≤ n := Nat.le_trans (Nat.le_mul_of_pos_left d (by omega)) hdd
      obtain ⟨g, rfl⟩ : ∃ g, f = g + 1 := ⟨f - 1, by omega⟩
      by_cases hm : n % d = 0
      · have hfin := hp.no hdd hm
        have HF := Lib.hid hfin
        have HM := Lib.hid hmi
        have hle : (d : Int) * d ≤ n := by rw [hmi]; omega
        have hmb : ((n : Int) % (d : Int) == 0) = true := by rw [← Int.natCast_emod, hm]; rfl
        clear hfin hmi hp hm hdd hf
        go_wp2
        go_ret
        exact ⟨by rw [HF.out]; rfl, rfl⟩
      · have hnx := hp.on hdd hm
        have hle : (d : Int) * d ≤ n := by rw [hmi]; omega
        have hmb : ((n : Int) % (d : Int) == 0) = false := by
          rw [← Int.natCast_emod, beq_eq_false_iff_ne]; omega
        clear hmi hp hm hdd
        go_wp2
        go_round
        case rel => exact ⟨d + 1, g, by omega, by omega, by go_num, hnx⟩
        case measure => simp [intOf]; omega
    · have hfin := hp.yes hdd
      have HF := Lib.hid hfin
      have hle : (n : Int) < (d : Int) * d := by rw [hmi]; omega
      clear hfin hmi hp hdd hf
      go_wp2
      go_ret
      exact ⟨by rw [HF.out]; simp; omega, rfl⟩

theorem Prime_int (x : Int) (n : Nat) (hx : x = (n : Int)) (h2 : 2 ≤ n) (hn : n ≤ 1000) (w : World) :
    Calls Tryd.prog 35 #[.int .u64 x] w fun e w' => e = .returned (.bool (primeN n)) ∧ w = w' := by
  subst hx
  exact Prime_any n h2 hn w
theorem Root_word (z : Int) (n : Nat) (hz : z = (n : Int)) (hn : n < 18446744073709551616) (c : Bool) (w : World) :
    Calls Tryd.prog 36 #[.int .u64 z, .bool c] w fun e w' => ∃ x : UInt32, Hid (x = UInt32.ofNat (rootN n c)) ∧ e = .returned (.int .u32 x.toNat) ∧ Below w.heap.size w w' := by
  subst hz
  have h : ∀ c, (UInt32.ofNat (rootN n c)).toNat = rootN n c := fun c => toNat_ofNat32 (Nat.mod_lt _ (by omega))
  cases c
  · exact (Root_false n hn w).mono fun e w' k => ⟨_, rfl, by rw [h]; exact k.1, k.2⟩
  · exact (Root_true n hn w).mono fun e w' k => ⟨_, rfl, by rw [h]; exact k.1, k.2⟩

/-- The rows behind k numbers. -/
def CEq (k : Nat) (l : List UInt32) : Prop := l = rootsC k
def REq (k : Nat) (l : List UInt32) : Prop := l = rootsR k
theorem CEq.few {k : Nat} {l : List UInt32} (h : CEq k l) (hk : k < 310) : l.length < 64 := by
  rw [h, rootsC, List.length_map]; exact primes_few k hk
theorem CEq.all {l : List UInt32} (h : CEq 310 l) : l = K0 := h.trans rootsC_all
theorem REq.all {l : List UInt32} (h : REq 310 l) : l = R0.list := h.trans rootsR_all
theorem RC_len {k : Nat} {l m : List UInt32} (h : REq k l) (g : CEq k m) : l.length = min 8 m.length := by
  rw [h, g, rootsR, rootsC, List.length_map, List.length_map, List.length_take]
theorem CEq.skip {k : Nat} {l : List UInt32} (h : CEq k l) (hp : primeN (k + 2) = false) : CEq (k + 1) l := by
  unfold CEq rootsC at *
  rw [primesTo, hp]
  exact h
theorem REq.skip {k : Nat} {l : List UInt32} (h : REq k l) (hp : primeN (k + 2) = false) : REq (k + 1) l := by
  unfold REq rootsR at *
  rw [primesTo, hp]
  exact h
theorem CEq.more {k : Nat} {l : List UInt32} (h : CEq k l) (hp : primeN (k + 2) = true) {x : UInt32} (hx : x = UInt32.ofNat (rootN (k + 2) true)) : CEq (k + 1) (l ++ [x]) := by
  unfold CEq rootsC at *
  rw [primesTo, hp, if_pos rfl, List.map_append, h, hx]
  rfl
theorem REq.more {k : Nat} {l m : List UInt32} (h : REq k l) (g : CEq k m) (hl : l.length < 8) (hp : primeN (k + 2) = true) {x : UInt32} (hx : x = UInt32.ofNat (rootN (k + 2) false)) : REq (k + 1) (l ++ [x]) := by
  have hlen := RC_len h g
  have hm : (primesTo k).length < 8 := by
    rw [g, rootsC, List.length_map] at hlen
    omega
  unfold REq rootsR at *
  have e1 : (primesTo k ++ [k + 2]).take 8 = primesTo k ++ [k + 2] := List.take_of_length_le (by rw [List.length_append]; simp only [List.length_cons, List.length_nil]; omega)
  have e2 : (primesTo k).take 8 = primesTo k := List.take_of_length_le (by omega)
  rw [primesTo, hp, if_pos rfl, e1, h, e2, hx, List.map_append]
  rfl
theorem REq.full {k : Nat} {l m : List UInt32} (h : REq k l) (g : CEq k m) (hl : ¬ l.length < 8) (hp : primeN (k + 2) = true) : REq (k + 1) l := by
  have hlen := RC_len h g
  have hm : 8 ≤ (primesTo k).length := by
    rw [g, rootsC, List.length_map] at hlen
    omega
  unfold REq rootsR at *
  rw [primesTo, hp, if_pos rfl, h, List.take_append_of_le_length hm]

/-- Two rows lie in unlike blocks. -/
def Apart (r c : Value) : Prop := ∀ g, r.ownBlock = some g → c.ownBlock ≠ some g
theorem Apart.symm {r c : Value} (h : Apart r c) : Apart c r := fun g e k => h g k e
theorem Apart.keep {w w' : World} {B : Nat} {e : TypeId} {r c : Value} {ys : List Value} (h : Apart r c) (hc : Own w B e c ys) (hg : w.grownBy w' r.ownBlock) : Own w' B e c ys := by
  refine hc.kept hg ?_
  cases hr : r.ownBlock with
  | none => cases c.ownBlock <;> simp
  | some g => exact .inr (h g hr)
theorem Apart.next {w : World} {B : Nat} {e : TypeId} {r r' c : Value} {ys : List Value} (h : Apart r c) (hc : Own w B e c ys) (hr : r'.ownBlock = r.ownBlock ∨ r'.ownBlock = some w.heap.size) : Apart r' c := by
  intro g e1 e2
  rcases hr with k | k
  · exact h g (k ▸ e1) e2
  · have := (hc.lt e2).2
    rw [k] at e1
    cases e1
    omega

/-- A row of the call's own, its value written out. -/
theorem Own.shape {w : World} {B : Nat} {e : TypeId} {v : Value} {ys : List Value} (h : Own w B e v ys) : ∃ A c, v = .slice A ys.length c := by
  rcases h.2 with ⟨rfl, h0⟩ | ⟨g, cap, cur, rfl, _⟩
  · exact ⟨none, 0, by rw [h0]⟩
  · exact ⟨_, _, rfl⟩

set_option maxRecDepth 100000 in
set_option maxHeartbeats 1000000 in
theorem Constants_any (w : World) :
    Calls Tryd.prog 22 #[] w fun e w' => ∃ r c, e = .returned (.tuple #[r, c]) ∧ Own w' w.heap.size 89 r (R0.list.map V32) ∧ Own w' w.heap.size 89 c (K0.map V32) ∧ Below w.heap.size w w' := by
  go_enter Tryd.func22, Tryd.ntmps22
  go_wp2
  go_loopw [2, 3, 4] (fun r c n wr => ∃ (k : Nat) (l m : List UInt32), k ≤ 310 ∧ n = .int .u64 ((k : Int) + 2) ∧ REq k l ∧ CEq k m ∧ Own wr w.heap.size 89 r (l.map V32) ∧ Own wr w.heap.size 89 c (m.map V32) ∧ Apart r c ∧ Below w.heap.size w wr) (fun _ _ n _ => 400 - (intOf n).toNat)
  case atStart => exact ⟨0, [], [], by omega, rfl, rfl, rfl, Own.nil _ _ _, Own.nil _ _ _, (fun g e => by cases e), Below.refl _ _⟩
  case round =>
    obtain ⟨k, l, m, hk, rfl, hR, hC, hro, hco, hap, hbel⟩ := hrel
    have hsz := hbel.size
    obtain ⟨A2, c2, hv2⟩ := hco.shape
    obtain ⟨A1, c1, hv1⟩ := hro.shape
    rw [List.length_map] at hv1 hv2
    have hlen := RC_len hR hC
    by_cases hlt : k < 310
    · have hm64 := hC.few hlt
      have Hro := Lib.hid hro
      have Hco := Lib.hid hco
      have HV1 := Lib.hid hv1
      have HV2 := Lib.hid hv2
      have hpr := fun W => Prime_int ((k : Int) + 2) (k + 2) (by omega) (by omega) (by omega) W
      have HPR := Lib.hid hpr
      cases hp : primeN (k + 2)
      · have hR2 := hR.skip hp
        have hC2 := hC.skip hp
        rw [hp] at HPR
        rw [hv1, hv2]
        clear hpr hv1 hv2 hro hco hlen hR hC
        go_wp2_with fail
        refine (HPR.out wr).mono ?_
        rintro e w1 ⟨rfl, rfl⟩
        go_wp2
        go_roundw
        case rel => exact ⟨k + 1, l, m, by omega, by go_num, hR2, hC2, HV1.out ▸ Hro.out, HV2.out ▸ Hco.out, HV1.out ▸ HV2.out ▸ hap, hbel⟩
        case measure => simp [intOf]; omega
      · rw [hp] at HPR
        by_cases hl8 : l.length < 8
        · have HRm : Hid (∀ x : UInt32, x = UInt32.ofNat (rootN (k + 2) false) → REq (k + 1) (l ++ [x])) := fun x hx => hR.more hC hl8 hp hx
          have HCm : Hid (∀ x : UInt32, x = UInt32.ofNat (rootN (k + 2) true) → CEq (k + 1) (m ++ [x])) := fun x hx => hC.more hp hx
          rw [hv1] at Hro hap
          rw [hv2] at Hco hap
          rw [hv1, hv2]
          clear hpr hv1 hv2 hro hco hlen hR hC HV1 HV2
          go_wp2_with fail
          refine (HPR.out wr).mono ?_
          rintro e w1 ⟨rfl, rfl⟩
          go_wp2_with fail
          refine (Root_word _ (k + 2) (by omega) (by omega) false wr).mono ?_
          rintro e w1 ⟨x, HX, rfl, hb1⟩
          have Hro1 : Hid (Own w1 w.heap.size 89 (.slice A1 l.length c1) (l.map V32)) := Own.below Hro.out hb1 (Nat.le_refl _)
          have Hco1 : Hid (Own w1 w.heap.size 89 (.slice A2 m.length c2) (m.map V32)) := Own.below Hco.out hb1 (Nat.le_refl _)
          have hbw1 : Below w.heap.size w w1 := hbel.trans (hb1.mono hsz)
          have hsz1 := hbw1.size
          have HL1 : Hid ((l.map V32).length + [V32 x].length ≤ 100000000) := by show _ ≤ _; rw [List.length_map]; simp; omega
          have Hap := Lib.hid hap
          clear hap
          go_wp2_with (at_builtin; refine wpList_app rfl (.tmp 16) (.tmp 19) 58 rfl w.heap.size 89 Tryd.underlying58 info32 rfl (by decide) _ (l.map V32) rfl (Hro1.out.alloc _) _ [V32 x] rfl (from_new w1 89 [V32 x]) (oneC32 [x]) HL1.out (by simp; omega) ?_; intro r2 w2 hown2 hg2 hat2)
          have Hro2 : Hid (Own w2 w.heap.size 89 r2 ((l ++ [x]).map V32)) := by rw [List.map_append]; exact hown2
          have Hco2 : Hid (Own w2 w.heap.size 89 (.slice A2 m.length c2) (m.map V32)) := Hap.out.keep (Hco1.out.alloc _) hg2
          have Hap2 : Hid (Apart r2 (.slice A2 m.length c2)) := Hap.out.next (Hco1.out.alloc _) hat2
          have hbw2 : Below w.heap.size w w2 := below_app (hbw1.alloc hsz1 _) (Hro1.out.alloc _) hg2 (Nat.le_refl _) (by simp; omega)
          clear hown2 hg2 hat2 Hro1 Hco1 Hap Hro Hco HL1
          refine (Root_word _ (k + 2) (by omega) (by omega) true w2).mono ?_
          rintro e w3 ⟨y, HY, rfl, hb3⟩
          have Hro3 : Hid (Own w3 w.heap.size 89 r2 ((l ++ [x]).map V32)) := Own.below Hro2.out hb3 (Nat.le_refl _)
          have Hco3 : Hid (Own w3 w.heap.size 89 (.slice A2 m.length c2) (m.map V32)) := Own.below Hco2.out hb3 (Nat.le_refl _)
          have hbw3 : Below w.heap.size w w3 := hbw2.trans (hb3.mono hbw2.size)
          have hsz3 := hbw3.size
          have HL3 : Hid ((m.map V32).length + [V32 y].length ≤ 100000000) := by show _ ≤ _; rw [List.length_map]; simp; omega
          go_wp2_with (at_builtin; refine wpList_app rfl (.tmp 21) (.tmp 24) 58 rfl w.heap.size 89 Tryd.underlying58 info32 rfl (by decide) _ (m.map V32) rfl (Hco3.out.alloc _) _ [V32 y] rfl (from_new w3 89 [V32 y]) (oneC32 [y]) HL3.out (by simp; omega) ?_; intro c4 w4 hown4 hg4 hat4)
          go_roundw
          case rel =>
            refine ⟨k + 1, _, _, by omega, by go_num, HRm.out x HX.out, HCm.out y HY.out, Hap2.out.symm.keep (Hro3.out.alloc _) hg4, by rw [List.map_append]; exact hown4, (Apart.next Hap2.out.symm (Hro3.out.alloc _) hat4).symm, below_app (hbw3.alloc hsz3 _) (Hco3.out.alloc _) hg4 (Nat.le_refl _) (by simp; omega)⟩
          case measure => simp [intOf]; omega
        · have HRf : Hid (REq (k + 1) l) := hR.full hC hl8 hp
          have HCm : Hid (∀ x : UInt32, x = UInt32.ofNat (rootN (k + 2) true) → CEq (k + 1) (m ++ [x])) := fun x hx => hC.more hp hx
          rw [hv1] at Hro hap
          rw [hv2] at Hco hap
          rw [hv1, hv2]
          have Hap := Lib.hid hap
          clear hpr hv1 hv2 hro hco hlen hR hC HV1 HV2 hap
          go_wp2_with fail
          refine (HPR.out wr).mono ?_
          rintro e w1 ⟨rfl, rfl⟩
          go_wp2_with fail
          refine (Root_word _ (k + 2) (by omega) (by omega) true wr).mono ?_
          rintro e w3 ⟨y, HY, rfl, hb3⟩
          have Hro3 : Hid (Own w3 w.heap.size 89 (.slice A1 l.length c1) (l.map V32)) := Own.below Hro.out hb3 (Nat.le_refl _)
          have Hco3 : Hid (Own w3 w.heap.size 89 (.slice A2 m.length c2) (m.map V32)) := Own.below Hco.out hb3 (Nat.le_refl _)
          have hbw3 : Below w.heap.size w w3 := hbel.trans (hb3.mono hbel.size)
          have hsz3 := hbw3.size
          have HL3 : Hid ((m.map V32).length + [V32 y].length ≤ 100000000) := by show _ ≤ _; rw [List.length_map]; simp; omega
          go_wp2_with (at_builtin; refine wpList_app rfl (.tmp 21) (.tmp 24) 58 rfl w.heap.size 89 Tryd.underlying58 info32 rfl (by decide) _ (m.map V32) rfl (Hco3.out.alloc _) _ [V32 y] rfl (from_new w3 89 [V32 y]) (oneC32 [y]) HL3.out (by simp; omega) ?_; intro c4 w4 hown4 hg4 hat4)
          go_roundw
          case rel =>
            refine ⟨k + 1, _, _, by omega, by go_num, HRf.out, HCm.out y HY.out, Hap.out.symm.keep (Hro3.out.alloc _) hg4, by rw [List.map_append]; exact hown4, (Apart.next Hap.out.symm (Hro3.out.alloc _) hat4).symm, below_app (hbw3.alloc hsz3 _) (Hco3.out.alloc _) hg4 (Nat.le_refl _) (by simp; omega)⟩
          case measure => simp [intOf]; omega
    · obtain rfl : k = 310 := by omega
      have hm : m = K0 := hC.all
      have hl : l = R0.list := hR.all
      subst hm hl
      rw [show K0.length = 64 from rfl] at hv2
      rw [hv2] at hco ⊢
      have Hro := Lib.hid hro
      have Hco := Lib.hid hco
      clear hR hC hlen hv1 hv2 hro hco
      go_wp2
      go_ret2
      exact ⟨_, _, rfl, Hro.out, Hco.out, hbel⟩
end Go.Proofs.YtepbnimheedodaaDoor.Hm
end

section
/-
  TOOLS for the laws on tags: bytes as arguments, as arrays, as strings; the digest, the full key, the tag, joined parts.
-/
namespace Go.Proofs.YtepbnimheedodaaDoor.Hm
open Go.RowKit Sha

theorem Own.arg {w : World} {B : Nat} {v : Value} {bs : List UInt8} (h : Own w B 5 v (bs.map V8)) : Arg w v bs := by
  rcases h.2 with ⟨rfl, h0⟩ | ⟨g, cap, cur, rfl, _, hg, hc, _⟩
  · exact .inl ⟨none, rfl, List.eq_nil_of_length_eq_zero (by simpa using h0)⟩
  · rw [List.length_map] at hc
    refine .inr ⟨g, 0, cap, by rw [List.length_map], (Array.getElem?_eq_some_iff.1 hg).1, hc, fun j u hu => ?_⟩
    have := World.ownsRow.cells h (g := g) rfl j u hu
    rwa [add_off] at this
theorem arg_from {w : World} {v : Value} {bs : List UInt8} (h : Arg w v bs) : From w v (bs.map V8) := by
  rcases h with ⟨A, e, rfl⟩ | ⟨b, o, c, e, hb, _, hs⟩
  · exact .inl ⟨A, e, rfl⟩
  · exact .inr ⟨b, o, c, by rw [List.length_map]; exact e, hb, hs⟩
theorem Arg.src {w : World} {A : Option Addr} {n cap : Nat} {bs : List UInt8} (h : Arg w (.slice A n cap) bs) (hp : 0 < bs.length) : ∃ ad, A = some ad ∧ ∀ (j : Nat) v, (bs.map V8)[j]? = some v → w.cell? (ad.add j) = some v := by
  rcases h with ⟨A', e, rfl⟩ | ⟨b, o, c, e, _, _, hs⟩
  · simp at hp
  · injection e with e1 _ _
    refine ⟨_, e1, fun j v hv => ?_⟩
    rw [add_off]
    exact hs j v hv
theorem Arg.form {w : World} {v : Value} {bs : List UInt8} (h : Arg w v bs) : ∃ A cap, v = .slice A bs.length cap := by
  rcases h with ⟨A, e, rfl⟩ | ⟨b, o, c, e, _⟩
  · exact ⟨A, 0, e⟩
  · exact ⟨_, c, e⟩
theorem Row.arg {w : World} {g : Nat} {t : TypeId} {bs : List UInt8} (h : Row w g t (bs.map V8)) (n : Nat) (hn : bs.length = n) : Arg w (.slice (some ⟨g, 0, none⟩) n n) bs :=
  .inr ⟨g, 0, n, by rw [hn], h.lt, by omega, h.sees⟩

/-- Bytes as a string. -/
def strB (bs : List UInt8) : ByteArray := ⟨bs.toArray⟩
theorem strB_inj {a b : List UInt8} : strB a = strB b ↔ a = b := by
  constructor
  · intro h
    have := congrArg (fun x : ByteArray => x.data.toList) h
    simpa [strB] using this
  · intro h; rw [h]
set_option maxRecDepth 100000 in
theorem conv_arg {w : World} {v : Value} {bs : List UInt8} (h : Arg w v bs) : (convert 22 9 v).run Tryd.prog w = .ok (.string (strB bs)) w := by
  rcases h with ⟨A, rfl, rfl⟩ | ⟨b, o, cap, rfl, _, _, hs⟩
  · cases A with
    | none => exact run_convert_bytes_nil w 22 5 Tryd.underlying22 Tryd.underlying5 0 0 9 Tryd.underlying9
    | some ad =>
      rw [run_convert_bytes_string w 22 9 5 (some ad) 0 0 Tryd.underlying22 Tryd.underlying5 Tryd.underlying9]
      exact run_bytesToString w ad 0 0 [] (by simp [loadCells, loadCellsFrom])
  · have hx := run_convert_bytes_arg (P := Tryd.prog) w 22 5 Tryd.underlying22 Tryd.underlying5 b o bs.length cap (bs.map fun x => (x.toNat : Int)) (by simp) (fun i hi => by
      have := at8 hs i hi
      rw [this]
      simp [hi]) 9 Tryd.underlying9
    rw [hx]
    congr 2
    unfold strB
    have : (strOfNums (bs.map fun x => (x.toNat : Int))).data.toList = bs := by
      rw [strOfNums_data, List.map_map]
      conv => rhs; rw [← List.map_id bs]
      apply List.map_congr_left
      intro x _
      simp
    cases hq : strOfNums (bs.map fun x => (x.toNat : Int)) with
    | mk d => rw [hq] at this; simp at this; rw [← this]

/-- The digest of some bytes. -/
def dg (bs : List UInt8) : List UInt8 := dig (sumSt K0 bs)
theorem dg_length (bs : List UInt8) : (dg bs).length = 32 := dig_length _
/-- The table of the cube roots lies where it is laid. -/
def Tab (w : World) : Prop := 0 < w.heap.size ∧ Sees w 0 0 (K0.map V32)
theorem Tab.below {w w' : World} (h : Tab w) (hb : Below w.heap.size w w') : Tab w' := ⟨Nat.lt_of_lt_of_le h.1 hb.size, h.2.below hb h.1⟩
/-- The cells of an array of n bytes. -/
def Vec (n : Nat) (bs : List UInt8) (rs : List Value) : Prop := rs = bs.map V8 ∧ bs.length = n
section
variable {n : Nat} {bs : List UInt8} {rs : List Value}
theorem Vec.len (h : Vec n bs rs) : rs.length = n := by rw [h.1, List.length_map, h.2]
theorem Vec.size (h : Vec n bs rs) : rs.toArray.size = n := by rw [List.size_toArray, h.len]
theorem Vec.one (h : Vec n bs rs) : rs.toArray.all (·.oneCell') = true := by rw [h.1]; exact one8 bs
theorem Vec.mk (n : Nat) (bs : List UInt8) (h : bs.length = n) : Vec n bs (bs.map V8) := ⟨rfl, h⟩
theorem Vec.row {w : World} {g : Nat} {t : TypeId} (h : Vec n bs rs) (hr : Row w g t rs) : Row w g t (bs.map V8) := h.1 ▸ hr
end

theorem Sum_vec (v : Value) (bs : List UInt8) (hn : bs.length ≤ 1000000) (w : World) (hT : Tab w) (h : Arg w v bs) :
    Calls Tryd.prog 83 #[v] w fun e w' => ∃ rs : List Value, Hid (Vec 32 (dg bs) rs) ∧ e = .returned (.agg rs.toArray) ∧ Below w.heap.size w w' :=
  (Sum_any v K0 K0_length bs hn w hT.1 hT.2 h).mono fun _ _ h => ⟨_, Vec.mk 32 (dg bs) (dg_length bs), h⟩

/-- The full key, the key with a mask, the tag. -/
def fullK (key : List UInt8) : List UInt8 := pad8 64 (if 64 < key.length then dg key else key)
theorem fullK_length (key : List UInt8) : (fullK key).length = 64 := by
  rw [fullK]
  split
  · exact pad8_length _ _ (by rw [dg_length]; omega)
  · exact pad8_length _ _ (by omega)
def xorK (k : List UInt8) (m : UInt8) : List UInt8 := k.map (· ^^^ m)
theorem xorK_length (k : List UInt8) (m : UInt8) : (xorK k m).length = k.length := List.length_map _
def mac (key b : List UInt8) : List UInt8 := dg (xorK (fullK key) 92 ++ dg (xorK (fullK key) 54 ++ b))
theorem mac_length (key b : List UInt8) : (mac key b).length = 32 := dg_length _
theorem xor8 (x y : UInt8) : bits .xor .u8 (x.toNat : Int) y.toNat = ((x ^^^ y).toNat : Int) := by
  rw [u8_xor_nat _ _ (lt8 x) (lt8 y), UInt8.toNat_xor]
theorem xorK_take (k : List UInt8) (m : UInt8) (j : Nat) (h : j < k.length) : xorK (k.take (j + 1)) m = xorK (k.take j) m ++ [k.getD j 0 ^^^ m] := by
  unfold xorK
  rw [List.take_succ_eq_append_getElem h, List.map_append, List.getD_eq_getElem?_getD, List.getElem?_eq_getElem h]
  rfl

theorem fullK_short (key : List UInt8) (n : Nat) (h1 : key.length ≤ n) (h2 : n ≤ 64) : fullK ((fullK key).take n) = fullK key := by
  have hs : ¬ 64 < key.length := by omega
  have e1 : fullK key = pad8 64 key := by rw [fullK, if_neg hs]
  rw [e1]
  have hl : ((pad8 64 key).take n).length = n := by rw [List.length_take, pad8_length _ _ (by omega)]; omega
  rw [fullK, if_neg (by rw [hl]; omega)]
  unfold pad8 at *
  rw [hl, List.take_append, List.take_of_length_le h1, List.take_replicate, List.append_assoc, List.replicate_append_replicate]
  congr 2
  omega
theorem fullK_long (key : List UInt8) (h : 64 < key.length) : fullK ((fullK key).take 32) = fullK key := by
  have hd := dg_length key
  rw [fullK.eq_1 key, if_pos h]
  have e : (pad8 64 (dg key)).take 32 = dg key := by
    unfold pad8
    rw [List.take_append_of_le_length (by omega), List.take_of_length_le (by omega)]
  rw [e, fullK, if_neg (by omega)]

/-- A number of bytes, in four bytes; all parts, each behind its number of bytes. -/
def lenB (n : Nat) : List UInt8 := [UInt8.ofNat (n / 16777216), UInt8.ofNat (n / 65536), UInt8.ofNat (n / 256), UInt8.ofNat n]
def joined : List (List UInt8) → List UInt8
  | [] => []
  | p :: r => lenB p.length ++ p ++ joined r
theorem joined_snoc (l : List (List UInt8)) (p : List UInt8) : joined (l ++ [p]) = joined l ++ (lenB p.length ++ p) := by
  induction l with
  | nil => simp [joined]
  | cons a r ih => rw [List.cons_append, joined, joined, ih]; simp only [List.append_assoc]
theorem joined_take (l : List (List UInt8)) (j : Nat) (p : List UInt8) (h : l[j]? = some p) : joined (l.take (j + 1)) = joined (l.take j) ++ (lenB p.length ++ p) := by
  rw [List.take_add_one, h, Option.toList_some, joined_snoc]
theorem lenB_inj {a b : Nat} (ha : a < 4294967296) (hb : b < 4294967296) (h : lenB a = lenB b) : a = b := by
  simp only [lenB, List.cons.injEq] at h
  obtain ⟨h1, h2, h3, h4, _⟩ := h
  have e1 := congrArg UInt8.toNat h1
  have e2 := congrArg UInt8.toNat h2
  have e3 := congrArg UInt8.toNat h3
  have e4 := congrArg UInt8.toNat h4
  simp only [UInt8.toNat_ofNat'] at e1 e2 e3 e4
  omega
theorem joined_inj : ∀ {a b : List (List UInt8)}, (∀ p ∈ a, p.length < 4294967296) → (∀ p ∈ b, p.length < 4294967296) → joined a = joined b → a = b
  | [], [], _, _, _ => rfl
  | [], p :: r, _, _, h => by simp [joined, lenB] at h
  | p :: r, [], _, _, h => by simp [joined, lenB] at h
  | p :: r, q :: s, ha, hb, h => by
    rw [joined, joined, List.append_assoc, List.append_assoc] at h
    have h1 := List.append_inj h (by simp [lenB])
    have hl := lenB_inj (ha p (by simp)) (hb q (by simp)) h1.1
    have h2 := List.append_inj h1.2 hl
    rw [h2.1, joined_inj (fun x hx => ha x (by simp [hx])) (fun x hx => hb x (by simp [hx])) h2.2]

/-- Parts of bytes: a slice of slices. -/
def Vals (w : World) (vs : List Value) (ps : List (List UInt8)) : Prop := vs.length = ps.length ∧ ∀ (j : Nat) v p, vs[j]? = some v → ps[j]? = some p → Arg w v p
def Parts (w : World) (v : Value) (ps : List (List UInt8)) : Prop :=
  ∃ A cap vs, v = .slice A ps.length cap ∧ Vals w vs ps ∧ (0 < ps.length → ∃ b o, A = some ⟨b, o, none⟩ ∧ b < w.heap.size ∧ Sees w b o vs)
theorem Vals.below {w w' : World} {vs : List Value} {ps : List (List UInt8)} (h : Vals w vs ps) (hb : Below w.heap.size w w') : Vals w' vs ps := ⟨h.1, fun j v p hv hp => (h.2 j v p hv hp).below hb⟩
theorem Parts.below {w w' : World} {v : Value} {ps : List (List UInt8)} (h : Parts w v ps) (hb : Below w.heap.size w w') : Parts w' v ps := by
  obtain ⟨A, cap, vs, e, hv, hs⟩ := h
  refine ⟨A, cap, vs, e, hv.below hb, fun hp => ?_⟩
  obtain ⟨b, o, eA, hl, hs⟩ := hs hp
  exact ⟨b, o, eA, Nat.lt_of_lt_of_le hl hb.size, hs.below hb hl⟩
/-- The part at place j, and where it lies. -/
theorem Parts.at_ {w : World} {A : Option Addr} {n cap : Nat} {ps : List (List UInt8)} (h : Parts w (.slice A n cap) ps) (j : Nat) (hj : j < n) :
    ∃ b o A' c' p, A = some ⟨b, o, none⟩ ∧ b < w.heap.size ∧ ps[j]? = some p ∧ w.cell? ⟨b, o + j, none⟩ = some (.slice A' p.length c') ∧ Arg w (.slice A' p.length c') p := by
  obtain ⟨A0, cap0, vs, e, hv, hs⟩ := h
  injection e with e1 e2 e3
  subst e1 e2 e3
  obtain ⟨b, o, eA, hl, hs⟩ := hs (by omega)
  have hvj : j < vs.length := by rw [hv.1]; exact hj
  have hp := List.getElem?_eq_getElem hj
  have hvv := List.getElem?_eq_getElem hvj
  have ha := hv.2 j _ _ hvv hp
  obtain ⟨A', c', e'⟩ := ha.form
  refine ⟨b, o, A', c', _, eA, hl, hp, ?_, ?_⟩
  · rw [← e']; exact hs j _ hvv
  · rw [← e']; exact ha
theorem Parts.len {w : World} {A : Option Addr} {n cap : Nat} {ps : List (List UInt8)} (h : Parts w (.slice A n cap) ps) : ps.length = n := by
  obtain ⟨A0, cap0, vs, e, hv, hs⟩ := h
  injection e with e1 e2 e3
  exact e2.symm
end Go.Proofs.YtepbnimheedodaaDoor.Hm
end

section
/-
  TAGS compared with ==: two tags of the same bytes are equal.
-/
namespace Go.Proofs.YtepbnimheedodaaDoor.Hm
open Go.RowKit Sha

theorem tag_eq (bs : List UInt8) (rs : List Value) (h : Vec 32 bs rs) (w : World) : (Op.equalIn 10000 34 (.agg rs.toArray) (.agg rs.toArray)).run Tryd.prog w = .ok true w := by
  have hs : (sizeOf 5).run Tryd.prog w = .ok 1 w := by kernel_rfl
  have ha : (isAgg 5).run Tryd.prog w = .ok false w := by kernel_rfl
  rw [show (10000 : Nat) = 9999 + 1 from rfl, Op.equalIn]
  simp only [Sem.run_bind, run_underlying Tryd.underlying34, Result.andThen_ok, hs]
  simp only [Std.Legacy.Range.forIn_eq_forIn_range', Std.Legacy.Range.size, Nat.sub_zero, Nat.add_sub_cancel, Nat.div_one]
  have key : ∀ L : List Nat, (∀ i ∈ L, i < 32) → (forIn (m := Sem) L ((none, ()) : Option Bool × Unit) fun i _ => do
            let a ← part 5 rs.toArray (i * 1)
            let b ← part 5 rs.toArray (i * 1)
            let c ← Op.equalIn 9999 5 a b
            if (!c) = true then pure (ForInStep.done ((some false, ()) : Option Bool × Unit)) else pure (ForInStep.yield (none, ()))).run Tryd.prog w = .ok (none, ()) w := by
    intro L
    induction L with
    | nil => intro _; rfl
    | cons i r ih =>
      intro hL
      have hi : i < 32 := hL i (by simp)
      have hx : rs[i]? = some (.int .u8 (bs.getD i 0).toNat) := by
        rw [h.1, List.getElem?_map, List.getElem?_eq_getElem (by rw [h.2]; exact hi), List.getD_eq_getElem?_getD, List.getElem?_eq_getElem (by rw [h.2]; exact hi)]
        rfl
      have hp : (part 5 rs.toArray (i * 1)).run Tryd.prog w = .ok (.int .u8 (bs.getD i 0).toNat) w := by
        simp only [part, Sem.run_bind, ha, Result.andThen_ok]
        simp [hx]
      have he : (Op.equalIn 9999 5 (.int .u8 ((bs.getD i 0).toNat : Int)) (.int .u8 ((bs.getD i 0).toNat : Int))).run Tryd.prog w = .ok true w := by
        rw [show (9999 : Nat) = 9998 + 1 from rfl, run_equalIn_int w 9998 5 .u8 .u8 _ _ Tryd.underlying5]
        simp
      rw [List.forIn_cons]
      simp only [Sem.run_bind, hp, Result.andThen_ok, he, Bool.not_true, Bool.false_eq_true, if_false, Sem.run_pure]
      exact ih (fun j hj => hL j (by simp [hj]))
  rw [key _ (fun i hi => by simpa using (List.mem_range'_1.1 hi).2)]
  rfl
end Go.Proofs.YtepbnimheedodaaDoor.Hm
end
