/-
  THE WALKS of the reference's Prime, Constants and Sum.
-/
import Derived.Test.YtcmledlghipcbaaDoorV
import Derived.Test.YtcmledlghipcbaaDoorK
namespace Go.Proofs.YtcmledlghipcbaaDoor
open Go.RowKit Sha

def PEq (n f d : Nat) : Prop := primeN n = primeGo n f d
theorem PEq.no {n f d : Nat} (h : PEq n (f + 1) d) (hd : d * d ≤ n) (hm : n % d = 0) : primeN n = false := by
  rw [h, primeGo, if_pos hd, if_pos hm]
theorem PEq.on {n f d : Nat} (h : PEq n (f + 1) d) (hd : d * d ≤ n) (hm : ¬ n % d = 0) : PEq n f (d + 1) := by
  unfold PEq at h ⊢
  rw [h, primeGo, if_pos hd, if_neg hm]
theorem PEq.yes {n f d : Nat} (h : PEq n f d) (hd : ¬ d * d ≤ n) : primeN n = true := by
  rw [h]
  cases f with
  | zero => rfl
  | succ f => rw [primeGo, if_neg hd]

set_option maxHeartbeats 400000 in
theorem Prime_any (n : Nat) (h2 : 2 ≤ n) (hn : n ≤ 1000) (w : World) :
    Calls Tryd.prog 18 #[.int .u64 n] w fun e w' => e = .returned (.bool (primeN n)) ∧ w = w' := by
  go_enter Tryd.func18, Tryd.ntmps18
  go_wp2
  go_loop [3] (fun t => ∃ d f : Nat, 2 ≤ d ∧ d + f = n + 2 ∧ t = .int .u64 d ∧ PEq n f d) (fun t => n + 2 - (intOf t).toNat)
  case atStart => exact ⟨2, n, by omega, by omega, rfl, rfl⟩
  case round =>
    obtain ⟨d, f, hd, hf, rfl, hp⟩ := hrel
    have hd2 : d ≤ n + 2 := by omega
    have hmul : d * d ≤ 1002 * 1002 := Nat.mul_le_mul (by omega) (by omega)
    have hmi : (d : Int) * d = ((d * d : Nat) : Int) := by rw [Int.natCast_mul]
    by_cases hdd : d * d ≤ n
    · have hdn : d ≤ n := Nat.le_trans (Nat.le_mul_of_pos_left d (by omega)) hdd
      obtain ⟨g, rfl⟩ : ∃ g, f = g + 1 := ⟨f - 1, by omega⟩
      by_cases hm : n % d = 0
      · have hfin := hp.no hdd hm
        have HF := Lib.hid hfin
        have HM := Lib.hid hmi
        have hle : (d : Int) * d ≤ n := by rw [hmi]; omega
        have hmb : ((n : Int) % (d : Int) == 0) = true := by rw [← Int.natCast_emod, hm]; rfl
        clear hfin hmi hp hm hdd hf
        go_wp2
        go_ret
        exact ⟨by rw [HF.out]; rfl, rfl⟩
      · have hnx := hp.on hdd hm
        have hle : (d : Int) * d ≤ n := by rw [hmi]; omega
        have hmb : ((n : Int) % (d : Int) == 0) = false := by
          rw [← Int.natCast_emod, beq_eq_false_iff_ne]; omega
        clear hmi hp hm hdd
        go_wp2
        go_round
        case rel => exact ⟨d + 1, g, by omega, by omega, by go_num, hnx⟩
        case measure => simp [intOf]; omega
    · have hfin := hp.yes hdd
      have HF := Lib.hid hfin
      have hle : (n : Int) < (d : Int) * d := by rw [hmi]; omega
      clear hfin hmi hp hdd hf
      go_wp2
      go_ret
      exact ⟨by rw [HF.out]; simp; omega, rfl⟩

theorem Prime_int (x : Int) (n : Nat) (hx : x = (n : Int)) (h2 : 2 ≤ n) (hn : n ≤ 1000) (w : World) :
    Calls Tryd.prog 18 #[.int .u64 x] w fun e w' => e = .returned (.bool (primeN n)) ∧ w = w' := by
  subst hx
  exact Prime_any n h2 hn w
theorem Root_word (z : Int) (n : Nat) (hz : z = (n : Int)) (hn : n < 18446744073709551616) (c : Bool) (w : World) :
    Calls Tryd.prog 19 #[.int .u64 z, .bool c] w fun e w' => ∃ x : UInt32, Hid (x = UInt32.ofNat (rootN n c)) ∧ e = .returned (.int .u32 x.toNat) ∧ Below w.heap.size w w' := by
  subst hz
  have h : ∀ c, (UInt32.ofNat (rootN n c)).toNat = rootN n c := fun c => toNat_ofNat32 (Nat.mod_lt _ (by omega))
  cases c
  · exact (Root_false n hn w).mono fun e w' k => ⟨_, rfl, by rw [h]; exact k.1, k.2⟩
  · exact (Root_true n hn w).mono fun e w' k => ⟨_, rfl, by rw [h]; exact k.1, k.2⟩

/-- The rows behind k numbers. -/
def CEq (k : Nat) (l : List UInt32) : Prop := l = rootsC k
def REq (k : Nat) (l : List UInt32) : Prop := l = rootsR k
theorem CEq.few {k : Nat} {l : List UInt32} (h : CEq k l) (hk : k < 310) : l.length < 64 := by
  rw [h, rootsC, List.length_map]; exact primes_few k hk
theorem CEq.all {l : List UInt32} (h : CEq 310 l) : l = K0 := h.trans rootsC_all
theorem REq.all {l : List UInt32} (h : REq 310 l) : l = R0.list := h.trans rootsR_all
theorem RC_len {k : Nat} {l m : List UInt32} (h : REq k l) (g : CEq k m) : l.length = min 8 m.length := by
  rw [h, g, rootsR, rootsC, List.length_map, List.length_map, List.length_take]
theorem CEq.skip {k : Nat} {l : List UInt32} (h : CEq k l) (hp : primeN (k + 2) = false) : CEq (k + 1) l := by
  unfold CEq rootsC at *
  rw [primesTo, hp]
  exact h
theorem REq.skip {k : Nat} {l : List UInt32} (h : REq k l) (hp : primeN (k + 2) = false) : REq (k + 1) l := by
  unfold REq rootsR at *
  rw [primesTo, hp]
  exact h
theorem CEq.more {k : Nat} {l : List UInt32} (h : CEq k l) (hp : primeN (k + 2) = true) {x : UInt32} (hx : x = UInt32.ofNat (rootN (k + 2) true)) : CEq (k + 1) (l ++ [x]) := by
  unfold CEq rootsC at *
  rw [primesTo, hp, if_pos rfl, List.map_append, h, hx]
  rfl
theorem REq.more {k : Nat} {l m : List UInt32} (h : REq k l) (g : CEq k m) (hl : l.length < 8) (hp : primeN (k + 2) = true) {x : UInt32} (hx : x = UInt32.ofNat (rootN (k + 2) false)) : REq (k + 1) (l ++ [x]) := by
  have hlen := RC_len h g
  have hm : (primesTo k).length < 8 := by
    rw [g, rootsC, List.length_map] at hlen
    omega
  unfold REq rootsR at *
  have e1 : (primesTo k ++ [k + 2]).take 8 = primesTo k ++ [k + 2] := List.take_of_length_le (by rw [List.length_append]; simp only [List.length_cons, List.length_nil]; omega)
  have e2 : (primesTo k).take 8 = primesTo k := List.take_of_length_le (by omega)
  rw [primesTo, hp, if_pos rfl, e1, h, e2, hx, List.map_append]
  rfl
theorem REq.full {k : Nat} {l m : List UInt32} (h : REq k l) (g : CEq k m) (hl : ¬ l.length < 8) (hp : primeN (k + 2) = true) : REq (k + 1) l := by
  have hlen := RC_len h g
  have hm : 8 ≤ (primesTo k).length := by
    rw [g, rootsC, List.length_map] at hlen
    omega
  unfold REq rootsR at *
  rw [primesTo, hp, if_pos rfl, h, List.take_append_of_le_length hm]

/-- Two rows lie in unlike blocks. -/
def Apart (r c : Value) : Prop := ∀ g, r.ownBlock = some g → c.ownBlock ≠ some g
theorem Apart.symm {r c : Value} (h : Apart r c) : Apart c r := fun g e k => h g k e
theorem Apart.keep {w w' : World} {B : Nat} {e : TypeId} {r c : Value} {ys : List Value} (h : Apart r c) (hc : Own w B e c ys) (hg : w.grownBy w' r.ownBlock) : Own w' B e c ys := by
  refine hc.kept hg ?_
  cases hr : r.ownBlock with
  | none => cases c.ownBlock <;> simp
  | some g => exact .inr (h g hr)
theorem Apart.next {w : World} {B : Nat} {e : TypeId} {r r' c : Value} {ys : List Value} (h : Apart r c) (hc : Own w B e c ys) (hr : r'.ownBlock = r.ownBlock ∨ r'.ownBlock = some w.heap.size) : Apart r' c := by
  intro g e1 e2
  rcases hr with k | k
  · exact h g (k ▸ e1) e2
  · have := (hc.lt e2).2
    rw [k] at e1
    cases e1
    omega

/-- A row of the call's own, its value written out. -/
theorem Own.shape {w : World} {B : Nat} {e : TypeId} {v : Value} {ys : List Value} (h : Own w B e v ys) : ∃ A c, v = .slice A ys.length c := by
  rcases h.2 with ⟨rfl, h0⟩ | ⟨g, cap, cur, rfl, _⟩
  · exact ⟨none, 0, by rw [h0]⟩
  · exact ⟨_, _, rfl⟩

set_option maxRecDepth 100000 in
set_option maxHeartbeats 1000000 in
theorem Constants_any (w : World) :
    Calls Tryd.prog 12 #[] w fun e w' => ∃ r c, e = .returned (.tuple #[r, c]) ∧ Own w' w.heap.size 49 r (R0.list.map V32) ∧ Own w' w.heap.size 49 c (K0.map V32) ∧ Below w.heap.size w w' := by
  go_enter Tryd.func12, Tryd.ntmps12
  go_wp2
  go_loopw [2, 3, 4] (fun r c n wr => ∃ (k : Nat) (l m : List UInt32), k ≤ 310 ∧ n = .int .u64 ((k : Int) + 2) ∧ REq k l ∧ CEq k m ∧ Own wr w.heap.size 49 r (l.map V32) ∧ Own wr w.heap.size 49 c (m.map V32) ∧ Apart r c ∧ Below w.heap.size w wr) (fun _ _ n _ => 400 - (intOf n).toNat)
  case atStart => exact ⟨0, [], [], by omega, rfl, rfl, rfl, Own.nil _ _ _, Own.nil _ _ _, (fun g e => by cases e), Below.refl _ _⟩
  case round =>
    obtain ⟨k, l, m, hk, rfl, hR, hC, hro, hco, hap, hbel⟩ := hrel
    have hsz := hbel.size
    obtain ⟨A2, c2, hv2⟩ := hco.shape
    obtain ⟨A1, c1, hv1⟩ := hro.shape
    rw [List.length_map] at hv1 hv2
    have hlen := RC_len hR hC
    by_cases hlt : k < 310
    · have hm64 := hC.few hlt
      have Hro := Lib.hid hro
      have Hco := Lib.hid hco
      have HV1 := Lib.hid hv1
      have HV2 := Lib.hid hv2
      have hpr := fun W => Prime_int ((k : Int) + 2) (k + 2) (by omega) (by omega) (by omega) W
      have HPR := Lib.hid hpr
      cases hp : primeN (k + 2)
      · have hR2 := hR.skip hp
        have hC2 := hC.skip hp
        rw [hp] at HPR
        rw [hv1, hv2]
        clear hpr hv1 hv2 hro hco hlen hR hC
        go_wp2_with fail
        refine (HPR.out wr).mono ?_
        rintro e w1 ⟨rfl, rfl⟩
        go_wp2
        go_roundw
        case rel => exact ⟨k + 1, l, m, by omega, by go_num, hR2, hC2, HV1.out ▸ Hro.out, HV2.out ▸ Hco.out, HV1.out ▸ HV2.out ▸ hap, hbel⟩
        case measure => simp [intOf]; omega
      · rw [hp] at HPR
        by_cases hl8 : l.length < 8
        · have HRm : Hid (∀ x : UInt32, x = UInt32.ofNat (rootN (k + 2) false) → REq (k + 1) (l ++ [x])) := fun x hx => hR.more hC hl8 hp hx
          have HCm : Hid (∀ x : UInt32, x = UInt32.ofNat (rootN (k + 2) true) → CEq (k + 1) (m ++ [x])) := fun x hx => hC.more hp hx
          rw [hv1] at Hro hap
          rw [hv2] at Hco hap
          rw [hv1, hv2]
          clear hpr hv1 hv2 hro hco hlen hR hC HV1 HV2
          go_wp2_with fail
          refine (HPR.out wr).mono ?_
          rintro e w1 ⟨rfl, rfl⟩
          go_wp2_with fail
          refine (Root_word _ (k + 2) (by omega) (by omega) false wr).mono ?_
          rintro e w1 ⟨x, HX, rfl, hb1⟩
          have Hro1 : Hid (Own w1 w.heap.size 49 (.slice A1 l.length c1) (l.map V32)) := Own.below Hro.out hb1 (Nat.le_refl _)
          have Hco1 : Hid (Own w1 w.heap.size 49 (.slice A2 m.length c2) (m.map V32)) := Own.below Hco.out hb1 (Nat.le_refl _)
          have hbw1 : Below w.heap.size w w1 := hbel.trans (hb1.mono hsz)
          have hsz1 := hbw1.size
          have HL1 : Hid ((l.map V32).length + [V32 x].length ≤ 100000000) := by show _ ≤ _; rw [List.length_map]; simp; omega
          have Hap := Lib.hid hap
          clear hap
          go_wp2_with (at_builtin; refine wpList_app rfl (.tmp 16) (.tmp 19) 34 rfl w.heap.size 49 Tryd.underlying34 info32 rfl (by decide) _ (l.map V32) rfl (Hro1.out.alloc _) _ [V32 x] rfl (from_new w1 49 [V32 x]) (oneC32 [x]) HL1.out (by simp; omega) ?_; intro r2 w2 hown2 hg2 hat2)
          have Hro2 : Hid (Own w2 w.heap.size 49 r2 ((l ++ [x]).map V32)) := by rw [List.map_append]; exact hown2
          have Hco2 : Hid (Own w2 w.heap.size 49 (.slice A2 m.length c2) (m.map V32)) := Hap.out.keep (Hco1.out.alloc _) hg2
          have Hap2 : Hid (Apart r2 (.slice A2 m.length c2)) := Hap.out.next (Hco1.out.alloc _) hat2
          have hbw2 : Below w.heap.size w w2 := below_app (hbw1.alloc hsz1 _) (Hro1.out.alloc _) hg2 (Nat.le_refl _) (by simp; omega)
          clear hown2 hg2 hat2 Hro1 Hco1 Hap Hro Hco HL1
          refine (Root_word _ (k + 2) (by omega) (by omega) true w2).mono ?_
          rintro e w3 ⟨y, HY, rfl, hb3⟩
          have Hro3 : Hid (Own w3 w.heap.size 49 r2 ((l ++ [x]).map V32)) := Own.below Hro2.out hb3 (Nat.le_refl _)
          have Hco3 : Hid (Own w3 w.heap.size 49 (.slice A2 m.length c2) (m.map V32)) := Own.below Hco2.out hb3 (Nat.le_refl _)
          have hbw3 : Below w.heap.size w w3 := hbw2.trans (hb3.mono hbw2.size)
          have hsz3 := hbw3.size
          have HL3 : Hid ((m.map V32).length + [V32 y].length ≤ 100000000) := by show _ ≤ _; rw [List.length_map]; simp; omega
          go_wp2_with (at_builtin; refine wpList_app rfl (.tmp 21) (.tmp 24) 34 rfl w.heap.size 49 Tryd.underlying34 info32 rfl (by decide) _ (m.map V32) rfl (Hco3.out.alloc _) _ [V32 y] rfl (from_new w3 49 [V32 y]) (oneC32 [y]) HL3.out (by simp; omega) ?_; intro c4 w4 hown4 hg4 hat4)
          go_roundw
          case rel =>
            refine ⟨k + 1, _, _, by omega, by go_num, HRm.out x HX.out, HCm.out y HY.out, Hap2.out.symm.keep (Hro3.out.alloc _) hg4, by rw [List.map_append]; exact hown4, (Apart.next Hap2.out.symm (Hro3.out.alloc _) hat4).symm, below_app (hbw3.alloc hsz3 _) (Hco3.out.alloc _) hg4 (Nat.le_refl _) (by simp; omega)⟩
          case measure => simp [intOf]; omega
        · have HRf : Hid (REq (k + 1) l) := hR.full hC hl8 hp
          have HCm : Hid (∀ x : UInt32, x = UInt32.ofNat (rootN (k + 2) true) → CEq (k + 1) (m ++ [x])) := fun x hx => hC.more hp hx
          rw [hv1] at Hro hap
          rw [hv2] at Hco hap
          rw [hv1, hv2]
          have Hap := Lib.hid hap
          clear hpr hv1 hv2 hro hco hlen hR hC HV1 HV2 hap
          go_wp2_with fail
          refine (HPR.out wr).mono ?_
          rintro e w1 ⟨rfl, rfl⟩
          go_wp2_with fail
          refine (Root_word _ (k + 2) (by omega) (by omega) true wr).mono ?_
          rintro e w3 ⟨y, HY, rfl, hb3⟩
          have Hro3 : Hid (Own w3 w.heap.size 49 (.slice A1 l.length c1) (l.map V32)) := Own.below Hro.out hb3 (Nat.le_refl _)
          have Hco3 : Hid (Own w3 w.heap.size 49 (.slice A2 m.length c2) (m.map V32)) := Own.below Hco.out hb3 (Nat.le_refl _)
          have hbw3 : Below w.heap.size w w3 := hbel.trans (hb3.mono hbel.size)
          have hsz3 := hbw3.size
          have HL3 : Hid ((m.map V32).length + [V32 y].length ≤ 100000000) := by show _ ≤ _; rw [List.length_map]; simp; omega
          go_wp2_with (at_builtin; refine wpList_app rfl (.tmp 21) (.tmp 24) 34 rfl w.heap.size 49 Tryd.underlying34 info32 rfl (by decide) _ (m.map V32) rfl (Hco3.out.alloc _) _ [V32 y] rfl (from_new w3 49 [V32 y]) (oneC32 [y]) HL3.out (by simp; omega) ?_; intro c4 w4 hown4 hg4 hat4)
          go_roundw
          case rel =>
            refine ⟨k + 1, _, _, by omega, by go_num, HRf.out, HCm.out y HY.out, Hap.out.symm.keep (Hro3.out.alloc _) hg4, by rw [List.map_append]; exact hown4, (Apart.next Hap.out.symm (Hro3.out.alloc _) hat4).symm, below_app (hbw3.alloc hsz3 _) (Hco3.out.alloc _) hg4 (Nat.le_refl _) (by simp; omega)⟩
          case measure => simp [intOf]; omega
    · obtain rfl : k = 310 := by omega
      have hm : m = K0 := hC.all
      have hl : l = R0.list := hR.all
      subst hm hl
      rw [show K0.length = 64 from rfl] at hv2
      rw [hv2] at hco ⊢
      have Hro := Lib.hid hro
      have Hco := Lib.hid hco
      clear hR hC hlen hv1 hv2 hro hco
      go_wp2
      go_ret2
      exact ⟨_, _, rfl, Hro.out, Hco.out, hbel⟩
end Go.Proofs.YtcmledlghipcbaaDoor
