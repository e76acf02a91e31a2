/-
  THE WALK of the landed draft's resize.
-/
import Derived.Test.YtiafmghdiidniaaLZJ
namespace Go.Proofs.Ytiafmghdiidniaa
set_option maxRecDepth 100000
set_option maxHeartbeats 1000000
open Go.RowKit Cdc Inn Fil

namespace Fil
theorem free_ch (kept : List Nat) : ∀ (l : List Nat) (d : Dr), (d.ch 0).isSome = true → ((Dr.free kept l d).ch 0).isSome = true
  | [], _, h => h
  | i :: r, d, h => by
    rw [Dr.free]
    refine free_ch kept r _ ?_
    split
    · exact h
    · rw [mark_zero]; rfl
theorem release_nums (d : Dr) (k : Nat) : (d.release k).nums = d.nums.take k := rfl
theorem release_z (d : Dr) (k : Nat) : (d.release k).z = d.z := free_z _ _ _
theorem release_ch (d : Dr) (k : Nat) (h : (d.ch 0).isSome = true) : ((d.release k).ch 0).isSome = true := free_ch _ _ _ h
theorem release_ok {d : Dr} (h : d.Ok) (k : Nat) : (d.release k).Ok := by
  refine ⟨fun n hn => h.num n (List.mem_of_mem_take (by rwa [release_nums] at hn)), ?_, by rw [release_z]; exact h.z0, by rw [release_z]; exact h.z1⟩
  rw [release_nums, List.length_take]; have := h.len; omega
theorem load_nums {bl : List (List UInt8)} {d e : Dr} {i : Nat} (h : d.load bl i = some e) : e.nums = d.nums ∧ e.z = d.z ∧ (e.ch i).isSome = true := by
  unfold Dr.load at h
  split at h
  · injection h with h; subst h; exact ⟨rfl, rfl, by assumption⟩
  · split at h
    · injection h with h; subst h; exact ⟨rfl, rfl, by simp [Dr.put]⟩
    · cases h
theorem Dr.Ok.same {d e : Dr} (h : d.Ok) (hn : e.nums = d.nums) (hz : e.z = d.z) : e.Ok := ⟨by rw [hn]; exact h.num, by rw [hn]; exact h.len, by rw [hz]; exact h.z0, by rw [hz]; exact h.z1⟩
theorem clear_nums {bl : List (List UInt8)} {d e : Dr} (h : d.clearTail bl = some e) : e.nums = d.nums ∧ e.z = d.z := by
  unfold Dr.clearTail at h
  split at h
  · injection h with h; subst h; exact ⟨rfl, rfl⟩
  · rw [Option.map_eq_some_iff] at h
    obtain ⟨f, hf, rfl⟩ := h
    have := load_nums hf
    exact ⟨this.1, this.2.1⟩
theorem need_five (z : Int) : need z ≠ 5 := by unfold need; split <;> omega
theorem take_z {g : Geo} {d e : Dr} (h : d.take g = some e) : e.z = d.z := by
  unfold Dr.take at h
  split at h
  · cases h
  · injection h with h; subst h; rfl
/-- Before a block is taken. -/
structure Dr.Pre (d : Dr) (k : Nat) : Prop where
  ok : d.Ok
  zero : (d.ch 0).isSome = true
  need : d.nums.length + k = need d.z
theorem take_pre {g : Geo} (hg : gmay g = true) {d e : Dr} {k : Nat} (h : d.Pre (k + 1)) (ht : d.take g = some e) : e.Pre k := by
  unfold Dr.take at ht
  split at ht
  · cases ht
  · rename_i hf
    injection ht with ht
    subst ht
    obtain ⟨f1, f2, f3, f4⟩ := first_lt hf
    obtain ⟨g1, g2, g3, g4, g5⟩ := gmay_iff.1 hg
    have hneed := need_le (z := d.z) h.ok.z1
    have hn := h.need
    refine ⟨⟨?_, ?_, h.ok.z0, h.ok.z1⟩, ?_, ?_⟩
    · intro n hn
      simp only [Dr.put, List.mem_append, List.mem_singleton] at hn
      rcases hn with hn | rfl
      · exact h.ok.num n hn
      · omega
    · simp only [Dr.put, List.length_append, List.length_singleton]; omega
    · simp only [Dr.put]
      split
      · rfl
      · have := mark_zero d (Bm.first (d.row 0) (gfirst g) g.n).toNat true; simp only [this]; rfl
    · simp only [Dr.put, List.length_append, List.length_singleton, Dr.mark]; omega
end Fil

/-- How many numbers a draft in memory has. -/
def DrLen (w : World) (D : Nat) : Nat := match w.cell? ⟨D, 5, none⟩ with
  | some (.slice _ n _) => n
  | _ => 0
section
variable {w : World} {B D m : Nat} {bl : List (List UInt8)} {g : Geo} {kd : Int} {d : Dr} {nv : Value} {vs : Nat → Value} {gs : Nat → Nat}
theorem FiDBlock_ok0 (h : DrL w B D m g kd d nv vs gs) (hs : StB w B m bl) (hB : B ≤ w.heap.size) {d' : Dr} (hd : d.load bl 0 = some d') :
    Calls Try.prog 51 #[.pointer (some ⟨D, 0, none⟩), .int .i64 0] w fun e w' => ∃ v, e = .returned (.tuple #[v, .int .i64 0]) ∧ (∃ nv vs gs, DrL w' B D m g kd d' nv vs gs ∧ vs 0 = v ∧ d'.ch 0 = some (d'.row 0)) ∧ Below B w w' := FiDBlock_ok h hs hB 0 (by omega) hd
theorem FiDBlock_bad0 (h : DrL w B D m g kd d nv vs gs) (hs : StB w B m bl) (hd : d.load bl 0 = none) :
    Calls Try.prog 51 #[.pointer (some ⟨D, 0, none⟩), .int .i64 0] w fun e w' => e = .returned (.tuple #[.slice none 0 0, .int .i64 1]) ∧ w' = w := FiDBlock_bad h hs 0 (by omega) hd
theorem DrL.len (h : DrL w B D m g kd d nv vs gs) : DrLen w D = d.nums.length := by
  obtain ⟨q, c, hq, -⟩ := h.rw_.nvF
  unfold DrLen
  rw [h.hd.c5, hq]
/-- What a call that turns the draft hands back: an error, or the draft. -/
def Turns (B D m : Nat) (g : Geo) (kd : Int) (w : World) (r : Except Int Dr) (e : Ending) (w' : World) : Prop :=
  Below B w w' ∧ match r with
    | .error h => e = .returned (.int .i64 h)
    | .ok d' => e = .returned (.int .i64 0) ∧ DrA w' B D m g kd d'
theorem FiDClear_any (h : DrL w B D m g kd d nv vs gs) (hs : StB w B m bl) (hB : B ≤ w.heap.size) (hd : d.Ok) (hlen : d.nums.length = need d.z) :
    Calls Try.prog 49 #[.pointer (some ⟨D, 0, none⟩)] w fun e w' => Turns B D m g kd w (match d.clearTail bl with | none => .error 1 | some d' => .ok d') e w' := by
  unfold Dr.clearTail
  by_cases hz : d.z.toNat % 64 = 0
  · rw [if_pos hz]
    refine (FiDClear_zero h hd hz).mono ?_
    rintro e w' ⟨rfl, rfl⟩
    exact ⟨Below.refl _ _, rfl, _, _, _, h⟩
  · rw [if_neg hz]
    rcases hl : d.load bl (numAt d.nums d.z.toNat) with _ | d'
    · refine (FiDClear_bad h hs hB hd hlen hz hl).mono ?_
      rintro e w' ⟨rfl, hb⟩
      exact ⟨hb, rfl⟩
    · refine (FiDClear_some h hs hB hd hlen hz hl).mono ?_
      rintro e w' ⟨rfl, ha, hb⟩
      exact ⟨hb, rfl, ha⟩
theorem FiDTake_any (h : DrL w B D m g kd d nv vs gs) (hB : B ≤ w.heap.size) (hgm : gmay g = true) {k : Nat} (hp : d.Pre (k + 1)) :
    Calls Try.prog 53 #[.pointer (some ⟨D, 0, none⟩)] w fun e w' => Below B w w' ∧ match d.take g with
      | none => e = .returned (.bool false)
      | some d' => e = .returned (.bool true) ∧ DrA w' B D m g kd d' := by
  obtain ⟨b0, hb⟩ := Option.isSome_iff_exists.1 hp.zero
  have hr : d.row 0 = b0 := by unfold Dr.row; rw [hb]; rfl
  unfold Dr.take
  rw [hr]
  by_cases hf : Bm.first b0 (gfirst g) g.n < 0
  · rw [if_pos hf]
    refine (FiDTake_no h hgm hb hf).mono ?_
    rintro e w' ⟨rfl, hbw⟩
    exact ⟨hbw.mono hB, rfl⟩
  · rw [if_neg hf]
    refine (FiDTake_some h hB hgm (by have := hp.ok.len; omega) hb hf rfl).mono ?_
    rintro e w' ⟨rfl, ha, hbw⟩
    exact ⟨hbw, rfl, ha⟩
theorem FiDName_any (h : DrL w B D m g kd d nv vs gs) (hB : B ≤ w.heap.size) (hd : d.Ok) (hn : d.nums.length ≠ 5) :
    Calls Try.prog 54 #[.pointer (some ⟨D, 0, none⟩)] w fun e w' => e = .returned (.tuple #[]) ∧ DrA w' B D m g kd d.name ∧ Below B w w' := by
  unfold Dr.name
  by_cases h4 : d.nums.length ≤ 4
  · rw [if_pos h4]
    refine (FiDName_few h h4).mono ?_
    rintro e w' ⟨rfl, rfl⟩
    exact ⟨rfl, ⟨_, _, _, h⟩, Below.refl _ _⟩
  · rw [if_neg h4]
    exact FiDName_many h hB hd (by omega)
theorem FiDResize_run (h : DrL w B D m g kd d nv vs gs) (hs : StB w B m bl) (hB : B ≤ w.heap.size) (hgm : gmay g = true) (hd : d.Ok) (hlen : d.nums.length = need d.z) (z : Nat) (hz : z ≤ 2304) (RR : Except Int Dr) (hRR : RR = d.resize bl g z) :
    Calls Try.prog 30 #[.pointer (some ⟨D, 0, none⟩), .int .i64 (z : Int)] w fun e w' => Turns B D m g kd w RR e w' := by
  have c4 := h.hd.c4
  obtain ⟨y, hy⟩ : ∃ y : Nat, d.z = (y : Int) := ⟨d.z.toNat, by have := hd.z0; omega⟩
  rw [hy] at c4
  obtain ⟨ln, hln⟩ : ∃ n, n = d.nums.length := ⟨_, rfl⟩
  have hlnE := Lib.hid hln
  have HB0 := Lib.hid hB
  have HS := Lib.hid hs
  have hy2 : (y : Int) ≤ 2304 := by have := hd.z1; omega
  have hzi : (z : Int) ≤ 2304 := by omega
  by_cases hlt : (y : Int) < z
  · have HClr := Lib.hid (FiDClear_any h hs hB hd hlen)
    rcases hc : d.clearTail bl with _ | e1
    · rw [hc] at HClr
      have HR : Hid (RR = .error 1) := by
        show _ = _
        rw [hRR]
        unfold Dr.resize
        rw [if_pos (by rw [hy]; exact hlt), hc]
      clear h hs hB hlen hd hc hRR
      go_enter Try.func30, Try.ntmps30
      go_wp2_with fail
      refine HClr.out.mono ?_
      rintro e w2 ⟨hB2, rfl⟩
      have HB2 := Lib.hid hB2
      clear hB2 HClr c4
      go_wp2_with fail
      go_ret
      rw [HR.out]
      exact ⟨HB2.out, rfl⟩
    · rw [hc] at HClr
      have hRes : RR = Dr.resize2 bl g { e1 with z := (z : Int) } := by
        rw [hRR]
        unfold Dr.resize
        rw [if_pos (by rw [hy]; exact hlt), hc]
      obtain ⟨k1, k2⟩ := clear_nums hc
      have HRes := Lib.hid hRes
      have HNq := Lib.hid k1
      have HZq := Lib.hid k2
      have hOq := Lib.hid (hd.same k1 k2)
      have HY := Lib.hid hy
      clear hRes hRR hln h hs hB hlen hd hc k1 k2
      go_enter Try.func30, Try.ntmps30
      go_wp2_with fail
      refine HClr.out.mono ?_
      rintro e wq ⟨hBq, rfl, nvq, vsq, gsq, hLq⟩
      have HBq := Lib.hid hBq
      clear hBq HClr c4
      -- the world wq, the draft e1 in it; its size is set
      have c4q : wq.cell? ⟨D, 4, none⟩ = some (.int .i64 (y : Int)) := by rw [hLq.hd.c4, HZq.out, HY.out]
      have f4q := hLq.hd.free 4
      obtain ⟨wz, hwz⟩ : ∃ W, W = wq.setCell ⟨D, 4, none⟩ (.int .i64 (z : Int)) := ⟨_, rfl⟩
      have hLz := hLq.setZ (z : Int)
      rw [← hwz] at hLz
      have HBz : Hid (Below B w wz) := by rw [hwz]; exact HBq.out.setCell hLq.rw_.lo _
      have hBz : B ≤ wz.heap.size := Nat.le_trans HB0.out HBz.out.size
      have HSz := Lib.hid (HS.out.below HBz.out)
      have c5z := hLz.hd.c5
      obtain ⟨q, c, hnq, -⟩ := hLz.rw_.nvF
      rw [hnq] at c5z
      have HNd := Lib.hid (InNeed_any (z : Int) ⟨by omega, by omega⟩ wz)
      obtain ⟨N, hN⟩ : ∃ N, N = need (z : Int) := ⟨_, rfl⟩
      rw [← hN] at HNd
      have hN37 : N ≤ 37 := by rw [hN]; exact need_le (by omega)
      have hN37i : (N : Int) ≤ 37 := by omega
      have hln37 : ln ≤ 37 := by have := hOq.out.len; rw [HNq.out, ← hlnE.out] at this; exact this
      have hln37i : (ln : Int) ≤ 37 := by omega
      have hlz : ({ e1 with z := (z : Int) } : Dr).nums.length = ln := by show e1.nums.length = ln; rw [HNq.out]; exact hlnE.out.symm
      rw [hlz] at c5z
      go_wp2_with fail
      rw [← hwz]
      clear hwz
      refine HNd.out.mono ?_
      rintro e w9 ⟨rfl, rfl⟩
      clear HNd c4q f4q
      by_cases hNl : N = ln
      · have HR : Hid (RR = .ok { e1 with z := (z : Int) }) := by
          show _ = _
          rw [HRes.out, Dr.resize2, if_pos]
          show need (z : Int) = e1.nums.length
          rw [← hN, HNq.out, ← hlnE.out, hNl]
        have HA : Hid (DrA w9 B D m g kd { e1 with z := (z : Int) }) := ⟨_, _, _, hLz⟩
        subst hNl
        clear hLz hN HRes
        go_wp2_with fail
        go_ret
        rw [HR.out]
        exact ⟨HBz.out, rfl, HA.out⟩
      · have HR2 : Hid (Dr.resize2 bl g { e1 with z := (z : Int) } = match ({ e1 with z := (z : Int) } : Dr).load bl 0 with
            | none => .error 1
            | some e => match Dr.grow g (N - (e.release (min N e.nums.length)).nums.length) (e.release (min N e.nums.length)) with
              | none => .error 7
              | some f => .ok f.name) := by
          show _ = _
          have hne : ¬ need ({ e1 with z := (z : Int) } : Dr).z = ({ e1 with z := (z : Int) } : Dr).nums.length := by
            show ¬ need (z : Int) = e1.nums.length
            rw [← hN, HNq.out, ← hlnE.out]; exact hNl
          rw [Dr.resize2, if_neg hne, hN]
          rfl
        have hO9 : ({ e1 with z := (z : Int) } : Dr).Ok := ⟨hOq.out.num, hOq.out.len, by show (0 : Int) ≤ z; omega, by show (z : Int) ≤ 2304; omega⟩
        have hne2 : ¬ (N : Int) = (ln : Int) := by omega
        rcases hld : ({ e1 with z := (z : Int) } : Dr).load bl 0 with _ | e2
        · rw [hld] at HR2
          have HBk := Lib.hid (FiDBlock_bad0 hLz HSz.out hld)
          have HR := Lib.hid (HRes.out.trans HR2.out)
          clear HR2 HRes hLz hld hO9 hN
          go_wp2_with fail
          refine HBk.out.mono ?_
          rintro e w10 ⟨rfl, rfl⟩
          clear HBk
          go_wp2
          go_ret
          rw [HR.out]
          exact ⟨HBz.out, rfl⟩
        · rw [hld] at HR2
          simp only at HR2
          have HBk := Lib.hid (FiDBlock_ok0 hLz HSz.out hBz hld)
          obtain ⟨l1, l2, l3⟩ := load_nums hld
          have hn2 : e2.nums.length = ln := by rw [l1]; exact hlz
          rw [hn2] at HR2
          have hO2 : e2.Ok := hO9.same l1 l2
          have hz2 : e2.z = (z : Int) := l2
          have hmin : ∀ W : World, (Builtin.min_ #[3, 3] 3 #[.int .i64 (N : Int), .int .i64 (ln : Int)]).run Try.prog W = .ok (.int .i64 ((min N ln : Nat) : Int)) W := by
            intro W
            by_cases h : N ≤ ln
            · rw [Nat.min_eq_left h]; simp [Builtin.min_, Builtin.min2]; omega
            · rw [Nat.min_eq_right (by omega)]; simp [Builtin.min_, Builtin.min2]; omega
          have hkl : min N ln ≤ e2.nums.length := by rw [hn2]; exact Nat.min_le_right _ _
          have hkN : min N ln ≤ N := Nat.min_le_left _ _
          have hP3 : (e2.release (min N ln)).Pre (N - min N ln) := ⟨release_ok hO2 _, release_ch e2 _ l3, by rw [release_nums, release_z, List.length_take, hz2, ← hN, hn2]; omega⟩
          have hg3 : N - (e2.release (min N ln)).nums.length = N - min N ln := by rw [release_nums, List.length_take, hn2]; omega
          rw [hg3] at HR2
          have HR := Lib.hid (HRes.out.trans HR2.out)
          have HO2 := Lib.hid hO2
          have HP3 := Lib.hid hP3
          have HKl := Lib.hid hkl
          have HL3 := Lib.hid l3
          obtain ⟨k, hk⟩ : ∃ k, k = min N ln := ⟨_, rfl⟩
          rw [← hk] at hmin HKl HP3 hkN HR
          have hk37 : k ≤ 37 := by omega
          have hZ2 := Lib.hid hz2
          have hn2E := Lib.hid hn2
          have hNz := Lib.hid hN
          clear HR2 HRes hLz hld hO9 hN l1 l2 l3 hn2 hO2 hz2 hP3 hkl hg3 hk
          go_wp2_with fail
          refine HBk.out.mono ?_
          rintro e w10 ⟨v10, rfl, ⟨nv2, vs2, gs2, hL2, -, -⟩, hB10⟩
          have HB10 := Lib.hid (HBz.out.trans hB10)
          have hB10s := Nat.le_trans HB0.out HB10.out.size
          have HRl := Lib.hid (by
            obtain ⟨b0, hb0⟩ := Option.isSome_iff_exists.1 HL3.out
            exact FiDRel_any hL2 hB10s HO2.out hb0 k HKl.out)
          have c510 := hL2.hd.c5
          obtain ⟨q2, c2, hq2, -⟩ := hL2.rw_.nvF
          have hl2 : e2.nums.length = ln := hn2E.out
          rw [hq2, hl2] at c510
          clear hL2 hB10 HBk hq2
          go_wp2_with fail
          refine HRl.out.mono ?_
          rintro e w11 ⟨rfl, hA11, hB11⟩
          have HA11 := Lib.hid hA11
          have HB11 := Lib.hid (HB10.out.trans hB11)
          obtain ⟨X, hX⟩ : ∃ X, X = Dr.grow g (N - k) (e2.release k) := ⟨_, rfl⟩
          have HX := Lib.hid hX
          rw [← hX] at HR
          clear hA11 hB11 HRl c510 hmin hX
          go_wp2_with fail
          go_loopw [] (fun wr => ∃ (j : Nat) (dk : Dr), j ≤ N ∧ DrLen wr D + j = N ∧ Hid (DrA wr B D m g kd dk) ∧ Hid (Below B w wr) ∧ Hid (dk.Pre j) ∧ Hid (dk.z = (z : Int)) ∧ Hid (Dr.grow g j dk = X)) (fun wr => N - DrLen wr D)
          case atStart =>
            obtain ⟨nv3, vs3, gs3, hL3⟩ := HA11.out
            have hzr : (e2.release k).z = (z : Int) := by rw [release_z, hZ2.out]
            refine ⟨N - k, e2.release k, by omega, ?_, HA11, HB11, HP3, hzr, HX.out.symm⟩
            have := HP3.out.need
            rw [hzr, ← hNz.out] at this
            rw [hL3.len]; exact this
          case round =>
            rename World => wr
            clear HA11 HB11 HP3 HX
            obtain ⟨j, dk, hj, hlen, HA, HBl, HP, HZ, HG⟩ := hrel
            obtain ⟨nvk, vsk, gsk, hLk⟩ := HA.out
            obtain ⟨qk, ck, hqk, -⟩ := hLk.rw_.nvF
            have c5k := hLk.hd.c5
            have hB' := Nat.le_trans HB0.out HBl.out.size
            have hneed : dk.nums.length + j = N := by have := HP.out.need; rw [HZ.out, ← hNz.out] at this; exact this
            rw [hqk] at c5k
            have hlq := hLk.len
            cases j with
            | zero =>
              have hlN : dk.nums.length = N := by omega
              have HNm := Lib.hid (FiDName_any hLk hB' HP.out.ok (by rw [hlN, hNz.out]; exact need_five _))
              have HR9 : Hid (RR = .ok dk.name) := by
                show _ = _
                rw [HR.out, ← HG.out]; rfl
              rw [hlN] at c5k
              clear hLk HA HP HG HR hqk hlN hlq hlen HZ
              go_wp2_with fail
              refine HNm.out.mono ?_
              rintro e w12 ⟨rfl, hA12, hB12⟩
              have HA12 := Lib.hid hA12
              have HB12 := Lib.hid (HBl.out.trans hB12)
              clear hA12 hB12 HNm
              go_wp2_with fail
              go_ret
              rw [HR9.out]
              exact ⟨HB12.out, rfl, HA12.out⟩
            | succ j =>
              have HT := Lib.hid (FiDTake_any hLk hB' hgm HP.out)
              have hltN : (dk.nums.length : Int) < (N : Int) := by omega
              rcases ht : dk.take g with _ | d'
              · rw [ht] at HT
                have HR9 : Hid (RR = .error 7) := by
                  show _ = _
                  rw [HR.out, ← HG.out, Dr.grow, ht]; rfl
                clear hLk HA HP HG HR hqk hlq hlen HZ ht
                generalize dk.nums.length = lk at *
                go_wp2_with fail
                refine HT.out.mono ?_
                rintro e w12 ⟨hB12, rfl⟩
                have HB12 := Lib.hid (HBl.out.trans hB12)
                clear hB12 HT
                go_wp2_with fail
                go_ret
                rw [HR9.out]
                exact ⟨HB12.out, rfl⟩
              · rw [ht] at HT
                have HP' := Lib.hid (take_pre hgm HP.out ht)
                have HG' : Hid (Dr.grow g j d' = X) := by
                  show _ = _
                  rw [← HG.out, Dr.grow, ht]; rfl
                have HZ' : Hid (d'.z = (z : Int)) := by
                  show _ = _
                  rw [take_z ht]; exact HZ.out
                have Hl0 : Hid (DrLen wr D = dk.nums.length) := hlq
                clear hLk HA HP HG hqk hlq ht HZ
                generalize dk.nums.length = lk at *
                go_wp2_with fail
                refine HT.out.mono ?_
                rintro e w12 ⟨hB12, rfl, hA12⟩
                have HA12 := Lib.hid hA12
                have HB12 := Lib.hid (HBl.out.trans hB12)
                have hl12 : DrLen w12 D + j = N := by
                  obtain ⟨nv3, vs3, gs3, hL3⟩ := hA12
                  have := HP'.out.need
                  rw [HZ'.out, ← hNz.out] at this
                  rw [hL3.len]; exact this
                clear hB12 hA12 HT
                go_wp2_with fail
                go_roundw
                case rel => exact ⟨j, d', by omega, hl12, HA12, HB12, HP', HZ', HG'⟩
                case measure => have := Hl0.out; omega
  · obtain ⟨e1, he1⟩ : ∃ e1, e1 = d := ⟨_, rfl⟩
    have hRes : RR = Dr.resize2 bl g { e1 with z := (z : Int) } := by
      rw [hRR, he1]
      unfold Dr.resize
      rw [if_neg (by rw [hy]; exact hlt)]
    have HRes := Lib.hid hRes
    have HBq : Hid (Below B w w) := Below.refl _ _
    have HNq : Hid (e1.nums = d.nums) := by rw [he1]; exact rfl
    have HZq : Hid (e1.z = d.z) := by rw [he1]; exact rfl
    have hOq : Hid e1.Ok := by rw [he1]; exact hd
    have hLq : DrL w B D m g kd e1 nv vs gs := by rw [he1]; exact h
    have HY := Lib.hid hy
    clear hRes hRR hln h hs hB hlen hd he1
    go_enter Try.func30, Try.ntmps30
    -- the world w, the draft e1 in it; its size is set
    have c4q : w.cell? ⟨D, 4, none⟩ = some (.int .i64 (y : Int)) := by rw [hLq.hd.c4, HZq.out, HY.out]
    have f4q := hLq.hd.free 4
    obtain ⟨wz, hwz⟩ : ∃ W, W = w.setCell ⟨D, 4, none⟩ (.int .i64 (z : Int)) := ⟨_, rfl⟩
    have hLz := hLq.setZ (z : Int)
    rw [← hwz] at hLz
    have HBz : Hid (Below B w wz) := by rw [hwz]; exact HBq.out.setCell hLq.rw_.lo _
    have hBz : B ≤ wz.heap.size := Nat.le_trans HB0.out HBz.out.size
    have HSz := Lib.hid (HS.out.below HBz.out)
    have c5z := hLz.hd.c5
    obtain ⟨q, c, hnq, -⟩ := hLz.rw_.nvF
    rw [hnq] at c5z
    have HNd := Lib.hid (InNeed_any (z : Int) ⟨by omega, by omega⟩ wz)
    obtain ⟨N, hN⟩ : ∃ N, N = need (z : Int) := ⟨_, rfl⟩
    rw [← hN] at HNd
    have hN37 : N ≤ 37 := by rw [hN]; exact need_le (by omega)
    have hN37i : (N : Int) ≤ 37 := by omega
    have hln37 : ln ≤ 37 := by have := hOq.out.len; rw [HNq.out, ← hlnE.out] at this; exact this
    have hln37i : (ln : Int) ≤ 37 := by omega
    have hlz : ({ e1 with z := (z : Int) } : Dr).nums.length = ln := by show e1.nums.length = ln; rw [HNq.out]; exact hlnE.out.symm
    rw [hlz] at c5z
    go_wp2_with fail
    rw [← hwz]
    clear hwz
    refine HNd.out.mono ?_
    rintro e w9 ⟨rfl, rfl⟩
    clear HNd c4q f4q
    by_cases hNl : N = ln
    · have HR : Hid (RR = .ok { e1 with z := (z : Int) }) := by
        show _ = _
        rw [HRes.out, Dr.resize2, if_pos]
        show need (z : Int) = e1.nums.length
        rw [← hN, HNq.out, ← hlnE.out, hNl]
      have HA : Hid (DrA w9 B D m g kd { e1 with z := (z : Int) }) := ⟨_, _, _, hLz⟩
      subst hNl
      clear hLz hN HRes
      go_wp2_with fail
      go_ret
      rw [HR.out]
      exact ⟨HBz.out, rfl, HA.out⟩
    · have HR2 : Hid (Dr.resize2 bl g { e1 with z := (z : Int) } = match ({ e1 with z := (z : Int) } : Dr).load bl 0 with
          | none => .error 1
          | some e => match Dr.grow g (N - (e.release (min N e.nums.length)).nums.length) (e.release (min N e.nums.length)) with
            | none => .error 7
            | some f => .ok f.name) := by
        show _ = _
        have hne : ¬ need ({ e1 with z := (z : Int) } : Dr).z = ({ e1 with z := (z : Int) } : Dr).nums.length := by
          show ¬ need (z : Int) = e1.nums.length
          rw [← hN, HNq.out, ← hlnE.out]; exact hNl
        rw [Dr.resize2, if_neg hne, hN]
        rfl
      have hO9 : ({ e1 with z := (z : Int) } : Dr).Ok := ⟨hOq.out.num, hOq.out.len, by show (0 : Int) ≤ z; omega, by show (z : Int) ≤ 2304; omega⟩
      have hne2 : ¬ (N : Int) = (ln : Int) := by omega
      rcases hld : ({ e1 with z := (z : Int) } : Dr).load bl 0 with _ | e2
      · rw [hld] at HR2
        have HBk := Lib.hid (FiDBlock_bad0 hLz HSz.out hld)
        have HR := Lib.hid (HRes.out.trans HR2.out)
        clear HR2 HRes hLz hld hO9 hN
        go_wp2_with fail
        refine HBk.out.mono ?_
        rintro e w10 ⟨rfl, rfl⟩
        clear HBk
        go_wp2
        go_ret
        rw [HR.out]
        exact ⟨HBz.out, rfl⟩
      · rw [hld] at HR2
        simp only at HR2
        have HBk := Lib.hid (FiDBlock_ok0 hLz HSz.out hBz hld)
        obtain ⟨l1, l2, l3⟩ := load_nums hld
        have hn2 : e2.nums.length = ln := by rw [l1]; exact hlz
        rw [hn2] at HR2
        have hO2 : e2.Ok := hO9.same l1 l2
        have hz2 : e2.z = (z : Int) := l2
        have hmin : ∀ W : World, (Builtin.min_ #[3, 3] 3 #[.int .i64 (N : Int), .int .i64 (ln : Int)]).run Try.prog W = .ok (.int .i64 ((min N ln : Nat) : Int)) W := by
          intro W
          by_cases h : N ≤ ln
          · rw [Nat.min_eq_left h]; simp [Builtin.min_, Builtin.min2]; omega
          · rw [Nat.min_eq_right (by omega)]; simp [Builtin.min_, Builtin.min2]; omega
        have hkl : min N ln ≤ e2.nums.length := by rw [hn2]; exact Nat.min_le_right _ _
        have hkN : min N ln ≤ N := Nat.min_le_left _ _
        have hP3 : (e2.release (min N ln)).Pre (N - min N ln) := ⟨release_ok hO2 _, release_ch e2 _ l3, by rw [release_nums, release_z, List.length_take, hz2, ← hN, hn2]; omega⟩
        have hg3 : N - (e2.release (min N ln)).nums.length = N - min N ln := by rw [release_nums, List.length_take, hn2]; omega
        rw [hg3] at HR2
        have HR := Lib.hid (HRes.out.trans HR2.out)
        have HO2 := Lib.hid hO2
        have HP3 := Lib.hid hP3
        have HKl := Lib.hid hkl
        have HL3 := Lib.hid l3
        obtain ⟨k, hk⟩ : ∃ k, k = min N ln := ⟨_, rfl⟩
        rw [← hk] at hmin HKl HP3 hkN HR
        have hk37 : k ≤ 37 := by omega
        have hZ2 := Lib.hid hz2
        have hn2E := Lib.hid hn2
        have hNz := Lib.hid hN
        clear HR2 HRes hLz hld hO9 hN l1 l2 l3 hn2 hO2 hz2 hP3 hkl hg3 hk
        go_wp2_with fail
        refine HBk.out.mono ?_
        rintro e w10 ⟨v10, rfl, ⟨nv2, vs2, gs2, hL2, -, -⟩, hB10⟩
        have HB10 := Lib.hid (HBz.out.trans hB10)
        have hB10s := Nat.le_trans HB0.out HB10.out.size
        have HRl := Lib.hid (by
          obtain ⟨b0, hb0⟩ := Option.isSome_iff_exists.1 HL3.out
          exact FiDRel_any hL2 hB10s HO2.out hb0 k HKl.out)
        have c510 := hL2.hd.c5
        obtain ⟨q2, c2, hq2, -⟩ := hL2.rw_.nvF
        have hl2 : e2.nums.length = ln := hn2E.out
        rw [hq2, hl2] at c510
        clear hL2 hB10 HBk hq2
        go_wp2_with fail
        refine HRl.out.mono ?_
        rintro e w11 ⟨rfl, hA11, hB11⟩
        have HA11 := Lib.hid hA11
        have HB11 := Lib.hid (HB10.out.trans hB11)
        obtain ⟨X, hX⟩ : ∃ X, X = Dr.grow g (N - k) (e2.release k) := ⟨_, rfl⟩
        have HX := Lib.hid hX
        rw [← hX] at HR
        clear hA11 hB11 HRl c510 hmin hX
        go_wp2_with fail
        go_loopw [] (fun wr => ∃ (j : Nat) (dk : Dr), j ≤ N ∧ DrLen wr D + j = N ∧ Hid (DrA wr B D m g kd dk) ∧ Hid (Below B w wr) ∧ Hid (dk.Pre j) ∧ Hid (dk.z = (z : Int)) ∧ Hid (Dr.grow g j dk = X)) (fun wr => N - DrLen wr D)
        case atStart =>
          obtain ⟨nv3, vs3, gs3, hL3⟩ := HA11.out
          have hzr : (e2.release k).z = (z : Int) := by rw [release_z, hZ2.out]
          refine ⟨N - k, e2.release k, by omega, ?_, HA11, HB11, HP3, hzr, HX.out.symm⟩
          have := HP3.out.need
          rw [hzr, ← hNz.out] at this
          rw [hL3.len]; exact this
        case round =>
          rename World => wr
          clear HA11 HB11 HP3 HX
          obtain ⟨j, dk, hj, hlen, HA, HBl, HP, HZ, HG⟩ := hrel
          obtain ⟨nvk, vsk, gsk, hLk⟩ := HA.out
          obtain ⟨qk, ck, hqk, -⟩ := hLk.rw_.nvF
          have c5k := hLk.hd.c5
          have hB' := Nat.le_trans HB0.out HBl.out.size
          have hneed : dk.nums.length + j = N := by have := HP.out.need; rw [HZ.out, ← hNz.out] at this; exact this
          rw [hqk] at c5k
          have hlq := hLk.len
          cases j with
          | zero =>
            have hlN : dk.nums.length = N := by omega
            have HNm := Lib.hid (FiDName_any hLk hB' HP.out.ok (by rw [hlN, hNz.out]; exact need_five _))
            have HR9 : Hid (RR = .ok dk.name) := by
              show _ = _
              rw [HR.out, ← HG.out]; rfl
            rw [hlN] at c5k
            clear hLk HA HP HG HR hqk hlN hlq hlen HZ
            go_wp2_with fail
            refine HNm.out.mono ?_
            rintro e w12 ⟨rfl, hA12, hB12⟩
            have HA12 := Lib.hid hA12
            have HB12 := Lib.hid (HBl.out.trans hB12)
            clear hA12 hB12 HNm
            go_wp2_with fail
            go_ret
            rw [HR9.out]
            exact ⟨HB12.out, rfl, HA12.out⟩
          | succ j =>
            have HT := Lib.hid (FiDTake_any hLk hB' hgm HP.out)
            have hltN : (dk.nums.length : Int) < (N : Int) := by omega
            rcases ht : dk.take g with _ | d'
            · rw [ht] at HT
              have HR9 : Hid (RR = .error 7) := by
                show _ = _
                rw [HR.out, ← HG.out, Dr.grow, ht]; rfl
              clear hLk HA HP HG HR hqk hlq hlen HZ ht
              generalize dk.nums.length = lk at *
              go_wp2_with fail
              refine HT.out.mono ?_
              rintro e w12 ⟨hB12, rfl⟩
              have HB12 := Lib.hid (HBl.out.trans hB12)
              clear hB12 HT
              go_wp2_with fail
              go_ret
              rw [HR9.out]
              exact ⟨HB12.out, rfl⟩
            · rw [ht] at HT
              have HP' := Lib.hid (take_pre hgm HP.out ht)
              have HG' : Hid (Dr.grow g j d' = X) := by
                show _ = _
                rw [← HG.out, Dr.grow, ht]; rfl
              have HZ' : Hid (d'.z = (z : Int)) := by
                show _ = _
                rw [take_z ht]; exact HZ.out
              have Hl0 : Hid (DrLen wr D = dk.nums.length) := hlq
              clear hLk HA HP HG hqk hlq ht HZ
              generalize dk.nums.length = lk at *
              go_wp2_with fail
              refine HT.out.mono ?_
              rintro e w12 ⟨hB12, rfl, hA12⟩
              have HA12 := Lib.hid hA12
              have HB12 := Lib.hid (HBl.out.trans hB12)
              have hl12 : DrLen w12 D + j = N := by
                obtain ⟨nv3, vs3, gs3, hL3⟩ := hA12
                have := HP'.out.need
                rw [HZ'.out, ← hNz.out] at this
                rw [hL3.len]; exact this
              clear hB12 hA12 HT
              go_wp2_with fail
              go_roundw
              case rel => exact ⟨j, d', by omega, hl12, HA12, HB12, HP', HZ', HG'⟩
              case measure => have := Hl0.out; omega
end
end Go.Proofs.Ytiafmghdiidniaa
