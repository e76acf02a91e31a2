/-
  THE WALK of the landed draft's write.
-/
import Derived.Test.YtiafmghdiidniaaLZK
namespace Go.Proofs.Ytiafmghdiidniaa
set_option maxRecDepth 100000
set_option maxHeartbeats 1000000
open Go.RowKit Cdc Inn Fil

namespace Fil
theorem grow_pre {g : Geo} (hg : gmay g = true) : ∀ (k : Nat) {d e : Dr}, d.Pre k → Dr.grow g k d = some e → e.Pre 0 ∧ e.z = d.z
  | 0, d, e, h, he => by rw [Dr.grow] at he; injection he with he; subst he; exact ⟨h, rfl⟩
  | k + 1, d, e, h, he => by
    rw [Dr.grow, Option.bind_eq_some_iff] at he
    obtain ⟨f, hf, he⟩ := he
    obtain ⟨h1, h2⟩ := grow_pre hg k (take_pre hg h hf) he
    exact ⟨h1, h2.trans (take_z hf)⟩
theorem name_same (d : Dr) : d.name.nums = d.nums ∧ d.name.z = d.z := by
  unfold Dr.name; split <;> exact ⟨rfl, rfl⟩
/-- What a draft is behind a resize. -/
theorem resize_ok {bl : List (List UInt8)} {g : Geo} (hg : gmay g = true) {d e : Dr} (hd : d.Ok) {z : Int} (hz0 : 0 ≤ z) (hz : z ≤ 2304) (h : d.resize bl g z = .ok e) : e.Ok ∧ e.nums.length = need e.z ∧ e.z = z := by
  unfold Dr.resize at h
  rcases hc : (if d.z < z then d.clearTail bl else some d) with _ | d1
  · rw [hc] at h; cases h
  · rw [hc] at h
    simp only at h
    have h1 : d1.nums = d.nums ∧ d1.z = d.z := by
      split at hc
      · exact clear_nums hc
      · injection hc with hc; subst hc; exact ⟨rfl, rfl⟩
    have hO : ({ d1 with z := z } : Dr).Ok := ⟨by show ∀ n ∈ d1.nums, _; rw [h1.1]; exact hd.num, by show d1.nums.length ≤ 37; rw [h1.1]; exact hd.len, hz0, hz⟩
    unfold Dr.resize2 at h
    split at h
    · rename_i hn
      injection h with h; subst h
      exact ⟨hO, hn.symm, rfl⟩
    · rcases hl : ({ d1 with z := z } : Dr).load bl 0 with _ | d2
      · rw [hl] at h; cases h
      · rw [hl] at h
        simp only at h
        obtain ⟨l1, l2, l3⟩ := load_nums hl
        have hO2 := hO.same l1 l2
        have hz2 : d2.z = z := l2
        have hP : (d2.release (min (need z) d2.nums.length)).Pre (need z - (d2.release (min (need z) d2.nums.length)).nums.length) :=
          ⟨release_ok hO2 _, release_ch _ _ l3, by rw [release_nums, release_z, List.length_take, hz2]; omega⟩
        rcases hgr : Dr.grow g (need z - (d2.release (min (need z) d2.nums.length)).nums.length) (d2.release (min (need z) d2.nums.length)) with _ | d3
        · rw [hgr] at h; cases h
        · rw [hgr] at h
          injection h with h
          subst h
          obtain ⟨p1, p2⟩ := grow_pre hg _ hP hgr
          obtain ⟨n1, n2⟩ := name_same d3
          refine ⟨p1.ok.same n1 n2, ?_, ?_⟩
          · rw [n1, n2]; have := p1.need; omega
          · rw [n2, p2, release_z, hz2]
theorem resize_err {bl : List (List UInt8)} {g : Geo} {d : Dr} {z er : Int} (h : d.resize bl g z = .error er) : er = 1 ∨ er = 7 := by
  unfold Dr.resize at h
  split at h
  · injection h with h; exact .inl h.symm
  · unfold Dr.resize2 at h
    split at h
    · cases h
    · split at h
      · injection h with h; exact .inl h.symm
      · split at h
        · injection h with h; exact .inr h.symm
        · cases h
theorem fill_nil (bl : List (List UInt8)) (n : Nat) (d : Dr) (off : Nat) : d.fill bl n off [] = some d := by
  cases n <;> simp [Dr.fill]
theorem place_lt2 {z : Int} {off : Nat} (h : (off : Int) < z) : placeOf off < need z := by
  have hd : off / 64 < data z := by unfold data; omega
  unfold placeOf need
  split <;> split <;> omega
theorem put_same (d : Dr) (i : Nat) (b : List UInt8) : (d.put i b).nums = d.nums ∧ (d.put i b).z = d.z := ⟨rfl, rfl⟩
end Fil
/-- A slice's length. -/
def lenS : Value → Nat
  | .slice _ n _ => n
  | _ => 0
section
variable {w : World} {B D m : Nat} {bl : List (List UInt8)} {g : Geo} {kd : Int} {d : Dr} {nv : Value} {vs : Nat → Value} {gs : Nat → Nat}
theorem DrL.over_lay (h : DrL w B D m g kd d nv vs gs) (hB : B ≤ w.heap.size) (i u : Nat) (hi : i < 128) (cs : List UInt8) (hu : u + cs.length ≤ 64) (hc : d.ch i = some (d.row i)) :
    DrA (w.setCells (gs i) u (cs.map V8)) B D m g kd (d.put i (Fil.over (d.row i) u cs)) ∧ Below B w (w.setCells (gs i) u (cs.map V8)) := by
  obtain ⟨h1, h2, h3, h4⟩ := h.rw_.row i hi _ hc
  have ho := h.over i hi hc u cs hu
  refine ⟨⟨_, _, _, ho⟩, ?_⟩
  have hcg := (h1.write u cs hu).2
  exact ⟨hcg.os, hcg.tape, hcg.output, hcg.size, fun k hk => hcg.block k (by omega) fun o e => by omega⟩
theorem Sees.belowB {w w' : World} {B b o : Nat} {ys : List Value} (h : Sees w b o ys) (hb : Below B w w') (hB : b < B) : Sees w' b o ys := fun j v hv => by
  rw [hb.cell (by exact hB)]; exact h j v hv
theorem FiDWrite_run (h : DrL w B D m g kd d nv vs gs) (hs : StB w B m bl) (hB : B ≤ w.heap.size) (hgm : gmay g = true) (hd : d.Ok) (hlen : d.nums.length = need d.z) (off : Nat) (b : List UInt8) (hoff : off + b.length ≤ 2304)
    {bb o c : Nat} (hbc : b.length ≤ c) (hbb : bb < B) (hsee : Sees w bb o (b.map V8)) (RR : Except Int Dr) (hRR : RR = d.write bl g off b) :
    Calls Try.prog 34 #[.pointer (some ⟨D, 0, none⟩), .int .i64 (off : Int), .slice (some ⟨bb, o, none⟩) b.length c] w fun e w' => Turns B D m g kd w RR e w' := by
  have c4 := h.hd.c4
  obtain ⟨y, hy⟩ : ∃ y : Nat, d.z = (y : Int) := ⟨d.z.toNat, by have := hd.z0; omega⟩
  rw [hy] at c4
  have hy2 : y ≤ 2304 := by have := hd.z1; omega
  obtain ⟨z, hz⟩ : ∃ z, z = max y (off + b.length) := ⟨_, rfl⟩
  have hz2 : z ≤ 2304 := by omega
  have hzl : off + b.length ≤ z := by omega
  have hmax : ∀ W : World, (Builtin.max_ #[3, 3] 3 #[.int .i64 (y : Int), .int .i64 ((off : Int) + (b.length : Int))]).run Try.prog W = .ok (.int .i64 (z : Int)) W := by
    intro W
    by_cases hh : y ≤ off + b.length
    · rw [show (z : Int) = (off : Int) + b.length by omega]; simp [Builtin.max_, Builtin.max2]; omega
    · rw [show (z : Int) = y by omega]; simp [Builtin.max_, Builtin.max2]; omega
  have HRz := Lib.hid (FiDResize_run h hs hB hgm hd hlen z hz2 _ rfl)
  have hmz : max d.z ((off : Int) + b.length) = (z : Int) := by rw [hy]; omega
  have HB0 := Lib.hid hB
  have HS := Lib.hid hs
  have HSee := Lib.hid hsee
  have hbl : (b.length : Int) ≤ 2304 := by omega
  have hol : (off : Int) ≤ 2304 := by omega
  have HHd := Lib.hid hd
  unfold Dr.write at hRR
  rw [hmz] at hRR
  rcases hr : d.resize bl g z with er | d1
  · rw [hr] at HRz hRR
    have HR : Hid (RR = .error er) := hRR
    have hne : (er != 0) = true := by rcases resize_err hr with e | e <;> rw [e] <;> rfl
    clear h hs hB hlen hd hy hRR hsee HSee hr hmz HHd hz
    generalize b.length = L at *
    go_enter Try.func34, Try.ntmps34
    go_wp2_with fail
    refine HRz.out.mono ?_
    rintro e w2 ⟨hB2, rfl⟩
    have HB2 := Lib.hid hB2
    clear hB2 HRz c4
    go_wp2_with fail
    go_ret
    rw [HR.out]
    exact ⟨HB2.out, rfl⟩
  · obtain ⟨o1, o2, o3⟩ := resize_ok hgm hd (by omega) (by omega) hr
    rw [hr] at HRz hRR
    simp only at hRR
    obtain ⟨X, hX⟩ : ∃ X, X = d1.fill bl b.length off b := ⟨_, rfl⟩
    rw [← hX] at hRR
    have HR := Lib.hid hRR
    have HX : Hid (∃ n, b.length ≤ n ∧ Dr.fill bl n d1 off b = X) := ⟨_, Nat.le_refl _, hX.symm⟩
    have HO1 := Lib.hid o1
    have HO2 := Lib.hid o2
    have HO3 : Hid (((off + b.length : Nat) : Int) ≤ d1.z) := by show _ ≤ _; rw [o3]; omega
    clear h hs hB hlen hd hy hRR hsee hr hmz o1 o2 o3 hX HHd hz
    obtain ⟨L, HLb⟩ : ∃ L, Hid (L = b.length) := ⟨_, rfl⟩
    rw [← HLb.out] at hoff hbc hzl hmax hbl HX HO3 ⊢
    go_enter Try.func34, Try.ntmps34
    go_wp2_with fail
    refine HRz.out.mono ?_
    rintro e w2 ⟨hB2, rfl, hA2⟩
    have HB2 := Lib.hid hB2
    have HA2 := Lib.hid hA2
    have HSee2 := Lib.hid (HSee.out.belowB hB2 hbb)
    clear hB2 HRz c4 hA2 HSee hmax
    go_wp2_with fail
    obtain ⟨Z, HZ⟩ : ∃ Z, Hid (Z = d1.z) := ⟨_, rfl⟩
    rw [← HZ.out] at HO3
    go_loopw [1, 2] (fun offv bv wr => ∃ (f : Nat) (r : List UInt8) (o' c' : Nat) (dk : Dr), offv = .int .i64 f ∧ bv = .slice (some ⟨bb, o', none⟩) r.length c' ∧ r.length ≤ c' ∧ f + r.length = off + L ∧ Hid (Sees wr bb o' (r.map V8)) ∧ Hid (DrA wr B D m g kd dk) ∧ Hid (Below B w wr) ∧ Hid dk.Ok ∧ Hid (dk.nums.length = need dk.z) ∧ Hid (dk.z = Z) ∧ Hid (∃ n, r.length ≤ n ∧ Dr.fill bl n dk f r = X)) (fun _ bv _ => lenS bv)
    case atStart => exact ⟨off, b, o, c, d1, rfl, by rw [HLb.out], by rw [← HLb.out]; exact hbc, by rw [HLb.out], HSee2, HA2, HB2, HO1, HO2, HZ.out.symm, by rw [← HLb.out]; exact HX.out⟩
    case round =>
      rename World => wr
      clear HSee2 HA2 HB2 HO1 HO2 HX
      obtain ⟨f, r, o', c', dk, rfl, rfl, hrc, hfr, HSee, HA, HBl, HO, HN, HZk, HF⟩ := hrel
      obtain ⟨rl, HRl⟩ : ∃ rl, Hid (rl = r.length) := ⟨_, rfl⟩
      rw [← HRl.out] at hrc hfr ⊢
      by_cases hr0 : rl = 0
      · have hr : r = [] := List.eq_nil_of_length_eq_zero (by rw [← HRl.out]; exact hr0)
        have HR9 : Hid (RR = .ok dk) := by
          obtain ⟨n, _, hX⟩ := HF.out
          rw [hr, fill_nil] at hX
          show _ = _
          rw [HR.out, ← hX]
        subst hr0
        clear HR HF hr hrc hfr
        go_wp2_with fail
        go_ret
        rw [HR9.out]
        exact ⟨HBl.out, rfl, HA.out⟩
      · obtain ⟨nvk, vsk, gsk, hLk⟩ := HA.out
        have hB' := Nat.le_trans HB0.out HBl.out.size
        have HSk := HS.out.below HBl.out
        have hf23 : f ≤ 2304 := by omega
        have hplace : placeOf f < dk.nums.length := by
          rw [HN.out]
          refine place_lt2 ?_
          rw [HZk.out]
          have := HO3.out
          omega
        have HNA := Lib.hid (numberAt_any dk.nums f hf23 hplace nvk wr hLk.rw_.own.from_)
        have hn128 := numAt_lt HO.out f
        have c5k := hLk.hd.c5
        obtain ⟨n', hX⟩ : ∃ n', rl ≤ n' + 1 ∧ Dr.fill bl (n' + 1) dk f r = X := by
          obtain ⟨n, h1, h2⟩ := HF.out
          rw [← HRl.out] at h1
          exact ⟨n - 1, by omega, by rw [show n - 1 + 1 = n by omega]; exact h2⟩
        obtain ⟨hn1, hX⟩ := hX
        have hrne : ¬ r = [] := fun e => hr0 (by rw [HRl.out, e]; rfl)
        rw [Dr.fill, if_neg hrne] at hX
        rcases hld : dk.load bl (numAt dk.nums f) with _ | e2
        · rw [hld, Option.bind_none] at hX
          have HBk := Lib.hid (FiDBlock_bad hLk HSk (numAt dk.nums f) hn128 hld)
          have HR9 : Hid (RR = .error 1) := by show _ = _; rw [HR.out, ← hX]
          have hrp : (rl : Int) > 0 := by omega
          clear hLk hX HR hld hrne HF HA HO HN HZk HSee hplace
          generalize numAt dk.nums f = nn at *
          go_wp2_with fail
          refine HNA.out.mono ?_
          rintro e w3 ⟨rfl, rfl⟩
          go_wp2_with fail
          refine HBk.out.mono ?_
          rintro e w4 ⟨rfl, rfl⟩
          go_wp2_with fail
          go_ret
          rw [HR9.out]
          exact ⟨HBl.out, rfl⟩
        · rw [hld, Option.bind_some] at hX
          have HBk := Lib.hid (FiDBlock_ok hLk HSk hB' (numAt dk.nums f) hn128 hld)
          obtain ⟨l1, l2, l3⟩ := load_nums hld
          have HO2 := Lib.hid (HO.out.same l1 l2)
          have HN2 : Hid (e2.nums.length = need e2.z) := by show _ = _; rw [l1, l2]; exact HN.out
          have HZ2 : Hid (e2.z = Z) := by show _ = _; rw [l2]; exact HZk.out
          obtain ⟨u, HU⟩ : ∃ u, Hid (u = f % 64) := ⟨_, rfl⟩
          have hu64 : u < 64 := by rw [HU.out]; omega
          rw [← HU.out] at hX
          obtain ⟨k, HK⟩ : ∃ k, Hid (k = min (64 - u) rl) := ⟨_, rfl⟩
          have hk0 : 0 < k := by rw [HK.out]; omega
          have hkr : k ≤ rl := by rw [HK.out]; omega
          have hku : u + k ≤ 64 := by rw [HK.out]; omega
          have hdr : r.drop (64 - u) = r.drop k := by
            rw [HK.out]
            by_cases h : 64 - u ≤ rl
            · rw [Nat.min_eq_left h]
            · rw [Nat.min_eq_right (by omega), List.drop_of_length_le (by rw [← HRl.out]; omega), List.drop_of_length_le (by rw [← HRl.out]; exact Nat.le_refl _)]
          have htl : (r.take (64 - u)).length = k := by rw [List.length_take, ← HRl.out, HK.out]
          have hmk : min (64 - u) r.length = k := by rw [← HRl.out, HK.out]
          rw [hdr, hmk] at hX
          have HX2 : Hid (∃ n, (r.drop k).length ≤ n ∧ Dr.fill bl n (e2.put (numAt dk.nums f) (Fil.over (e2.row (numAt dk.nums f)) u (r.take (64 - u)))) (f + k) (r.drop k) = X) := ⟨n', by rw [List.length_drop, ← HRl.out]; omega, hX⟩
          obtain ⟨cs, HCs⟩ : ∃ cs, Hid (cs = r.take (64 - u)) := ⟨_, rfl⟩
          rw [← HCs.out] at HX2 htl
          have hrp : (rl : Int) > 0 := by omega
          have hfm : Int.tmod (f : Int) 64 = (u : Int) := by rw [HU.out, Int.tmod_eq_emod_of_nonneg (by omega)]; omega
          have hfm2 : (f : Int) % 64 = (u : Int) := by rw [HU.out]; omega
          have Htl := Lib.hid htl
          clear hLk hX hld hrne HF HA HO HN HZk hplace l1 l2 l3 hdr htl hmk hn1
          generalize numAt dk.nums f = nn at *
          have hf23i : (f : Int) ≤ 2304 := by omega
          have hrl23 : (rl : Int) ≤ 2304 := by omega
          go_wp2_with fail
          refine HNA.out.mono ?_
          rintro e w3 ⟨rfl, rfl⟩
          go_wp2_with fail
          refine HBk.out.mono ?_
          rintro e w4 ⟨v4, rfl, ⟨nv4, vs4, gs4, hL4, hvi, hch⟩, hB4⟩
          obtain ⟨cv, hv, hc64⟩ := (hL4.rw_.row nn hn128 _ hch).1.val
          rw [hv] at hvi
          subst hvi
          have HB4 := Lib.hid (HBl.out.trans hB4)
          have hB4s := Nat.le_trans HB0.out HB4.out.size
          have HT : Hid (w4.there (gs4 nn) u k) := by
            have hB9 := (hL4.rw_.row nn hn128 _ hch).1
            have := hB9.here.there' u k (by rw [List.length_map, hB9.len]; omega)
            rwa [Nat.zero_add] at this
          have HSee4 : Hid (Sees w4 bb o' (r.map V8)) := HSee.out.belowB hB4 hbb
          have HOv := Lib.hid (hL4.over_lay hB4s nn u hn128 cs (by rw [Htl.out]; exact hku) hch)
          have HSrc : Hid (∀ j v, (cs.map V8)[j]? = some v → w4.cell? ((⟨bb, o', none⟩ : Addr).add j) = some v) := fun j v hv => by
            rw [add_off]
            refine HSee4.out j v ?_
            rw [HCs.out, List.map_take, List.getElem?_take] at hv
            split at hv
            · exact hv
            · cases hv
          have hne : ¬ cv = u := by omega
          have hle : u ≤ cv := by omega
          have hu64i : (u : Int) ≤ 64 := by omega
          have H1 := Lib.hid (V8_one cs)
          have Hcl : Hid ((cs.map V8).length = k) := by show _ = _; rw [List.length_map]; exact Htl.out
          clear hL4 hB4 HBk HNA hv hch HSee c5k
          generalize gs4 nn = gg at *
          obtain ⟨ds, HDs⟩ : ∃ ds, Hid (ds = cs.map V8) := ⟨_, rfl⟩
          rw [← HDs.out] at HOv HSrc Hcl
          have H1d : Hid (∀ v ∈ ds, v.oneCell' = true) := by rw [HDs.out]; exact H1.out
          go_wp2_with (refine wpList_copy_here rfl (.tmp 45) (.tmp 46) 41 41 rfl 5 Try.underlying41 elem8 _ _ (64 - u) (cv - u) rl c' (by simp [Act.eval]) rfl gg u ds (by rw [Hcl.out, HK.out]; exact Nat.min_comm _ _) (by rw [Hcl.out]; exact HT.out) (fun _ => ⟨rfl, _, rfl, HSrc.out⟩) H1d.out ?_; rw [Hcl.out])
          have HB5 := Lib.hid (HB4.out.trans HOv.out.2)
          have HA5 := Lib.hid HOv.out.1
          have HSee5 : Hid (Sees (w4.setCells gg u ds) bb (o' + k) ((r.drop k).map V8)) := fun j v hv => by
            have h5 := HSee4.out.belowB HOv.out.2 hbb
            rw [List.map_drop, List.getElem?_drop] at hv
            have := h5 (k + j) v hv
            rwa [← Nat.add_assoc] at this
          have Hrd : Hid (rl - k = (r.drop k).length) := by show _ = _; rw [List.length_drop, ← HRl.out]
          have HO5 : Hid (e2.put nn (Fil.over (e2.row nn) u cs)).Ok := HO2.out.same rfl rfl
          have hfk : (f : Int) + (k : Int) ≤ 2304 := by omega
          have hk23 : (k : Int) ≤ 2304 := by omega
          have hkri : (k : Int) ≤ rl := by omega
          have Hk0 := Lib.hid hk0
          have Hkr := Lib.hid hkr
          have Hrc := Lib.hid hrc
          have Hfr := Lib.hid hfr
          clear HOv HSrc HSee4 HT H1 H1d Hcl HDs HCs Htl HO2 HK HU
          generalize w4.setCells gg u ds = w5 at *
          by_cases hck : c' = k
          · have hrk : rl = k := by omega
            go_quiet (fail)
            go_wp2_with fail
            have hD := below_drewN (Below.refl w5.heap.size w5) nq
            have hle : rl - k = 0 := by omega
            have hr5 : (r.drop k) = [] := List.eq_nil_of_length_eq_zero (by rw [← Hrd.out]; exact hle)
            refine ⟨⟨f + k, r.drop k, o', 0, e2.put nn (Fil.over (e2.row nn) u cs), by rw [Int.natCast_add], by rw [← Hrd.out, hle], by rw [← Hrd.out, hle]; exact Nat.le_refl _, by rw [← Hrd.out]; have := Hfr.out; omega, ?_, HA5.out.below hD, HB5.out.trans (hD.mono (Nat.le_trans HB0.out HB5.out.size)), HO5, HN2, HZ2, HX2⟩, ?_⟩
            · rw [hr5]; intro j u hu; simp at hu
            · show 0 < rl; omega
          · go_quiet (fail)
            go_wp2_with fail
            have hD := below_drewN (Below.refl w5.heap.size w5) nq
            refine ⟨⟨f + k, r.drop k, o' + k, c' - k, e2.put nn (Fil.over (e2.row nn) u cs), by rw [Int.natCast_add], by rw [← Hrd.out], by rw [← Hrd.out]; have := Hrc.out; omega, by rw [← Hrd.out]; have := Hfr.out; have := Hkr.out; omega, ?_, HA5.out.below hD, HB5.out.trans (hD.mono (Nat.le_trans HB0.out HB5.out.size)), HO5, HN2, HZ2, HX2⟩, ?_⟩
            · exact HSee5.out
            · show rl - k < rl; have := Hkr.out; have := Hk0.out; omega
end
end Go.Proofs.Ytiafmghdiidniaa
