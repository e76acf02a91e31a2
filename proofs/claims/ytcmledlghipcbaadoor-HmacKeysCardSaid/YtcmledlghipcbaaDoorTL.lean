/-
  THE WALK of the law HmacKeys.
-/
import Derived.Test.YtcmledlghipcbaaDoorTK
import Derived.Test.YtcmledlghipcbaaDoorTG
namespace Go.Proofs.YtcmledlghipcbaaDoor
open Go.RowKit Sha

set_option maxRecDepth 100000 in
set_option maxHeartbeats 400000 in
theorem HKeys_far (A0 : Option Addr) (n0 c0 : Nat) (A1 : Option Addr) (n1 c1 : Nat) (z : Int) (hn : 200 < n0 ∨ 200 < n1) (w : World) (hT : Tab w) :
    Calls Tryd.prog 4 #[.slice A0 n0 c0, .slice A1 n1 c1, .int .u8 z] w fun e w' => e = .returned (.bool true) ∧ Below w.heap.size w w' := by
  have HT := Lib.hid hT
  clear hT
  by_cases h0 : 200 < n0
  · clear hn
    go_enter Tryd.func4, Tryd.ntmps4
    go_wp2_with fail
    refine (Hknows_any w HT.out).mono ?_
    rintro e w1 ⟨rfl, hb1⟩
    go_wp2
    go_ret
    exact ⟨rfl, hb1⟩
  · have h1 : 200 < n1 := by omega
    clear hn
    go_enter Tryd.func4, Tryd.ntmps4
    go_wp2_with fail
    refine (Hknows_any w HT.out).mono ?_
    rintro e w1 ⟨rfl, hb1⟩
    go_wp2
    go_ret
    exact ⟨rfl, hb1⟩

set_option maxRecDepth 100000 in
set_option maxHeartbeats 1000000 in
theorem HKeys_long (A0 : Option Addr) (n0 c0 : Nat) (A1 : Option Addr) (n1 c1 : Nat) (z : Int) (h0 : n0 ≤ 200) (h1 : n1 ≤ 200) (h64 : 64 < n0) (key b : List UInt8) (hk : key.length = n0) (hb : b.length = n1) (w : World) (hT : Tab w)
    (ha0 : Arg w (.slice A0 n0 c0) key) (ha1 : Arg w (.slice A1 n1 c1) b) :
    Calls Tryd.prog 4 #[.slice A0 n0 c0, .slice A1 n1 c1, .int .u8 z] w fun e w' => e = .returned (.bool true) ∧ Below w.heap.size w w' := by

  have HT := Lib.hid hT
  have HK := Lib.hid ha0
  have HB := Lib.hid ha1
  have HKl := Lib.hid hk
  have HBl := Lib.hid hb
  clear hT ha0 ha1 hk hb
  go_enter Tryd.func4, Tryd.ntmps4
  go_wp2_with fail
  refine (New_any _ key (by rw [HKl.out]; omega) w HK.out).mono ?_
  rintro e w1 ⟨p, rfl, hkey, hb1⟩
  obtain ⟨g, kb, kc, _, _, _, _, rfl, hg, hs, hkb, hkc, hks, _⟩ := hkey
  have HC : Hid (w1.cell? ⟨g, 0, none⟩ = some (.slice (some ⟨kb, 0, none⟩) 64 kc)) := hs 0 _ rfl
  clear hs

  have HFK : Hid (fullK ((fullK key).take 32) = fullK key) := fullK_long key (by rw [HKl.out]; exact h64)
  · skip

    have hb1s := hb1.size
    have HT1 : Hid (Tab w1) := HT.out.below hb1
    have HK1 : Hid (Arg w1 (.slice A0 n0 c0) key) := HK.out.below hb1
    have HB1 : Hid (Arg w1 (.slice A1 n1 c1) b) := HB.out.below hb1
    have HQ : Hid (Arg w1 (.slice (some ⟨kb, 0, none⟩) 32 kc) ((fullK key).take 32)) := by
      refine .inr ⟨kb, 0, kc, ?_, hkb, ?_, ?_⟩
      · rw [List.length_take, fullK_length]; first | rfl | (congr 1; omega)
      · rw [List.length_take, fullK_length]; omega
      · rw [List.map_take]
        have := hks.piece 0 32
        rwa [List.drop_zero, Nat.add_zero] at this
    have HMac : Hid (mac ((fullK key).take 32) b = mac key b) := by show _ = _; rw [mac, mac, HFK.out]
    have HQl : Hid (((fullK key).take 32).length ≤ 1000000) := by show _ ≤ _; rw [List.length_take]; omega
    obtain ⟨rs, hrs⟩ : ∃ rs, rs = (mac key b).map V8 := ⟨_, rfl⟩
    have hte := tag_eq (mac key b) rs ⟨hrs, mac_length key b⟩
    have HS1 : Hid (Calls Tryd.prog 8 #[.slice A0 n0 c0, .slice A1 n1 c1] w1.drew fun e w' => e = .returned (.agg rs.toArray) ∧ w'.cell? ⟨g, 0, none⟩ = some (.slice (some ⟨kb, 0, none⟩) 64 kc) ∧ Below w1.heap.size w1 w') :=
      (HSum_any _ _ key b (by rw [HKl.out]; omega) (by rw [HBl.out]; omega) w1.drew HT1.out HK1.out HB1.out).mono fun e w' ⟨rs', hr', he, hb'⟩ => by
        have hb : Below w1.heap.size w1 w' := ⟨hb'.os, hb'.tape, hb'.output, hb'.size, hb'.block⟩
        refine ⟨by rw [he, hr'.out.1, hrs], (World.cell?_of_block (w := w1) (hb.block g hg)).trans HC.out, hb⟩
    have HS2 : Hid (∀ W, Below w1.heap.size w1 W → Calls Tryd.prog 8 #[.slice (some ⟨kb, 0, none⟩) 32 kc, .slice A1 n1 c1] W fun e w' => e = .returned (.agg rs.toArray) ∧ w'.cell? ⟨g, 0, none⟩ = some (.slice (some ⟨kb, 0, none⟩) 64 kc) ∧ Below w1.heap.size w1 w') := fun W hW =>
      (HSum_any _ _ ((fullK key).take 32) b HQl.out (by rw [HBl.out]; omega) W (HT1.out.below hW) (HQ.out.below hW) (HB1.out.below hW)).mono fun e w' ⟨rs', hr', he, hb'⟩ => by
        have hb := hW.trans (hb'.mono hW.size)
        refine ⟨by rw [he, hr'.out.1, HMac.out, hrs], (World.cell?_of_block (w := w1) (hb.block g hg)).trans HC.out, hb⟩
    have HKN : Hid (∀ W, Below w1.heap.size w1 W → Calls Tryd.prog 6 #[] W fun e w' => e = .returned (.bool true) ∧ w'.cell? ⟨g, 0, none⟩ = some (.slice (some ⟨kb, 0, none⟩) 64 kc) ∧ Below w1.heap.size w1 w') := fun W hW =>
      (Hknows_any W (HT1.out.below hW)).mono fun e w' ⟨he, hb'⟩ => by
        have hb := hW.trans (hb'.mono hW.size)
        exact ⟨he, (World.cell?_of_block (w := w1) (hb.block g hg)).trans HC.out, hb⟩
    have hS0 : w1.drew.cell? ⟨g, 0, none⟩ = some (.slice (some ⟨kb, 0, none⟩) 64 kc) := HC.out
    have hkcI : (32 : Int) ≤ kc := by omega
    have hkcI0 : (0 : Int) ≤ 32 := by omega
    have hgd : Tryd.prog.eqGuardType Tryd.prog.depth 28 = false := by kernel_rfl
    clear hrs HMac HQ HQl HT1 HK1 HB1 HC hks HFK
    go_wp2
    go_region_held3 (fun W => W.cell? ⟨g, 0, none⟩ = some (.slice (some ⟨kb, 0, none⟩) 64 kc)) (first | exact hS0 | exact hS2 | exact hS3 | exact hS4) (first
      | (go_at_call 8; refine (HS2.out _ hb2).mono ?_; rintro e w3 ⟨rfl, hS3, hb3⟩)
      | (go_at_call 8; refine HS1.out.mono ?_; rintro e w2 ⟨rfl, hS2, hb2⟩)
      | (go_at_call 6; refine (HKN.out _ hb3).mono ?_; rintro e w4 ⟨rfl, hS4, hb4⟩))
    all_goals
      clear hS0 hS2 hS3 hS4 hte hgd
      go_wp2
      go_ret
      exact ⟨rfl, hb1.trans (hb4.mono hb1s)⟩

set_option maxRecDepth 100000 in
set_option maxHeartbeats 1000000 in
theorem HKeys_short (A0 : Option Addr) (n0 c0 : Nat) (A1 : Option Addr) (n1 c1 : Nat) (z : Nat) (hz : z < 256) (h1 : n1 ≤ 200) (h64 : n0 ≤ 64) (key b : List UInt8) (hk : key.length = n0) (hb : b.length = n1) (w : World) (hT : Tab w)
    (ha0 : Arg w (.slice A0 n0 c0) key) (ha1 : Arg w (.slice A1 n1 c1) b) :
    Calls Tryd.prog 4 #[.slice A0 n0 c0, .slice A1 n1 c1, .int .u8 z] w fun e w' => e = .returned (.bool true) ∧ Below w.heap.size w w' := by

  have HT := Lib.hid hT
  have HK := Lib.hid ha0
  have HB := Lib.hid ha1
  have HKl := Lib.hid hk
  have HBl := Lib.hid hb
  clear hT ha0 ha1 hk hb
  go_enter Tryd.func4, Tryd.ntmps4
  go_wp2_with fail
  refine (New_any _ key (by rw [HKl.out]; omega) w HK.out).mono ?_
  rintro e w1 ⟨p, rfl, hkey, hb1⟩
  obtain ⟨g, kb, kc, _, _, _, _, rfl, hg, hs, hkb, hkc, hks, _⟩ := hkey
  have HC : Hid (w1.cell? ⟨g, 0, none⟩ = some (.slice (some ⟨kb, 0, none⟩) 64 kc)) := hs 0 _ rfl
  clear hs

  obtain ⟨q, hq1, hq2, hq3⟩ : ∃ q : Nat, wrap64 ((n0 : Int) + (z : Int) % (65 - (n0 : Int))) = (q : Int) ∧ n0 ≤ q ∧ q ≤ 64 := by
    have hm : z % (65 - n0) < 65 - n0 := Nat.mod_lt _ (by omega)
    have e1 : (z : Int) % (65 - (n0 : Int)) = ((z % (65 - n0) : Nat) : Int) := by
      rw [show (65 : Int) - (n0 : Int) = ((65 - n0 : Nat) : Int) by omega, Int.natCast_emod]
    refine ⟨n0 + z % (65 - n0), ?_, by omega, by omega⟩
    rw [e1]
    generalize z % (65 - n0) = m at *
    unfold wrap64; omega
  have HFK : Hid (fullK ((fullK key).take q) = fullK key) := fullK_short key q (by rw [HKl.out]; exact hq2) hq3
  go_wp2_with fail
  rw [hq1]
  clear hq1
  · skip

    have hb1s := hb1.size
    have HT1 : Hid (Tab w1) := HT.out.below hb1
    have HK1 : Hid (Arg w1 (.slice A0 n0 c0) key) := HK.out.below hb1
    have HB1 : Hid (Arg w1 (.slice A1 n1 c1) b) := HB.out.below hb1
    have HQ : Hid (Arg w1 (.slice (some ⟨kb, 0, none⟩) q kc) ((fullK key).take q)) := by
      refine .inr ⟨kb, 0, kc, ?_, hkb, ?_, ?_⟩
      · rw [List.length_take, fullK_length]; first | rfl | (congr 1; omega)
      · rw [List.length_take, fullK_length]; omega
      · rw [List.map_take]
        have := hks.piece 0 q
        rwa [List.drop_zero, Nat.add_zero] at this
    have HMac : Hid (mac ((fullK key).take q) b = mac key b) := by show _ = _; rw [mac, mac, HFK.out]
    have HQl : Hid (((fullK key).take q).length ≤ 1000000) := by show _ ≤ _; rw [List.length_take]; omega
    obtain ⟨rs, hrs⟩ : ∃ rs, rs = (mac key b).map V8 := ⟨_, rfl⟩
    have hte := tag_eq (mac key b) rs ⟨hrs, mac_length key b⟩
    have HS1 : Hid (Calls Tryd.prog 8 #[.slice A0 n0 c0, .slice A1 n1 c1] w1.drew fun e w' => e = .returned (.agg rs.toArray) ∧ w'.cell? ⟨g, 0, none⟩ = some (.slice (some ⟨kb, 0, none⟩) 64 kc) ∧ Below w1.heap.size w1 w') :=
      (HSum_any _ _ key b (by rw [HKl.out]; omega) (by rw [HBl.out]; omega) w1.drew HT1.out HK1.out HB1.out).mono fun e w' ⟨rs', hr', he, hb'⟩ => by
        have hb : Below w1.heap.size w1 w' := ⟨hb'.os, hb'.tape, hb'.output, hb'.size, hb'.block⟩
        refine ⟨by rw [he, hr'.out.1, hrs], (World.cell?_of_block (w := w1) (hb.block g hg)).trans HC.out, hb⟩
    have HS2 : Hid (∀ W, Below w1.heap.size w1 W → Calls Tryd.prog 8 #[.slice (some ⟨kb, 0, none⟩) q kc, .slice A1 n1 c1] W fun e w' => e = .returned (.agg rs.toArray) ∧ w'.cell? ⟨g, 0, none⟩ = some (.slice (some ⟨kb, 0, none⟩) 64 kc) ∧ Below w1.heap.size w1 w') := fun W hW =>
      (HSum_any _ _ ((fullK key).take q) b HQl.out (by rw [HBl.out]; omega) W (HT1.out.below hW) (HQ.out.below hW) (HB1.out.below hW)).mono fun e w' ⟨rs', hr', he, hb'⟩ => by
        have hb := hW.trans (hb'.mono hW.size)
        refine ⟨by rw [he, hr'.out.1, HMac.out, hrs], (World.cell?_of_block (w := w1) (hb.block g hg)).trans HC.out, hb⟩
    have HKN : Hid (∀ W, Below w1.heap.size w1 W → Calls Tryd.prog 6 #[] W fun e w' => e = .returned (.bool true) ∧ w'.cell? ⟨g, 0, none⟩ = some (.slice (some ⟨kb, 0, none⟩) 64 kc) ∧ Below w1.heap.size w1 w') := fun W hW =>
      (Hknows_any W (HT1.out.below hW)).mono fun e w' ⟨he, hb'⟩ => by
        have hb := hW.trans (hb'.mono hW.size)
        exact ⟨he, (World.cell?_of_block (w := w1) (hb.block g hg)).trans HC.out, hb⟩
    have hS0 : w1.drew.cell? ⟨g, 0, none⟩ = some (.slice (some ⟨kb, 0, none⟩) 64 kc) := HC.out
    have hkcI : (q : Int) ≤ kc := by omega
    have hkcI0 : (0 : Int) ≤ q := by omega
    have hgd : Tryd.prog.eqGuardType Tryd.prog.depth 28 = false := by kernel_rfl
    clear hrs HMac HQ HQl HT1 HK1 HB1 HC hks HFK
    go_wp2
    go_region_held3 (fun W => W.cell? ⟨g, 0, none⟩ = some (.slice (some ⟨kb, 0, none⟩) 64 kc)) (first | exact hS0 | exact hS2 | exact hS3 | exact hS4) (first
      | (go_at_call 8; refine (HS2.out _ hb2).mono ?_; rintro e w3 ⟨rfl, hS3, hb3⟩)
      | (go_at_call 8; refine HS1.out.mono ?_; rintro e w2 ⟨rfl, hS2, hb2⟩)
      | (go_at_call 6; refine (HKN.out _ hb3).mono ?_; rintro e w4 ⟨rfl, hS4, hb4⟩))
    all_goals
      clear hS0 hS2 hS3 hS4 hte hgd
      go_wp2
      go_ret
      exact ⟨rfl, hb1.trans (hb4.mono hb1s)⟩
end Go.Proofs.YtcmledlghipcbaaDoor
