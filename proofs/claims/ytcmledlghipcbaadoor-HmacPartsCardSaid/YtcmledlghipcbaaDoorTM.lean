/-
  THE WALK of the law HmacParts.
-/
import Derived.Test.YtcmledlghipcbaaDoorTK
import Derived.Test.YtcmledlghipcbaaDoorTH
import Derived.BigQuiet
namespace Go.Proofs.YtcmledlghipcbaaDoor
open Go.RowKit Sha

/-- Are both as long, and the first j parts alike? -/
def sameTo (xs ys : List (List UInt8)) (j : Nat) : Bool := decide (xs.length = ys.length ∧ xs.take j = ys.take j)
theorem sameTo_zero (xs ys : List (List UInt8)) : sameTo xs ys 0 = decide (xs.length = ys.length) := by simp [sameTo]
theorem sameTo_all (xs ys : List (List UInt8)) : sameTo xs ys xs.length = decide (xs = ys) := by
  unfold sameTo
  by_cases h : xs = ys
  · subst h; simp
  · rw [decide_eq_false h, decide_eq_false]
    rintro ⟨h1, h2⟩
    rw [List.take_of_length_le (Nat.le_refl _), List.take_of_length_le (by omega)] at h2
    exact h h2
theorem sameTo_no {xs ys : List (List UInt8)} {j : Nat} (h : sameTo xs ys j = false) : sameTo xs ys (j + 1) = false := by
  unfold sameTo at *
  simp only [decide_eq_false_iff_not] at *
  rintro ⟨h1, h2⟩
  refine h ⟨h1, ?_⟩
  have := congrArg (List.take j) h2
  rwa [List.take_take, List.take_take, Nat.min_eq_left (by omega)] at this
theorem sameTo_len {xs ys : List (List UInt8)} {j : Nat} (h : sameTo xs ys j = true) : xs.length = ys.length := by
  unfold sameTo at h
  exact (of_decide_eq_true h).1
theorem sameTo_next {xs ys : List (List UInt8)} {j : Nat} {p q : List UInt8} (h : sameTo xs ys j = true) (hp : xs[j]? = some p) (hq : ys[j]? = some q) : sameTo xs ys (j + 1) = decide (p = q) := by
  unfold sameTo at *
  obtain ⟨h1, h2⟩ := of_decide_eq_true h
  rw [List.take_add_one, List.take_add_one, hp, hq, h2]
  by_cases hpq : p = q
  · subst hpq; simp [h1]
  · rw [decide_eq_false hpq, decide_eq_false]
    rintro ⟨_, h4⟩
    have := List.append_cancel_left h4
    simp at this
    exact hpq this

theorem strB_list (a : List UInt8) : (strB a).toList = a := by rw [ByteArray.toList_eq]; rfl
theorem strB_beq (a b : List UInt8) : ((strB a).toList == (strB b).toList) = decide (a = b) := by
  rw [strB_list, strB_list, Bool.eq_iff_iff]
  simp
theorem joined_same {xs ys : List (List UInt8)} (hx : Small xs) (hy : Small ys) : decide (joined xs = joined ys) = decide (xs = ys) := by
  rw [Bool.eq_iff_iff, decide_eq_true_iff, decide_eq_true_iff]
  exact ⟨fun h => joined_inj (fun p hp => by have := hx.2 p hp; omega) (fun p hp => by have := hy.2 p hp; omega) h, fun h => by rw [h]⟩

set_option maxRecDepth 100000 in
set_option maxHeartbeats 400000 in
theorem HParts_far (A0 : Option Addr) (n0 c0 : Nat) (A1 : Option Addr) (n1 c1 : Nat) (A2 : Option Addr) (n2 c2 : Nat) (hn : 100 < n0 ∨ 10 < n1 ∨ 10 < n2) (w : World) (hT : Tab w) :
    Calls Tryd.prog 5 #[.slice A0 n0 c0, .slice A1 n1 c1, .slice A2 n2 c2] w fun e w' => e = .returned (.bool true) ∧ Below w.heap.size w w' := by
  have HT := Lib.hid hT
  clear hT
  by_cases h0 : 100 < n0
  · clear hn
    go_enter Tryd.func5, Tryd.ntmps5
    go_wp2_with fail
    refine (Hknows_any w HT.out).mono ?_
    rintro e w1 ⟨rfl, hb1⟩
    go_wp2
    go_ret
    exact ⟨rfl, hb1⟩
  · by_cases h1 : 10 < n1
    · clear hn
      go_enter Tryd.func5, Tryd.ntmps5
      go_wp2_with fail
      refine (Hknows_any w HT.out).mono ?_
      rintro e w1 ⟨rfl, hb1⟩
      go_wp2
      go_ret
      exact ⟨rfl, hb1⟩
    · have h2 : 10 < n2 := by omega
      clear hn
      go_enter Tryd.func5, Tryd.ntmps5
      go_wp2_with fail
      refine (Hknows_any w HT.out).mono ?_
      rintro e w1 ⟨rfl, hb1⟩
      go_wp2
      go_ret
      exact ⟨rfl, hb1⟩

set_option maxRecDepth 100000 in
set_option maxHeartbeats 1000000 in
theorem HParts_near (A0 : Option Addr) (n0 c0 : Nat) (A1 : Option Addr) (n1 c1 : Nat) (A2 : Option Addr) (n2 c2 : Nat) (h0 : n0 ≤ 100) (h1 : n1 ≤ 10) (h2 : n2 ≤ 10) (key : List UInt8) (xs ys : List (List UInt8)) (hk : key.length = n0) (w : World) (hT : Tab w)
    (ha0 : Arg w (.slice A0 n0 c0) key) (ha1 : Parts w (.slice A1 n1 c1) xs) (ha2 : Parts w (.slice A2 n2 c2) ys) :
    Calls Tryd.prog 5 #[.slice A0 n0 c0, .slice A1 n1 c1, .slice A2 n2 c2] w fun e w' => e = .returned (.bool true) ∧ Below w.heap.size w w' := by
  have HT := Lib.hid hT
  have HK := Lib.hid ha0
  have HX := Lib.hid ha1
  have HY := Lib.hid ha2
  have HKl := Lib.hid hk
  have HXl := Lib.hid ha1.len
  have HYl := Lib.hid ha2.len
  clear hT ha0 ha1 ha2 hk
  go_enter Tryd.func5, Tryd.ntmps5
  go_wp2
  go_loopw [7, 8] (fun s i wr => ∃ j : Nat, j ≤ n1 ∧ i = .int .i64 j ∧ s = .bool (sameTo xs ys j) ∧ Short xs 60 j ∧ Below w.heap.size w wr) (fun _ i _ => n1 - (intOf i).toNat)
  case atStart =>
    refine ⟨0, by omega, rfl, ?_, Short.zero _ _, Below.refl _ _⟩
    rw [sameTo_zero, HXl.out, HYl.out]
    congr 1
    rw [Bool.eq_iff_iff]
    simp
    omega
  case round =>
    obtain ⟨j, hj, rfl, rfl, hsh, hbel⟩ := hrel
    by_cases hlt : j < n1
    · obtain ⟨pb, po, A', c', p, rfl, hbl, hpj, hcell0, harg⟩ := HX.out.at_ j hlt
      have hcell : wr.cell? ⟨pb, po + j, none⟩ = some (.slice A' p.length c') := (World.cell?_of_block (w := w) (hbel.block pb hbl)).trans hcell0
      have Hsh := Lib.hid (fun hm => hsh.more hpj hm)
      have HA := Lib.hid harg
      have Hpj := Lib.hid hpj
      clear hsh hpj hcell0 harg
      obtain ⟨m, hm⟩ : ∃ m, m = p.length := ⟨_, rfl⟩
      rw [← hm] at hcell Hsh HA
      clear hm
      by_cases hml : 60 < m
      · go_wp2_with fail
        refine (Hknows_any wr (HT.out.below hbel)).mono ?_
        rintro e w1 ⟨rfl, hb1⟩
        go_wp2
        go_ret
        exact ⟨rfl, hbel.trans (hb1.mono hbel.size)⟩
      · cases hsm : sameTo xs ys j
        · have Hno := Lib.hid (sameTo_no hsm)
          clear hsm
          go_wp2
          go_quiet (fail)
          go_wp2
          go_roundw
          case rel => exact ⟨j + 1, by omega, by go_num, by rw [Hno.out], Hsh.out (by omega), below_drewN hbel _⟩
          case measure => simp [intOf]; omega
        · have hl2 := sameTo_len hsm
          rw [HXl.out, HYl.out] at hl2
          have hjn2 : j < n2 := by omega
          clear hl2
          obtain ⟨qb, qo, B', d', q, rfl, hbl2, hqj, hcellq0, hargq⟩ := HY.out.at_ j hjn2
          have hcellq : wr.cell? ⟨qb, qo + j, none⟩ = some (.slice B' q.length d') := (World.cell?_of_block (w := w) (hbel.block qb hbl2)).trans hcellq0
          have Hnx := Lib.hid (sameTo_next hsm Hpj.out hqj)
          have cv1 : ∀ n : Nat, (convert 22 9 (.slice A' m c')).run Tryd.prog (wr.drewN n) = .ok (.string (strB p)) (wr.drewN n) := fun n => conv_arg (HA.out.below (below_drewN hbel n))
          have cv2 : ∀ n : Nat, (convert 22 9 (.slice B' q.length d')).run Tryd.prog (wr.drewN n) = .ok (.string (strB q)) (wr.drewN n) := fun n => conv_arg (hargq.below (below_drewN hbel n))
          have cv3 : (convert 22 9 (.slice A' m c')).run Tryd.prog wr = .ok (.string (strB p)) wr := conv_arg (HA.out.below hbel)
          have cv4 : (convert 22 9 (.slice B' q.length d')).run Tryd.prog wr = .ok (.string (strB q)) wr := conv_arg (hargq.below hbel)
          clear hqj hcellq0 hargq hsm
          generalize q.length = m2 at *
          go_wp2
          go_quiet (fail)
          rw [strB_beq]
          clear cv1 cv2 cv3 cv4
          go_wp2
          go_roundw
          case rel => exact ⟨j + 1, by omega, by go_num, by rw [Hnx.out], Hsh.out (by omega), below_drewN hbel _⟩
          case measure => simp [intOf]; omega
    · obtain rfl : j = n1 := by omega
      have HSX : Hid (Small xs) := hsh.small HXl.out (by omega) (by omega)
      have hsame : sameTo xs ys j = decide (xs = ys) := by rw [← HXl.out, sameTo_all]
      rw [hsame]
      clear hsame hsh
      obtain ⟨wx, hwx⟩ : ∃ wx : World, wx = wr := ⟨_, rfl⟩
      subst hwx
      obtain ⟨sm, hsm⟩ : ∃ sm, sm = decide (xs = ys) := ⟨_, rfl⟩
      rw [← hsm]
      have Hsm := Lib.hid hsm
      clear hsm
      have HTx : Hid (Tab wx) := HT.out.below hbel
      have HKx : Hid (Arg wx (.slice A0 n0 c0) key) := HK.out.below hbel
      have HXx : Hid (Parts wx (.slice A1 j c1) xs) := HX.out.below hbel
      have HYx : Hid (Parts wx (.slice A2 n2 c2) ys) := HY.out.below hbel
      clear HT HK HX HY
      have hsx := hbel.size
      go_wp2
      go_loop [9] (fun i => ∃ k : Nat, k ≤ n2 ∧ i = .int .i64 k ∧ Short ys 60 k) (fun i => n2 - (intOf i).toNat)
      case atStart => exact ⟨0, by omega, rfl, Short.zero _ _⟩
      case round =>
        obtain ⟨k, hk, rfl, hsh⟩ := hrel
        by_cases hlt2 : k < n2
        · obtain ⟨pb, po, A', c', p, rfl, hbl, hpj, hcell, _⟩ := HYx.out.at_ k hlt2
          have Hsh := Lib.hid (fun hm => hsh.more hpj hm)
          clear hsh hpj
          obtain ⟨m, hm⟩ : ∃ m, m = p.length := ⟨_, rfl⟩
          rw [← hm] at hcell Hsh
          clear hm
          by_cases hml : 60 < m
          · go_wp2_with fail
            refine (Hknows_any wx HTx.out).mono ?_
            rintro e w1 ⟨rfl, hb1⟩
            go_wp2
            go_ret
            exact ⟨rfl, hbel.trans (hb1.mono hsx)⟩
          · go_wp2
            go_round
            case rel => exact ⟨k + 1, by omega, by go_num, Hsh.out (by omega)⟩
            case measure => simp [intOf]; omega
        · obtain rfl : k = n2 := by omega
          have HSY : Hid (Small ys) := hsh.small HYl.out (by omega) (by omega)
          clear hsh
          go_wp2_with fail
          refine (Joined_any A1 j c1 xs HSX.out wx HXx.out).mono ?_
          rintro e w1 ⟨vx, rfl, ho1, hb1⟩
          have HA1 := Lib.hid ho1.arg
          clear ho1
          go_wp2_with fail
          refine (Joined_any A2 k c2 ys HSY.out w1 (HYx.out.below hb1)).mono ?_
          rintro e w2 ⟨vy, rfl, ho2, hb2⟩
          have hb02 : Below wx.heap.size wx w2 := hb1.trans (hb2.mono hb1.size)
          have HA2 : Hid (Arg w2 vy (joined ys)) := ho2.arg
          have HA12 : Hid (Arg w2 vx (joined xs)) := HA1.out.below hb2
          have cv1 := conv_arg HA12.out
          have cv2 := conv_arg HA2.out
          have Hd : Hid (((strB (joined xs)).toList == (strB (joined ys)).toList) = sm) := by show _ = _; rw [strB_beq, joined_same HSX.out HSY.out, Hsm.out]
          clear ho2 HA1 hb1 hb2
          have hd := Hd.out
          have hs02 := hb02.size
          have HT2 : Hid (Tab w2) := HTx.out.below hb02
          have HK2 : Hid (Arg w2 (.slice A0 n0 c0) key) := HKx.out.below hb02
          have HX2 : Hid (Parts w2 (.slice A1 j c1) xs) := HXx.out.below hb02
          have HY2 : Hid (Parts w2 (.slice A2 k c2) ys) := HYx.out.below hb02
          have hgd : Tryd.prog.eqGuardType Tryd.prog.depth 28 = false := by kernel_rfl
          obtain ⟨r1, hr1⟩ : ∃ r, r = (mac key (joined xs)).map V8 := ⟨_, rfl⟩
          obtain ⟨r2, hr2⟩ : ∃ r, r = (mac key (joined ys)).map V8 := ⟨_, rfl⟩
          have hte1 := tag_eq (mac key (joined xs)) r1 ⟨hr1, mac_length _ _⟩
          have hte2 := tag_eq (mac key (joined ys)) r2 ⟨hr2, mac_length _ _⟩
          have HJ1 : Hid (Calls Tryd.prog 9 #[.slice A0 n0 c0, .slice A1 j c1] w2 fun e w' => e = .returned (.agg r1.toArray) ∧ Below w2.heap.size w2 w') :=
            (Join_any _ key (by rw [HKl.out]; omega) A1 j c1 xs HSX.out w2 HT2.out HK2.out HX2.out).mono fun e w' ⟨rs', hr', he, hb'⟩ => ⟨by rw [he, hr'.out.1, hr1], hb'⟩
          have HS1 : Hid (∀ W, Below w2.heap.size w2 W → Calls Tryd.prog 8 #[.slice A0 n0 c0, vx] W fun e w' => e = .returned (.agg r1.toArray) ∧ Below w2.heap.size w2 w') := fun W hW =>
            (HSum_any _ _ key (joined xs) (by rw [HKl.out]; omega) (by have := HSX.out.joined; omega) W (HT2.out.below hW) (HK2.out.below hW) (HA12.out.below hW)).mono fun e w' ⟨rs', hr', he, hb'⟩ => ⟨by rw [he, hr'.out.1, hr1], hW.trans (hb'.mono hW.size)⟩
          have HJ2 : Hid (∀ W, Below w2.heap.size w2 W → Calls Tryd.prog 9 #[.slice A0 n0 c0, .slice A2 k c2] W fun e w' => e = .returned (.agg r2.toArray) ∧ Below w2.heap.size w2 w') := fun W hW =>
            (Join_any _ key (by rw [HKl.out]; omega) A2 k c2 ys HSY.out W (HT2.out.below hW) (HK2.out.below hW) (HY2.out.below hW)).mono fun e w' ⟨rs', hr', he, hb'⟩ => ⟨by rw [he, hr'.out.1, hr2], hW.trans (hb'.mono hW.size)⟩
          have HS2 : Hid (∀ W, Below w2.heap.size w2 W → Calls Tryd.prog 8 #[.slice A0 n0 c0, vy] W fun e w' => e = .returned (.agg r2.toArray) ∧ Below w2.heap.size w2 w') := fun W hW =>
            (HSum_any _ _ key (joined ys) (by rw [HKl.out]; omega) (by have := HSY.out.joined; omega) W (HT2.out.below hW) (HK2.out.below hW) (HA2.out.below hW)).mono fun e w' ⟨rs', hr', he, hb'⟩ => ⟨by rw [he, hr'.out.1, hr2], hW.trans (hb'.mono hW.size)⟩
          clear hr1 hr2 Hd Hsm HA2 HA12 HK2 HX2 HY2 HTx HKx HXx HYx HSX HSY
          generalize joined xs = X at *
          generalize joined ys = Y at *
          go_wp2_with fail
          refine HJ1.out.mono ?_
          rintro e w3 ⟨rfl, hb3⟩
          clear hd cv1 cv2 HJ1
          go_wp2_with fail
          refine (HS1.out _ hb3).mono ?_
          rintro e w4 ⟨rfl, hb4⟩
          go_wp2_with fail
          refine (HJ2.out _ hb4).mono ?_
          rintro e w5 ⟨rfl, hb5⟩
          go_wp2_with fail
          refine (HS2.out _ hb5).mono ?_
          rintro e w6 ⟨rfl, hb6⟩
          go_wp2_with fail
          refine (Hknows_any w6 (HT2.out.below hb6)).mono ?_
          rintro e w7 ⟨rfl, hb7⟩
          have hfin : Below w.heap.size w w7 := hbel.trans ((hb02.trans ((hb6.trans (hb7.mono hb6.size)).mono hs02)).mono hsx)
          clear hte1 hte2 hgd
          go_wp2
          go_ret
          exact ⟨rfl, hfin⟩
end Go.Proofs.YtcmledlghipcbaaDoor
