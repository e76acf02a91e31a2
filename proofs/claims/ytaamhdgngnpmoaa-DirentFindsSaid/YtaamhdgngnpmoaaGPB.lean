/-
  THE WALKS of strings.IndexAny, ContainsAny at the two bytes 0 and '/', and any string; of Name.
-/
import Derived.Test.YtaamhdgngnpmoaaGP
import Derived.Lib.OthersKept
import Derived.Deep.WholeRow
namespace Go.Proofs.Ytaamhdgngnpmoaa
open Go.RowKit Dir

theorem iterPos_at {w : World} {k : Nat} {s : ByteArray} {pos : Nat} (h : w.heap[k]? = some (.stringIter s pos)) : w.iterPos k = pos := by
  simp [World.iterPos, h]
theorem low_byte (s : ByteArray) (pos : Nat) (h : pos < s.size) (hr : (Utf8.decode s pos).1 = 0 ∨ (Utf8.decode s pos).1 = 47) : s.get! pos = 0 ∨ s.get! pos = 47 := by
  have e := get_at s pos h
  rw [Nat.add_zero] at e
  rw [e]
  by_cases hl : (s[pos]'h).toNat < 128
  · rw [decode_ascii s pos h hl] at hr
    rcases hr with hr | hr
    · exact .inl (UInt8.toNat_inj.1 hr)
    · exact .inr (UInt8.toNat_inj.1 hr)
  · have := (decode_high s pos h (by omega)).1
    omega
theorem noTwo_step (s : ByteArray) (pos : Nat) (h : pos < s.size) (hn : NoTwo s pos) (hr : ¬ ((Utf8.decode s pos).1 = 0 ∨ (Utf8.decode s pos).1 = 47)) : NoTwo s (pos + (Utf8.decode s pos).2) := by
  intro j hj hjs
  by_cases h1 : j < pos
  · exact hn j h1 hjs
  by_cases h2 : j = pos
  · subst h2
    have e := get_at s j h
    rw [Nat.add_zero] at e
    rw [e]
    by_cases hl : (s[j]'h).toNat < 128
    · rw [decode_ascii s j h hl] at hr
      refine ⟨fun e2 => hr (.inl ?_), fun e2 => hr (.inr ?_)⟩
      · show (s[j]'h).toNat = 0
        rw [e2]; rfl
      · show (s[j]'h).toNat = 47
        rw [e2]; rfl
    · refine ⟨fun e2 => hl ?_, fun e2 => hl ?_⟩ <;> (rw [e2]; decide)
  · have := (decode_skip s pos j (by omega) hj).2
    refine ⟨fun e2 => ?_, fun e2 => ?_⟩ <;> (rw [e2] at this; revert this; decide)
theorem width_pos (s : ByteArray) (pos : Nat) (h : pos < s.size) : 1 ≤ (Utf8.decode s pos).2 := by
  by_cases ha : (s[pos]'h).toNat < 128
  · rw [decode_ascii s pos h ha]
    exact Nat.le_refl _
  · exact (decode_high s pos h (by omega)).2
theorem SuAscii_any (n : Int) (w : World) : Calls Try.prog 37 #[.int .i64 n] w fun e w' => e = .returned (.bool (decide (8 < n))) ∧ w' = w :=
  Any.strings_shouldUseASCIISet (ρ := Try.anyLay_ren) { Try.anyLay with } n w

set_option maxRecDepth 1000000 in
set_option maxHeartbeats 2000000 in
theorem SiAny_short (s : List UInt8) (h8 : s.length ≤ 8) (w : World) : Calls Try.prog 32 #[.string (strB s), .string cs2] w fun e w' => (∃ r : Int, e = .returned (.int .i64 r) ∧ decide (0 ≤ r) = hasTwo s) ∧ Below w.heap.size w w' := by
  have hsz := strB_size' s
  obtain ⟨t, ht⟩ : ∃ t, t = strB s := ⟨_, rfl⟩
  have HT := Lib.hid ht
  rw [← ht] at hsz ⊢
  obtain ⟨n, hn⟩ : ∃ n, n = s.length := ⟨_, rfl⟩
  rw [← hn] at h8 hsz
  have HN := Lib.hid hn
  clear ht hn
  have h8z : decide ((8 : Int) < (n : Int)) = false := decide_eq_false (by omega)
  go_enter Try.func32, Try.ntmps32
  go_wp2_with (go_at_call 37; refine (SuAscii_any _ _).mono ?_; rintro e w' ⟨rfl, hw⟩; rw [hw, h8z]; clear hw)
  go_loopw [9] (fun _ wr => ∃ pos : Nat, wr.heap[w.heap.size]? = some (.stringIter t pos) ∧ Hid (NoTwo t pos) ∧ Hid (Below w.heap.size w wr)) (fun _ wr => n - wr.iterPos w.heap.size)
  case atStart => exact ⟨0, World.iter_heap _ _ _, fun j hj => by omega, (Below.refl _ _).alloc (Nat.le_refl _) _⟩
  case round =>
    obtain ⟨pos, hit, Hno, Hbel⟩ := hrel
    rename World => wx
    have hpos := iterPos_at hit
    by_cases hp : pos < t.size
    · have hnx : ∀ ty, (Instr.next (.pointer (some ⟨w.heap.size, 0, none⟩)) true ty).run Try.prog wx = _ := fun ty => Lib.run_next_any_at wx w.heap.size t pos ty hit hp
      have HR : Hid (∀ W, Calls Try.prog 36 #[.string cs2, .int .i32 ((Utf8.decode t pos).1 : Int)] W fun e w' => e = .returned (.int .i64 (runeI ((Utf8.decode t pos).1 : Int))) ∧ Below W.heap.size W w') := fun W => SiRune_any t pos W
      have hwd := width_pos t pos hp
      have Hst := Lib.hid (noTwo_step t pos hp Hno.out)
      have Hlo := Lib.hid (low_byte t pos hp)
      have hge := runeI_ge ((Utf8.decode t pos).1 : Int)
      have hW2 : Hid ((wx.iterAt w.heap.size t (pos + (Utf8.decode t pos).2)).heap[w.heap.size]? = some (.stringIter t (pos + (Utf8.decode t pos).2))) := Lib.iterAt_heap wx _ _ _ _ hit
      have Hb2 : Hid (Below w.heap.size w (wx.iterAt w.heap.size t (pos + (Utf8.decode t pos).2))) := Lib.below_iterAt Hbel.out (Nat.le_refl _) _ _
      have Hlt : Hid (w.heap.size < (wx.iterAt w.heap.size t (pos + (Utf8.decode t pos).2)).heap.size) := (Array.getElem?_eq_some_iff.1 hW2.out).1
      have hps : pos < n := by omega
      have Hps := Lib.hid hp
      clear hit Hno Hbel
      generalize (Utf8.decode t pos).1 = dr at *
      generalize (Utf8.decode t pos).2 = dw at *
      obtain ⟨ri, hri⟩ : ∃ ri, ri = runeI (dr : Int) := ⟨_, rfl⟩
      rw [← hri] at HR hge
      clear hri
      by_cases hz : dr = 0 ∨ dr = 47
      · have h0 : 0 ≤ ri := by
          have : decide ((dr : Int) = 0 ∨ (dr : Int) = 47) = true := decide_eq_true (by omega)
          rw [this] at hge
          exact of_decide_eq_true hge
        have HD : Hid (hasTwo s = true) := by
          have := Hlo.out hz
          rw [HT.out, get_list s pos (by rw [← HN.out]; exact hps)] at this
          exact two_at (by rw [← HN.out]; exact hps) this
        clear hge hz
        go_wp2_with (go_at_call 36; refine (HR.out _).mono ?_; rintro e w1 ⟨rfl, hb1⟩)
        go_ret
        exact ⟨⟨_, rfl, by rw [HD.out]; exact decide_eq_true (by omega)⟩, Hb2.out.trans (hb1.mono Hb2.out.size)⟩
      · have h0 : ¬ 0 ≤ ri := by
          have : decide ((dr : Int) = 0 ∨ (dr : Int) = 47) = false := decide_eq_false (by omega)
          rw [this] at hge
          exact of_decide_eq_false hge
        have HNx : Hid (NoTwo t (pos + dw)) := Hst.out hz
        clear hge hz Hst Hlo
        go_wp2_with (go_at_call 36; refine (HR.out _).mono ?_; rintro e w1 ⟨rfl, hb1⟩)
        have hi1 := (hb1.block _ Hlt.out).trans hW2.out
        have hB1 : Hid (Below w.heap.size w w1) := Hb2.out.trans (hb1.mono Hb2.out.size)
        clear hb1 hnx
        go_roundw
        case rel => exact ⟨pos + dw, hi1, HNx, hB1⟩
        case measure =>
          have h1 := iterPos_at hi1
          rw [h1, hpos]
          omega
    · have hnx : ∀ ty, (Instr.next (.pointer (some ⟨w.heap.size, 0, none⟩)) true ty).run Try.prog wx = _ := fun ty => Lib.run_next_end_at wx w.heap.size t pos ty hit hp
      have HD : Hid (hasTwo s = false) := by
        refine noTwo_all fun j hj hjs => ?_
        rw [← HT.out] at hjs ⊢
        exact Hno.out j (by omega) hjs
      clear hit Hno
      go_wp2
      go_ret
      exact ⟨⟨_, rfl, by rw [HD.out]; rfl⟩, Hbel.out⟩

theorem info256 : (Try.prog.info? 76).map (fun i => (i.zero, i.size)) = some (some (.agg (Array.replicate 256 (.bool false))), 256) := by kernel_rfl
theorem SmAscii_cs (w : World) : Calls Try.prog 38 #[.string cs2] w fun e w' => e = .returned (.tuple #[.agg (Lib.setCells [0, 47]), .bool true]) ∧ w' = w.alloc (.cells (Lib.setCells [0, 47]) 76) :=
  Any.strings_makeASCIISet (ρ := Try.anyLay_ren) { Try.anyLay with } (zero_of_info info256).1 (zero_of_info info256).2 cs2 w (by decide) (fun j b hb => by
    match j, hb with
    | 0, hb => injection hb with hb; subst hb; decide
    | 1, hb => injection hb with hb; subst hb; decide
    | j + 2, hb => simp at hb)
theorem ScAscii_any (b : Nat) (x : UInt8) (v : Bool) (w : World) (hc : w.cell? ⟨b, x.toNat, none⟩ = some (.bool v)) :
    Calls Try.prog 39 #[.pointer (some ⟨b, 0, none⟩), .int .u8 x.toNat] w fun e w' => e = .returned (.bool v) ∧ w' = w :=
  Any.asciiSet_contains (ρ := Try.anyLay_ren) { Try.anyLay with } b x v w hc

set_option maxRecDepth 1000000 in
set_option maxHeartbeats 4000000 in
theorem SiAny_long (s : List UInt8) (h8 : 8 < s.length) (hl : s.length ≤ 9223372036854775807) (w : World) : Calls Try.prog 32 #[.string (strB s), .string cs2] w fun e w' => (∃ r : Int, e = .returned (.int .i64 r) ∧ decide (0 ≤ r) = hasTwo s) ∧ Below w.heap.size w w' := by
  have HM := Lib.hid (SmAscii_cs w)
  obtain ⟨SC, hSC⟩ : ∃ SC, SC = Lib.setCells [0, 47] := ⟨_, rfl⟩
  have hC : ∀ x : UInt8, SC[x.toNat]? = some (.bool ([0, 47].contains x)) := fun x => by rw [hSC]; exact Lib.setCells_at _ x
  have hS : SC.size = 256 := by rw [hSC]; exact Lib.setCells_size _
  have h1 : SC.all (·.oneCell') = true := by rw [hSC]; exact Lib.setCells_one _
  have hi : (Try.prog.info? 76).map (·.size) = some 256 := (zero_of_info info256).2
  have hsc : (storeCells ⟨w.heap.size + 1, 0, none⟩ SC.toList 0).run Try.prog ((w.alloc (.cells SC 76)).alloc (.cells (Array.replicate 256 (.bool false)) 76)) = .ok () ((w.alloc (.cells SC 76)).alloc (.cells SC 76)) := by
    have := run_storeCells_new (P := Try.prog) (w.alloc (.cells SC 76)) 76 (Array.replicate 256 (.bool false)) SC (by rw [hS]; exact hi) (by rw [hS, Array.size_replicate]) h1
    simpa using this
  rw [← hSC] at HM
  have hz := (zero_of_info info256).1
  clear hSC h1 hi
  have HC : Hid (∀ x : UInt8, ((w.alloc (.cells SC 76)).alloc (.cells SC 76)).cell? ⟨w.heap.size + 1, x.toNat, none⟩ = some (.bool ([0, 47].contains x))) := fun x => by
    rw [World.cell?_alloc_at _ _ _ _ (by simp), hC]
  clear hC
  have hsz := strB_size' s
  have HAt : Hid (∀ i, i < s.length → ∀ w, (Instr.index 9 (.string (strB s)) (.int .i64 (i : Int))).run Try.prog w = .ok (.int .u8 ((s.getD i 0).toNat : Int)) w) := fun i hi w => strB_index s i hi w
  obtain ⟨t, ht⟩ : ∃ t, t = strB s := ⟨_, rfl⟩
  have HT := Lib.hid ht
  rw [← ht] at hsz HAt ⊢
  obtain ⟨n, hn⟩ : ∃ n, n = s.length := ⟨_, rfl⟩
  rw [← hn] at h8 hsz hl HAt
  have HN := Lib.hid hn
  clear ht hn
  have h8z : decide ((8 : Int) < (n : Int)) = true := decide_eq_true (by omega)
  go_enter Try.func32, Try.ntmps32
  go_wp2_with (first
    | (go_at_call 37; refine (SuAscii_any _ _).mono ?_; rintro e w' ⟨rfl, hw⟩; rw [hw, h8z]; clear hw)
    | (go_at_call 38; refine HM.out.mono ?_; rintro e w' ⟨rfl, hw⟩; rw [hw]; clear hw))
  obtain ⟨W2, hW2⟩ : ∃ W, W = (w.alloc (.cells SC 76)).alloc (.cells SC 76) := ⟨_, rfl⟩
  have HB2 : Hid (Below w.heap.size w W2) := by rw [hW2]; exact ((Below.refl _ _).alloc (Nat.le_refl _) _).alloc (by simp) _
  rw [← hW2] at HC ⊢
  clear hW2 hsc hz HM hS h8z
  go_loopw [8] (fun i wr => ∃ k : Nat, k ≤ n ∧ i = .int .i64 k ∧ wr = W2 ∧ Hid (NoTwo t k)) (fun i _ => n - (intOf i).toNat)
  case atStart => exact ⟨0, by omega, rfl, rfl, fun j hj => by omega⟩
  case round =>
    obtain ⟨k, hk, rfl, rfl, Hno⟩ := hrel
    by_cases hlt : k < n
    · have hix := HAt.out k hlt
      have Hgl : Hid (t.get! k = s.getD k 0) := by show _ = _; rw [HT.out]; exact get_list s k (by rw [← HN.out]; exact hlt)
      have HCx := Lib.hid (HC.out (s.getD k 0))
      have Hat : Hid ((s.getD k 0 = 0 ∨ s.getD k 0 = 47) → hasTwo s = true) := fun h => two_at (by rw [← HN.out]; exact hlt) h
      clear HAt HC
      generalize s.getD k 0 = x at *
      have HS := Lib.hid (fun v h => ScAscii_any (w.heap.size + 1) x v wr h)
      by_cases hz : x = 0 ∨ x = 47
      · have hcx : wr.cell? ⟨w.heap.size + 1, x.toNat, none⟩ = some (.bool true) := by
          rw [HCx.out]
          rcases hz with rfl | rfl <;> rfl
        have HD := Lib.hid (Hat.out hz)
        have HS2 := Lib.hid (HS.out _ hcx)
        clear hcx hz HS
        go_wp2_with (go_at_call 39; refine HS2.out.mono ?_; rintro e w' ⟨rfl, hw⟩; rw [hw]; clear hw)
        go_ret
        exact ⟨⟨_, rfl, by rw [HD.out]; exact decide_eq_true (by omega)⟩, HB2.out⟩
      · have hcx : wr.cell? ⟨w.heap.size + 1, x.toNat, none⟩ = some (.bool false) := by
          rw [HCx.out]
          have : ([0, 47] : List UInt8).contains x = false := by
            simp only [not_or] at hz
            simp [hz.1, hz.2]
          rw [this]
        have HNx : Hid (NoTwo t (k + 1)) := fun j hj hjs => by
          by_cases h1 : j < k
          · exact Hno.out j h1 hjs
          · obtain rfl : j = k := by omega
            rw [Hgl.out]
            exact ⟨fun e => hz (.inl e), fun e => hz (.inr e)⟩
        have HS2 := Lib.hid (HS.out _ hcx)
        clear hcx hz HS Hat Hgl
        go_wp2_with (go_at_call 39; refine HS2.out.mono ?_; rintro e w' ⟨rfl, hw⟩; rw [hw]; clear hw)
        go_roundw
        case rel => exact ⟨k + 1, by omega, by go_num, by first | rfl | trivial, HNx⟩
        case measure => simp [intOf]; omega
    · obtain rfl : k = n := by omega
      have HD : Hid (hasTwo s = false) := by
        refine noTwo_all fun j hj hjs => ?_
        rw [← HT.out] at hjs ⊢
        exact Hno.out j (by omega) hjs
      go_wp2
      go_ret
      exact ⟨⟨_, rfl, by rw [HD.out]; rfl⟩, HB2.out⟩
theorem ScAny_any (s : List UInt8) (hl : s.length ≤ 9223372036854775807) (w : World) : Calls Try.prog 24 #[.string (strB s), .string cs2] w fun e w' => e = .returned (.bool (hasTwo s)) ∧ Below w.heap.size w w' := by
  have HI : Hid (∀ w, Calls Try.prog 32 #[.string (strB s), .string cs2] w fun e w' => (∃ r : Int, e = .returned (.int .i64 r) ∧ decide (0 ≤ r) = hasTwo s) ∧ Below w.heap.size w w') := fun w => by
    by_cases h8 : s.length ≤ 8
    · exact SiAny_short s h8 w
    · exact SiAny_long s (by omega) hl w
  generalize hasTwo s = R at *
  generalize strB s = t at *
  go_enter Try.func24, Try.ntmps24
  go_wp2_with (go_at_call 32; refine (HI.out _).mono ?_; rintro e w1 ⟨⟨r, rfl, hr⟩, hb⟩)
  go_ret
  exact ⟨by rw [← hr]; rfl, hb⟩
set_option maxRecDepth 100000 in
set_option maxHeartbeats 1000000 in
theorem DiName_any (s : List UInt8) (hl : s.length ≤ 9223372036854775807) (w : World) : Calls Try.prog 10 #[.string (strB s)] w fun e w' => e = .returned (.int .i64 (nameE s)) ∧ Below w.heap.size w w' := by
  by_cases e0 : s = []
  · subst e0
    rw [show strB [] = ⟨#[]⟩ from rfl, show nameE [] = 1 from by decide]
    go_enter Try.func10, Try.ntmps10
    go_wp2
    go_ret
    exact ⟨rfl, Below.refl _ _⟩
  by_cases e1 : s = [46]
  · subst e1
    rw [show strB [46] = ⟨#[46]⟩ from rfl, show nameE [46] = 1 from by decide]
    go_enter Try.func10, Try.ntmps10
    go_wp2
    go_ret
    exact ⟨rfl, Below.refl _ _⟩
  by_cases e2 : s = [46, 46]
  · subst e2
    rw [show strB [46, 46] = ⟨#[46, 46]⟩ from rfl, show nameE [46, 46] = 1 from by decide]
    go_enter Try.func10, Try.ntmps10
    go_wp2
    go_ret
    exact ⟨rfl, Below.refl _ _⟩
  have HE : Hid (nameE s = if hasTwo s = true then 1 else if 14 < s.length then 8 else 0) := by
    show _ = _
    unfold nameE hasTwo
    simp only [e0, e1, e2, false_or]
  obtain ⟨E, hE⟩ : ∃ E, E = nameE s := ⟨_, rfl⟩
  have HEE : Hid (E = if hasTwo s = true then 1 else if 14 < s.length then 8 else 0) := by show _ = _; rw [hE, HE.out]
  rw [← hE]
  clear HE hE
  have hsz := strB_size' s
  have HC := Lib.hid (ScAny_any s hl)
  have u0 : ¬ (strB s).toList = [] := by rw [strB_list]; exact e0
  have u1 : ¬ (strB s).toList = [46] := by rw [strB_list]; exact e1
  have u2 : ¬ (strB s).toList = [46, 46] := by rw [strB_list]; exact e2
  have t0 : (strB s).toList.isEmpty = false := by simpa using u0
  have t1 : ((strB s).toList == [46]) = false := by simpa using u1
  have t2 : ((strB s).toList == [46, 46]) = false := by simpa using u2
  clear e0 e1 e2
  obtain ⟨n, hn⟩ : ∃ n, n = s.length := ⟨_, rfl⟩
  rw [← hn] at hsz HEE hl
  clear hn
  generalize hasTwo s = B at *
  generalize strB s = t at *
  cases B with
  | true =>
    have HD : Hid (E = 1) := by show _ = _; rw [HEE.out]; rfl
    go_enter Try.func10, Try.ntmps10
    go_wp2_with (go_at_call 24; refine (HC.out _).mono ?_; rintro e w1 ⟨rfl, hb⟩)
    go_ret
    exact ⟨by rw [HD.out]; rfl, hb⟩
  | false =>
    by_cases h14 : 14 < n
    · have HD : Hid (E = 8) := by show _ = _; rw [HEE.out, if_neg (by simp), if_pos h14]
      go_enter Try.func10, Try.ntmps10
      go_wp2_with (go_at_call 24; refine (HC.out _).mono ?_; rintro e w1 ⟨rfl, hb⟩)
      go_ret
      exact ⟨by rw [HD.out]; rfl, hb⟩
    · have HD : Hid (E = 0) := by show _ = _; rw [HEE.out, if_neg (by simp), if_neg h14]
      go_enter Try.func10, Try.ntmps10
      go_wp2_with (go_at_call 24; refine (HC.out _).mono ?_; rintro e w1 ⟨rfl, hb⟩)
      go_ret
      exact ⟨by rw [HD.out]; rfl, hb⟩
end Go.Proofs.Ytaamhdgngnpmoaa
