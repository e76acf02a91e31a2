/-
  THE WALKS of strings.IndexRune, IndexAny, ContainsAny at the two bytes 0 and '/', and any string; of Name.
-/
import Derived.Test.YtaamhdgngnpmoaaGD
import Derived.Test.YtaamhdgngnpmoaaGO0
import Derived.Shelf.Small.Utf8
import Derived.Laws.RangeAny
import Derived.Laws.Runes
import Derived.WalkMore
namespace Go.Proofs.Ytaamhdgngnpmoaa
open Go.RowKit Dir

theorem decode_valid (s : ByteArray) (pos : Nat) : Utf8.valid ((Utf8.decode s pos).1 : Int) = true := by
  have hb : ∀ k, (s.get! (pos + k)).toNat < 256 := fun k => (s.get! (pos + k)).toNat_lt
  have h0 := hb 0; have h1 := hb 1; have h2 := hb 2; have h3 := hb 3
  simp only [Utf8.decode]
  repeat' split
  all_goals simp_all [Utf8.runeError, Utf8.valid]
  all_goals omega
theorem decode_skip (s : ByteArray) (pos j : Nat) (h1 : pos < j) (h2 : j < pos + (Utf8.decode s pos).2) : j < s.size ∧ 128 ≤ (s.get! j).toNat := by
  have hc : ∀ k, (decide (pos + k < s.size) && (s.get! (pos + k)).toNat / 64 == 2) = true → pos + k < s.size ∧ 128 ≤ (s.get! (pos + k)).toNat := fun k hk => by
    simp only [Bool.and_eq_true, decide_eq_true_eq, beq_iff_eq] at hk
    exact ⟨hk.1, by omega⟩
  obtain ⟨k, rfl⟩ : ∃ k, j = pos + k := ⟨j - pos, by omega⟩
  simp only [Utf8.decode] at h2
  repeat' split at h2
  all_goals simp only [Bool.and_eq_true] at *
  all_goals first
    | omega
    | (have : k = 1 := by omega
       subst this
       exact hc 1 (by simp_all))
    | (have : k = 1 ∨ k = 2 := by omega
       rcases this with rfl | rfl
       · exact hc 1 (by simp_all)
       · exact hc 2 (by simp_all))
    | (have : k = 1 ∨ k = 2 ∨ k = 3 := by omega
       rcases this with rfl | rfl | rfl
       · exact hc 1 (by simp_all)
       · exact hc 2 (by simp_all)
       · exact hc 3 (by simp_all))

/-- The two bytes. -/
abbrev cs2 : ByteArray := ⟨#[0, 47]⟩
/-- Where a rune stands among the two. -/
def runeI (r : Int) : Int := if r = 0 then 0 else if r = 47 then 1 else -1
theorem runeI_ge (r : Int) : decide (0 ≤ runeI r) = decide (r = 0 ∨ r = 47) := by
  unfold runeI
  by_cases h0 : r = 0
  · simp [h0]
  · by_cases h1 : r = 47
    · simp [h1]
    · simp [h0, h1]
theorem SiByte_any (s : ByteArray) (c : Int) (w : World) : Calls Try.prog 51 #[.string s, .int .u8 c] w fun e w' => e = .returned (.int .i64 (Lib.indexByte s.data.toList c.toNat.toUInt8)) ∧ w' = w :=
  Any.strings_IndexByte (ρ := Try.anyLay_ren) { Try.anyLay with } s c w
theorem UvRune_any (r : Int) (w : World) : Calls Try.prog 52 #[.int .i32 r] w fun e w' => e = .returned (.bool (validRune r)) ∧ w' = w :=
  Any.utf8_ValidRune (ρ := Try.anyLay_ren) { Try.anyLay with } r w
/-- IndexRune at a byte that is ASCII. -/
theorem SiRune_low (r : Int) (h0 : 0 ≤ r) (h1 : r < 128) (w : World) : Calls Try.prog 36 #[.string cs2, .int .i32 r] w fun e w' => e = .returned (.int .i64 (runeI r)) ∧ Below w.heap.size w w' := by
  refine (Any.strings_IndexRune_ascii (ρ := Try.anyLay_ren) { Try.anyLay with } cs2 r w h0 h1).mono ?_
  rintro e w' ⟨rfl, rfl⟩
  refine ⟨?_, Below.refl _ _⟩
  have : Lib.indexByte [0, 47] r.toNat.toUInt8 = runeI r := by
    obtain ⟨n, rfl⟩ : ∃ n : Nat, r = (n : Int) := ⟨r.toNat, by omega⟩
    have hn : n < 128 := by omega
    have key : ∀ m : Nat, m < 128 → Lib.indexByte [0, 47] m.toUInt8 = runeI (m : Int) := by decide
    exact key n hn
  show Ending.returned (.int .i64 (Lib.indexByte [0, 47] r.toNat.toUInt8)) = _
  rw [this]
set_option maxRecDepth 1000000 in
set_option maxHeartbeats 1000000 in
/-- At the rune that stands for what is none. -/
theorem SiRune_err (w : World) : Calls Try.prog 36 #[.string cs2, .int .i32 65533] w fun e w' => e = .returned (.int .i64 (-1)) ∧ Below w.heap.size w w' := by
  go_enter Try.func36, Try.ntmps36
  go_wp2
  go_loopw [5] (fun _ wr => ∃ pos : Nat, pos ≤ 2 ∧ wr = w.iter cs2 pos) (fun _ wr => 2 - wr.iterPos w.heap.size)
  case atStart => exact ⟨0, by omega, rfl⟩
  case round =>
    obtain ⟨pos, hp, rfl⟩ := hrel
    by_cases h2 : pos = 2
    · subst h2
      have hnx : ∀ ty, (Instr.next (.pointer (some ⟨w.heap.size, 0, none⟩)) true ty).run Try.prog (w.iter cs2 2) = _ := fun ty => run_next_end w cs2 2 ty (by decide)
      go_wp2
      go_ret
      exact ⟨rfl, (Below.refl _ _).alloc (Nat.le_refl _) _⟩
    · have hps : pos < cs2.size := by show pos < 2; omega
      have hlow : (cs2[pos]'hps).toNat < 128 := by
        have : pos = 0 ∨ pos = 1 := by omega
        rcases this with rfl | rfl
        · show (0 : UInt8).toNat < 128
          decide
        · show (47 : UInt8).toNat < 128
          decide
      have hd : Utf8.decode cs2 pos = ((cs2[pos]'hps).toNat, 1) := decode_ascii cs2 pos hps hlow
      obtain ⟨c, hc, hc2⟩ : ∃ c : Nat, c = (cs2[pos]'hps).toNat ∧ c < 128 := ⟨_, rfl, hlow⟩
      have hnx : ∀ ty, (Instr.next (.pointer (some ⟨w.heap.size, 0, none⟩)) true ty).run Try.prog (w.iter cs2 pos) = .ok (.tuple #[.bool true, .int .i64 pos, .int .i32 c]) (w.iter cs2 (pos + 1)) := fun ty => by
        rw [run_next_any w cs2 pos ty hps, hd, hc]
      clear hd hc hlow hps
      have hne : ((c : Int) == 65533) = false := by simpa using (by omega : ¬ (c : Int) = 65533)
      go_wp2
      go_roundw
      case rel => exact ⟨pos + 1, by omega, rfl⟩
      case measure => simp; omega
set_option maxRecDepth 1000000 in
set_option maxHeartbeats 4000000 in
/-- At another one that is not ASCII. -/
theorem SiRune_high (r : Int) (hv : Utf8.valid r = true) (h1 : 128 ≤ r) (hne : r ≠ 65533) (w : World) : Calls Try.prog 36 #[.string cs2, .int .i32 r] w fun e w' => e = .returned (.int .i64 (-1)) ∧ Below w.heap.size w w' := by
  obtain ⟨hs2, hs4, hlast⟩ := encode_facts r hv h1
  obtain ⟨rs, hrs⟩ : ∃ rs, rs = Utf8.encode r := ⟨_, rfl⟩
  rw [← hrs] at hs2 hs4
  have hlast' : ∀ h : rs.size - 1 < rs.size, 128 ≤ (rs[rs.size - 1]'h).toNat := by rw [hrs]; exact hlast
  clear hlast
  have hcv : ∀ w, (convert 21 9 (.int .i32 r)).run Try.prog w = .ok (.string rs) w := fun w => by rw [hrs]; exact run_convert_int_string w _ _ _ _ (by rw [Try.underlying21]; rfl) Try.underlying9
  have hvr : validRune r = true := by rw [← validRune_eq]; exact hv
  clear hrs hv
  have hb0 : ¬ r < 128 := by omega
  have hb1 : (r == 65533) = false := by simpa using hne
  clear hne
  obtain ⟨m, hm⟩ : ∃ m, rs.size = m + 1 := ⟨rs.size - 1, by omega⟩
  obtain ⟨c, hc⟩ : ∃ c : UInt8, c = rs[m]'(by omega) := ⟨_, rfl⟩
  have hc128 : 128 ≤ c.toNat := by
    have := hlast' (by omega)
    rw [hc]
    have e : rs.size - 1 = m := by omega
    simpa only [e] using this
  have hix : ∀ w, (Instr.index 9 (.string rs) (.int .i64 (m : Int))).run Try.prog w = .ok (.int .u8 (c.toNat : Int)) w := fun w => by
    rw [run_index_string w 9 rs .i64 m Try.underlying9, dif_pos ⟨by omega, by omega⟩, hc]
    rfl
  clear hlast' hc
  go_enter Try.func36, Try.ntmps36
  go_wp2_with (go_at_call 52; refine (UvRune_any r _).mono ?_; rintro e w' ⟨rfl, hw⟩; rw [hw, hvr]; clear hw)
  clear hvr
  go_step3
  go_wp2
  go_loopw [9, 10] (fun i f wr => i = .int .i64 m ∧ f = .int .i64 0 ∧ wr = w) (fun _ _ _ => 0)
  case atStart => exact ⟨rfl, rfl, rfl⟩
  case round =>
    obtain ⟨rfl, rfl, rfl⟩ := hrel
    by_cases h2 : 2 ≤ m
    · have hmz : ¬ (m : Int) < 2 := by omega
      go_wp2
      go_ret
      exact ⟨rfl, Below.refl _ _⟩
    · have HM1 : Hid (m = 1) := by show _ = _; omega
      have hcs : ∀ w, (Instr.index 9 (.string cs2) (.int .i64 (m : Int))).run Try.prog w = .ok (.int .u8 47) w := fun w => by
        rw [HM1.out]
        have := run_index_string (P := Try.prog) w 9 cs2 .i64 1 Try.underlying9
        rw [dif_pos ⟨by decide, by decide⟩] at this
        exact this
      have hne : ((47 : Int) == (c.toNat : Int)) = false := by simpa using (by omega : ¬ (47 : Int) = (c.toNat : Int))
      have hne2 : ¬ (47 : Int) = (c.toNat : Int) := by omega
      have hmz : (m : Int) < 2 := by omega
      have hmi : 0 ≤ (m : Int) + 1 ∧ (m : Int) + 1 ≤ 2 := by omega
      have hwr : IntKind.i64.wrap ((m : Int) + 1) = (m : Int) + 1 := wrap_small _ (by omega) (by omega)
      have hcz : (cs2.size : Int) = 2 := rfl
      have HSB : Hid (∀ w, Calls Try.prog 51 #[.string (cs2.extract (m + 1) 2), .int .u8 (c.toNat : Int)] w fun e w' => e = .returned (.int .i64 (-1)) ∧ w' = w) := fun w => by
        rw [HM1.out]; exact SiByte_any _ _ w
      clear h2 hm hs2 hs4
      go_wp2
      go_step3
      go_wp2
      go_quiet (fail)
      go_wp2
      have hbn : Below wr.heap.size wr (wr.drewN nq) := below_drewN (Below.refl _ _) _
      generalize wr.drewN nq = wn at *
      go_quiet ((go_at_call 51; exact Calls.quiet_of_same (HSB.out _)))
      go_wp2
      rw [Exit.noGoto_ret]
      go_wp2
      rw [Exit.noGoto_ret]
      go_wp2
      go_ret
      exact ⟨rfl, hbn.trans (below_drewN (Below.refl _ _) _)⟩

/-- IndexRune at whatever rune a string's reading gives. -/
theorem SiRune_any (s : ByteArray) (pos : Nat) (w : World) : Calls Try.prog 36 #[.string cs2, .int .i32 ((Utf8.decode s pos).1 : Int)] w fun e w' => e = .returned (.int .i64 (runeI ((Utf8.decode s pos).1 : Int))) ∧ Below w.heap.size w w' := by
  have hv := decode_valid s pos
  generalize (Utf8.decode s pos).1 = r at *
  by_cases h128 : r < 128
  · exact SiRune_low _ (by omega) (by omega) w
  · have e : runeI (r : Int) = -1 := by
      unfold runeI
      rw [if_neg (by omega), if_neg (by omega)]
    rw [e]
    by_cases h3 : r = 65533
    · subst h3
      exact SiRune_err w
    · exact SiRune_high _ hv (by omega) (by omega) w

/-- Is one of the two among the first i bytes? -/
def NoTwo (s : ByteArray) (i : Nat) : Prop := ∀ j, j < i → j < s.size → (s.get! j) ≠ 0 ∧ (s.get! j) ≠ 47
def hasTwo (s : List UInt8) : Bool := s.any (fun c => c == 0 || c == 47)
theorem get_list (s : List UInt8) (j : Nat) (hj : j < s.length) : (strB s).get! j = s.getD j 0 := by
  have h1 : j < (strB s).size := by rw [strB_size']; exact hj
  have e := get_at (strB s) j h1
  rw [Nat.add_zero] at e
  rw [e, List.getD_eq_getElem?_getD, List.getElem?_eq_getElem hj]
  rfl
theorem noTwo_all {s : List UInt8} (h : NoTwo (strB s) s.length) : hasTwo s = false := by
  unfold hasTwo
  rw [List.any_eq_false]
  intro x hx
  obtain ⟨j, hj, rfl⟩ := List.getElem_of_mem hx
  have := h j hj (by rw [strB_size']; exact hj)
  rw [get_list s j hj, List.getD_eq_getElem?_getD, List.getElem?_eq_getElem hj] at this
  simpa using this
theorem two_at {s : List UInt8} {j : Nat} (hj : j < s.length) (h : s.getD j 0 = 0 ∨ s.getD j 0 = 47) : hasTwo s = true := by
  unfold hasTwo
  rw [List.any_eq_true]
  refine ⟨s[j], List.getElem_mem hj, ?_⟩
  rw [List.getD_eq_getElem?_getD, List.getElem?_eq_getElem hj] at h
  simpa using h
end Go.Proofs.Ytaamhdgngnpmoaa
