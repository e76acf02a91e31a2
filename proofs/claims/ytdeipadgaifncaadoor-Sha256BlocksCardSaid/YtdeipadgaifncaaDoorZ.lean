/-
  THE WALK of the law Sha256Sums.
-/
import Derived.Test.YtdeipadgaifncaaDoorY
import Derived.Laws.BytesArg
import Derived.Deep.RegionHeld3
namespace Go.Proofs.YtdeipadgaifncaaDoor
open Go.RowKit Sha

theorem Own.arg {w : World} {B : Nat} {v : Value} {bs : List UInt8} (h : Own w B 5 v (bs.map V8)) : Arg w v bs := by
  rcases h.2 with ⟨rfl, h0⟩ | ⟨g, cap, cur, rfl, _, hg, hc, _⟩
  · exact .inl ⟨none, rfl, List.eq_nil_of_length_eq_zero (by simpa using h0)⟩
  · rw [List.length_map] at hc
    refine .inr ⟨g, 0, cap, by rw [List.length_map], (Array.getElem?_eq_some_iff.1 hg).1, hc, fun j u hu => ?_⟩
    have := World.ownsRow.cells h (g := g) rfl j u hu
    rwa [add_off] at this

/-- Bytes as a string. -/
def strB (bs : List UInt8) : ByteArray := ⟨bs.toArray⟩
theorem conv_arg {w : World} {v : Value} {bs : List UInt8} (h : Arg w v bs) : (convert 22 9 v).run Tryd.prog w = .ok (.string (strB bs)) w := by
  rcases h with ⟨A, rfl, rfl⟩ | ⟨b, o, cap, rfl, _, _, hs⟩
  · cases A with
    | none => exact run_convert_bytes_nil w 22 5 Tryd.underlying22 Tryd.underlying5 0 0 9 Tryd.underlying9
    | some ad =>
      rw [run_convert_bytes_string w 22 9 5 (some ad) 0 0 Tryd.underlying22 Tryd.underlying5 Tryd.underlying9]
      exact run_bytesToString w ad 0 0 [] (by simp [loadCells, loadCellsFrom])
  · have hx := run_convert_bytes_arg (P := Tryd.prog) w 22 5 Tryd.underlying22 Tryd.underlying5 b o bs.length cap (bs.map fun x => (x.toNat : Int)) (by simp) (fun i hi => by
      have := at8 hs i hi
      rw [this]
      simp [hi]) 9 Tryd.underlying9
    rw [hx]
    congr 2
    unfold strB
    have : (strOfNums (bs.map fun x => (x.toNat : Int))).data.toList = bs := by
      rw [strOfNums_data, List.map_map]
      conv => rhs; rw [← List.map_id bs]
      apply List.map_congr_left
      intro x _
      simp
    cases hq : strOfNums (bs.map fun x => (x.toNat : Int)) with
    | mk d => rw [hq] at this; simp at this; rw [← this]

set_option maxRecDepth 100000 in
set_option maxHeartbeats 400000 in
theorem Sums_long (A : Option Addr) (n cap : Nat) (hn : 400 < n) (w : World) (h0 : 0 < w.heap.size) (hK : Sees w 0 0 (K0.map V32)) :
    Calls Tryd.prog 3 #[.slice A n cap] w fun e w' => e = .returned (.bool true) ∧ Below w.heap.size w w' := by
  have HK := Lib.hid hK
  clear hK
  go_enter Tryd.func3, Tryd.ntmps3
  go_wp2_with fail
  refine (knows_any w h0 HK.out).mono ?_
  rintro e w1 ⟨rfl, hb1⟩
  go_wp2
  go_ret
  exact ⟨rfl, hb1⟩

theorem arg_from {w : World} {v : Value} {bs : List UInt8} (h : Arg w v bs) : From w v (bs.map V8) := by
  rcases h with ⟨A, e, rfl⟩ | ⟨b, o, c, e, hb, _, hs⟩
  · exact .inl ⟨A, e, rfl⟩
  · exact .inr ⟨b, o, c, by rw [List.length_map]; exact e, hb, hs⟩

/-- Three slices read as strings. -/
def Three (a b c : Value) (x y : List UInt8) (w : World) : Prop :=
  (convert 22 9 a).run Tryd.prog w = .ok (.string (strB x)) w ∧ (convert 22 9 b).run Tryd.prog w = .ok (.string (strB y)) w ∧ (convert 22 9 c).run Tryd.prog w = .ok (.string (strB y)) w

set_option maxRecDepth 100000 in
set_option maxHeartbeats 1000000 in
theorem Sums_short (A : Option Addr) (n cap : Nat) (bs : List UInt8) (hl : bs.length = n) (hn : n ≤ 400) (w : World) (h0 : 0 < w.heap.size) (hK : Sees w 0 0 (K0.map V32)) (h : Arg w (.slice A n cap) bs) :
    Calls Tryd.prog 3 #[.slice A n cap] w fun e w' => e = .returned (.bool true) ∧ Below w.heap.size w w' := by
  have HK := Lib.hid hK
  have HA := Lib.hid h
  have HL := Lib.hid hl
  have HF : Hid (From (w.alloc (.cells #[] 5)) (.slice A n cap) (bs.map V8)) := (arg_from h).alloc _
  have HO : Hid (Own (w.alloc (.cells #[] 5)) w.heap.size 5 (.slice (some ⟨w.heap.size, 0, none⟩) 0 0) []) := Own.lit w _ _ [] (Nat.le_refl _) (by decide)
  have H1 := Lib.hid (oneC8 bs)
  have HLn : Hid (([] : List Value).length + (bs.map V8).length ≤ 100000000) := by show _ ≤ _; rw [List.length_map, hl]; simp; omega
  clear hK h hl
  have hz := zero32
  go_enter Tryd.func3, Tryd.ntmps3
  go_wp2_with (at_builtin; refine wpList_app rfl (.tmp 9) (.tmp 10) 22 rfl w.heap.size 5 Tryd.underlying22 info8 rfl (by decide) _ [] rfl HO.out _ (bs.map V8) rfl HF.out H1.out HLn.out (by simp) ?_; intro v1 w1 hown1 hg1 _)
  have hb1 : Below w.heap.size w w1 := by_to_below' hg1
  have hsz1 := hb1.size
  rw [List.nil_append] at hown1
  have Ho1 : Hid (Arg w1 v1 bs) := hown1.arg
  have HK1 : Hid (Sees w1 0 0 (K0.map V32)) := HK.out.below hb1 h0
  have HA1 : Hid (Arg w1 (.slice A n cap) bs) := HA.out.below hb1
  clear hown1 hg1 HF HO H1 HLn HA HK
  refine (Sum_var v1 bs (by rw [HL.out]; omega) w1 (by omega) HK1.out Ho1.out).mono ?_
  rintro e w2 ⟨rs, Hrs, Hsz, Hone, rfl, hb2⟩
  have hsz2 := hb2.size
  go_wp2_with (refine wpList_store_row rfl 24 (.tmp 4) (.tmp 13) rfl w2.heap.size rs.toArray rfl rfl 24 _ (Row.new w2 _ Z32) (by rw [Hsz.out]; kernel_rfl) (by rw [Hsz.out]; rfl) Hone.out ?_)
  try go_frame
  refine leave_wp (fun w3 => Hid (Arg w3 (.slice (some ⟨w2.heap.size, 0, none⟩) 32 32) (dig (sumSt K0 bs))) ∧ Hid (Arg w3 v1 bs) ∧ Hid (Arg w3 (.slice A n cap) bs) ∧ Hid (Sees w3 0 0 (K0.map V32)) ∧ Below w.heap.size w w3 ∧ 0 < w3.heap.size) ?_ ?_
  · have hb3 : Below w2.heap.size w2 ((w2.alloc (.cells Z32.toArray 24)).setRow w2.heap.size rs.toArray) := below_setRow' ((Below.refl _ _).alloc (Nat.le_refl _) _) (Nat.le_refl _) _
    have hb13 : Below w1.heap.size w1 ((w2.alloc (.cells Z32.toArray 24)).setRow w2.heap.size rs.toArray) := hb2.trans (hb3.mono hsz2)
    refine ⟨?_, Ho1.out.below hb13, HA1.out.below hb13, HK1.out.below hb13 (by omega), hb1.trans (hb13.mono hsz1), by simp⟩
    refine .inr ⟨w2.heap.size, 0, 32, by rw [dig_length], by simp, by rw [dig_length]; omega, ?_⟩
    have := ((Row.new w2 24 Z32).whole rs).sees
    rw [Hrs.out] at this ⊢
    exact this
  rintro w3 ⟨HS, Ho3, HA3, HK3, hb3, h03⟩
  clear Ho1 HA1 HK1 Hrs Hsz Hone hb1 hb2 hz
  have HRS : Hid (Calls Tryd.prog 7 #[.slice A n cap] w3.drew fun e w' => ∃ v, e = .returned v ∧ (convert 22 9 v).run Tryd.prog w' = .ok (.string (strB (dig (sumSt K0 bs)))) w' ∧ Three (.slice (some ⟨w2.heap.size, 0, none⟩) 32 32) v1 (.slice A n cap) (dig (sumSt K0 bs)) bs w' ∧ Below w3.heap.size w3 w') :=
    (RSum_gen A n cap bs HL.out (by omega) w3.drew (arg_from (w := w3.drew) HA3.out)).mono fun e w' ⟨v, he, ho, hb'⟩ => by
      have hb : Below w3.heap.size w3 w' := ⟨hb'.os, hb'.tape, hb'.output, hb'.size, hb'.block⟩
      exact ⟨v, he, conv_arg ho.arg, ⟨conv_arg (HS.out.below hb), conv_arg (Ho3.out.below hb), conv_arg (HA3.out.below hb)⟩, hb⟩
  have HKN : Hid (∀ W, Below w3.heap.size w3 W → Calls Tryd.prog 5 #[] W fun e w' => e = .returned (.bool true) ∧ Three (.slice (some ⟨w2.heap.size, 0, none⟩) 32 32) v1 (.slice A n cap) (dig (sumSt K0 bs)) bs w' ∧ Below w3.heap.size w3 w') := fun W hW =>
    (knows_any W (Nat.lt_of_lt_of_le h03 hW.size) (HK3.out.below hW h03)).mono fun e w' ⟨he, hb⟩ => by
      have hb' := hW.trans (hb.mono hW.size)
      exact ⟨he, ⟨conv_arg (HS.out.below hb'), conv_arg (Ho3.out.below hb'), conv_arg (HA3.out.below hb')⟩, hb'⟩
  have k3 : Three (.slice (some ⟨w2.heap.size, 0, none⟩) 32 32) v1 (.slice A n cap) (dig (sumSt K0 bs)) bs w3.drew := ⟨conv_arg (w := w3.drew) HS.out, conv_arg (w := w3.drew) Ho3.out, conv_arg (w := w3.drew) HA3.out⟩
  generalize dig (sumSt K0 bs) = D at *
  obtain ⟨k31, k32, k33⟩ := k3
  go_region_with (first | (go_at_call 7; refine HRS.out.mono ?_; rintro e w4 ⟨v4, rfl, hc4, ⟨k41, k42, k43⟩, hb4⟩) | (go_at_call 5; refine (HKN.out _ hb4).mono ?_; rintro e w5 ⟨rfl, _, hb5⟩))
  all_goals
    go_wp2
    go_ret
    exact ⟨rfl, hb3.trans (hb5.mono hb3.size)⟩
end Go.Proofs.YtdeipadgaifncaaDoor
