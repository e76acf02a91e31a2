/-
  THE WALK of the law CodecBack.
-/
import Derived.Test.YteegnldjcjlelaaKK
namespace Go.Proofs.Yteegnldjcjlelaa
open Go.RowKit Cdc

set_option maxRecDepth 100000 in
set_option maxHeartbeats 1000000 in
theorem KBack_short (p g : Bool) (A0 : Option Addr) (n0 c0 : Nat) (A1 : Option Addr) (n1 c1 : Nat) (A2 : Option Addr) (n2 c2 : Nat) (ws : List Int) (l : List Nat) (b : List UInt8) (h0 : ws.length = n0) (h1 : l.length = n1)
    (hn0 : n0 ≤ 50) (hn1 : n1 ≤ 50) (hn2 : n2 ≤ 400) (h64 : ∀ x ∈ l, x < 2 ^ 64) (w : World) (f0 : From w (.slice A0 n0 c0) (ws.map VI)) (f1 : From w (.slice A1 n1 c1) (l.map VU)) (f2 : Arg w (.slice A2 n2 c2) b) (hp : okP ws l = p) (hg : okG ws b = g) :
    Calls Try.prog 4 #[.slice A0 n0 c0, .slice A1 n1 c1, .slice A2 n2 c2] w fun e w' => e = .returned (.bool true) ∧ Below w.heap.size w w' := by
  have hPut : Hid (∀ W, Below w.heap.size w W → Calls Try.prog 6 #[.slice A0 n0 c0, .slice A1 n1 c1] W fun e w' => ∃ r, e = .returned (.tuple #[r, .int .i64 (errI p)]) ∧ Hid (Arg w' r (putB ws l)) ∧ Below W.heap.size W w') := fun W hW => by
    have := KPut_any ws (by omega) l h64 _ _ W (f0.below hW) (f1.below hW)
    rwa [hp] at this
  have hGet1 : Hid (p = true → ∀ W v, Below w.heap.size w W → Arg W v (putB ws l) → Calls Try.prog 8 #[.slice A0 n0 c0, v] W fun e w' => ∃ r, e = .returned (.tuple #[r, .int .i64 0]) ∧ Hid (From w' r (l.map VU)) ∧ Below W.heap.size W w') := fun hpt W v hW hv => by
    obtain ⟨k1, k2⟩ := back_put (hp.trans hpt)
    have := KGet_any ws (by omega) (putB ws l) _ _ W (f0.below hW) hv
    rwa [k1, k2] at this
  have hGet : Hid (∀ W, Below w.heap.size w W → Calls Try.prog 8 #[.slice A0 n0 c0, .slice A2 n2 c2] W fun e w' => ∃ r, e = .returned (.tuple #[r, .int .i64 (errI g)]) ∧ Hid (From w' r ((getL ws b).map VU)) ∧ Below W.heap.size W w') := fun W hW => by
    have := KGet_any ws (by omega) b _ _ W (f0.below hW) (f2.below hW)
    rwa [hg] at this
  have hSame : Hid (∀ W v, Below w.heap.size w W → From W v (l.map VU) → Calls Try.prog 12 #[v, .slice A1 n1 c1] W fun e w' => e = .returned (.bool true) ∧ Below W.heap.size W w') := fun W v hW hv => by
    have := RKSame_any l l (by omega) (by omega) v _ W hv (f1.below hW)
    rwa [decide_eq_true rfl] at this
  have hPut2 : Hid (g = true → ∀ W v, Below w.heap.size w W → From W v ((getL ws b).map VU) → Calls Try.prog 6 #[.slice A0 n0 c0, v] W fun e w' => ∃ r, e = .returned (.tuple #[r, .int .i64 0]) ∧ Hid (Arg w' r b) ∧ Below W.heap.size W w') := fun hgt W v hW hv => by
    have hgg := hg.trans hgt
    obtain ⟨k1, k2⟩ := back_get hgg
    have := KPut_any ws (by omega) (getL ws b) (by rw [getL, if_pos hgg]; exact nums_lt ws (okG_iff.1 hgg).1 b) _ _ W (f0.below hW) hv
    rwa [k1, k2] at this
  have hB : Hid (∀ W, Below w.heap.size w W → (convert 24 9 (.slice A2 n2 c2)).run Try.prog W = .ok (.string (strB b)) W) := fun W hW => conv_arg (f2.below hW)
  generalize putB ws l = pb at *
  generalize getL ws b = gl at *
  clear f0 f1 f2 h0 h1 h64 hp hg
  have e0 : errI true = 0 := rfl
  have e1 : errI false = 1 := rfl
  go_enter Try.func4, Try.ntmps4
  cases p
  · rw [e1] at hPut
    clear hGet1 hSame
    cases g
    · rw [e1] at hGet
      clear hPut2 hB e0 e1
      go_wp2_with fail
      refine (hPut.out w (Below.refl _ _)).mono ?_
      rintro e w1 ⟨r1, rfl, _, hb1⟩
      go_wp2_with fail
      refine (hGet.out w1 hb1).mono ?_
      rintro e w2 ⟨r2, rfl, Hr2, hb2⟩
      have Hb2 : Hid (Below w.heap.size w w2) := hb1.trans (hb2.mono hb1.size)
      clear hb1 hb2
      go_wp2_with fail
      refine (Kknows_any w2).mono ?_
      rintro e w3 ⟨rfl, hb3⟩
      have Hb3 : Hid (Below w.heap.size w w3) := Hb2.out.trans (hb3.mono Hb2.out.size)
      clear hb3
      go_wp2
      go_ret
      exact ⟨rfl, Hb3.out⟩
    · rw [e0] at hGet
      clear e0 e1
      go_wp2_with fail
      refine (hPut.out w (Below.refl _ _)).mono ?_
      rintro e w1 ⟨r1, rfl, _, hb1⟩
      go_wp2_with fail
      refine (hGet.out w1 hb1).mono ?_
      rintro e w2 ⟨r2, rfl, Hr2, hb2⟩
      have Hb2 : Hid (Below w.heap.size w w2) := hb1.trans (hb2.mono hb1.size)
      clear hb1 hb2 hPut hGet
      go_wp2_with fail
      refine (hPut2.out (by simp) w2 _ Hb2.out Hr2.out).mono ?_
      rintro e w3 ⟨r3, rfl, Hr3, hb3⟩
      have Hb3 : Hid (Below w.heap.size w w3) := Hb2.out.trans (hb3.mono Hb2.out.size)
      have cv1 := conv_arg Hr3.out
      have cv2 := hB.out w3 Hb3.out
      clear hb3 Hr2 Hr3 Hb2 hPut2 hB
      generalize strB b = sb at *
      go_wp2_with fail
      refine (Kknows_any w3).mono ?_
      rintro e w4 ⟨rfl, hb4⟩
      have Hb4 : Hid (Below w.heap.size w w4) := Hb3.out.trans (hb4.mono Hb3.out.size)
      clear hb4 cv1 cv2
      go_wp2
      go_ret
      exact ⟨rfl, Hb4.out⟩
  · rw [e0] at hPut
    cases g
    · rw [e1] at hGet
      clear hPut2 hB e0 e1
      go_wp2_with fail
      refine (hPut.out w (Below.refl _ _)).mono ?_
      rintro e w1 ⟨r1, rfl, Hr1, hb1⟩
      go_wp2_with fail
      refine (hGet1.out (by simp) w1 _ hb1 Hr1.out).mono ?_
      rintro e w2 ⟨r2, rfl, Hr2, hb2⟩
      have Hb2 : Hid (Below w.heap.size w w2) := hb1.trans (hb2.mono hb1.size)
      clear hb1 hb2 hGet1 hPut
      go_wp2_with fail
      refine (hSame.out w2 _ Hb2.out Hr2.out).mono ?_
      rintro e w3 ⟨rfl, hb3⟩
      have Hb3 : Hid (Below w.heap.size w w3) := Hb2.out.trans (hb3.mono Hb2.out.size)
      clear hb3 Hb2 Hr2 hSame
      go_wp2_with fail
      refine (hGet.out w3 Hb3.out).mono ?_
      rintro e w4 ⟨r4, rfl, Hr4, hb4⟩
      have Hb4 : Hid (Below w.heap.size w w4) := Hb3.out.trans (hb4.mono Hb3.out.size)
      clear hb4 Hb3 hGet
      go_wp2_with fail
      refine (Kknows_any w4).mono ?_
      rintro e w5 ⟨rfl, hb5⟩
      have Hb5 : Hid (Below w.heap.size w w5) := Hb4.out.trans (hb5.mono Hb4.out.size)
      clear hb5
      go_wp2
      go_ret
      exact ⟨rfl, Hb5.out⟩
    · rw [e0] at hGet
      clear e0 e1
      go_wp2_with fail
      refine (hPut.out w (Below.refl _ _)).mono ?_
      rintro e w1 ⟨r1, rfl, Hr1, hb1⟩
      go_wp2_with fail
      refine (hGet1.out (by simp) w1 _ hb1 Hr1.out).mono ?_
      rintro e w2 ⟨r2, rfl, Hr2, hb2⟩
      have Hb2 : Hid (Below w.heap.size w w2) := hb1.trans (hb2.mono hb1.size)
      clear hb1 hb2 hGet1 hPut
      go_wp2_with fail
      refine (hSame.out w2 _ Hb2.out Hr2.out).mono ?_
      rintro e w3 ⟨rfl, hb3⟩
      have Hb3 : Hid (Below w.heap.size w w3) := Hb2.out.trans (hb3.mono Hb2.out.size)
      clear hb3 Hb2 Hr2 hSame
      go_wp2_with fail
      refine (hGet.out w3 Hb3.out).mono ?_
      rintro e w4 ⟨r4, rfl, Hr4, hb4⟩
      have Hb4 : Hid (Below w.heap.size w w4) := Hb3.out.trans (hb4.mono Hb3.out.size)
      clear hb4 Hb3 hGet
      go_wp2_with fail
      refine (hPut2.out (by simp) w4 _ Hb4.out Hr4.out).mono ?_
      rintro e w5 ⟨r5, rfl, Hr5, hb5⟩
      have Hb5 : Hid (Below w.heap.size w w5) := Hb4.out.trans (hb5.mono Hb4.out.size)
      have cv1 := conv_arg Hr5.out
      have cv2 := hB.out w5 Hb5.out
      clear hb5 Hr4 Hr5 Hb4 hPut2 hB
      generalize strB b = sb at *
      go_wp2_with fail
      refine (Kknows_any w5).mono ?_
      rintro e w6 ⟨rfl, hb6⟩
      have Hb6 : Hid (Below w.heap.size w w6) := Hb5.out.trans (hb6.mono Hb5.out.size)
      clear hb6 cv1 cv2
      go_wp2
      go_ret
      exact ⟨rfl, Hb6.out⟩

set_option maxRecDepth 100000 in
set_option maxHeartbeats 400000 in
theorem KBack_long (A0 : Option Addr) (n0 c0 : Nat) (A1 : Option Addr) (n1 c1 : Nat) (A2 : Option Addr) (n2 c2 : Nat) (h : 50 < n0 ∨ 50 < n1 ∨ 400 < n2) (w : World) :
    Calls Try.prog 4 #[.slice A0 n0 c0, .slice A1 n1 c1, .slice A2 n2 c2] w fun e w' => e = .returned (.bool true) ∧ Below w.heap.size w w' := by
  go_enter Try.func4, Try.ntmps4
  by_cases h0 : 50 < n0
  · clear h
    go_wp2_with fail
    refine (Kknows_any w).mono ?_
    rintro e w8 ⟨rfl, hb8⟩
    go_wp2
    go_ret
    exact ⟨rfl, hb8⟩
  · by_cases h1 : 50 < n1
    · clear h
      go_wp2_with fail
      refine (Kknows_any w).mono ?_
      rintro e w8 ⟨rfl, hb8⟩
      go_wp2
      go_ret
      exact ⟨rfl, hb8⟩
    · have h2 : 400 < n2 := by omega
      clear h
      go_wp2_with fail
      refine (Kknows_any w).mono ?_
      rintro e w8 ⟨rfl, hb8⟩
      go_wp2
      go_ret
      exact ⟨rfl, hb8⟩

theorem KBack_any (A0 : Option Addr) (n0 c0 : Nat) (A1 : Option Addr) (n1 c1 : Nat) (A2 : Option Addr) (n2 c2 : Nat) (ws : List Int) (l : List Nat) (b : List UInt8) (h0 : ws.length = n0) (h1 : l.length = n1) (_ : b.length = n2)
    (h64 : ∀ x ∈ l, x < 2 ^ 64) (w : World) (f0 : From w (.slice A0 n0 c0) (ws.map VI)) (f1 : From w (.slice A1 n1 c1) (l.map VU)) (f2 : Arg w (.slice A2 n2 c2) b) :
    Calls Try.prog 4 #[.slice A0 n0 c0, .slice A1 n1 c1, .slice A2 n2 c2] w fun e w' => e = .returned (.bool true) ∧ Below w.heap.size w w' := by
  by_cases h : 50 < n0 ∨ 50 < n1 ∨ 400 < n2
  · exact KBack_long _ _ _ _ _ _ _ _ _ h w
  · exact KBack_short _ _ _ _ _ _ _ _ _ _ _ ws l b h0 h1 (by omega) (by omega) (by omega) h64 w f0 f1 f2 rfl rfl
end Go.Proofs.Yteegnldjcjlelaa
