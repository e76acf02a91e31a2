/-
  THE WALK of the law CodecRows.
-/
import Derived.Test.YteegnldjcjlelaaKK
namespace Go.Proofs.Yteegnldjcjlelaa
open Go.RowKit Cdc

set_option maxRecDepth 100000 in
set_option maxHeartbeats 1000000 in
theorem KRows_short (p g : Bool) (A0 : Option Addr) (n0 c0 : Nat) (A1 : Option Addr) (n1 c1 : Nat) (A2 : Option Addr) (n2 c2 : Nat) (ws : List Int) (l : List Nat) (b : List UInt8) (h0 : ws.length = n0)
    (hn0 : n0 ≤ 50) (hn1 : n1 ≤ 50) (hn2 : n2 ≤ 400) (h64 : ∀ x ∈ l, x < 2 ^ 64) (w : World) (f0 : From w (.slice A0 n0 c0) (ws.map VI)) (f1 : From w (.slice A1 n1 c1) (l.map VU)) (f2 : Arg w (.slice A2 n2 c2) b) (hp : okP ws l = p) (hg : okG ws b = g) :
    Calls Try.prog 3 #[.slice A0 n0 c0, .slice A1 n1 c1, .slice A2 n2 c2] w fun e w' => e = .returned (.bool true) ∧ Below w.heap.size w w' := by
  have hPut : Hid (∀ W, Below w.heap.size w W → Calls Try.prog 6 #[.slice A0 n0 c0, .slice A1 n1 c1] W fun e w' => ∃ r, e = .returned (.tuple #[r, .int .i64 (errI p)]) ∧ Hid (Arg w' r (putB ws l)) ∧ Below W.heap.size W w') := fun W hW => by
    have := KPut_any ws (by omega) l h64 _ _ W (f0.below hW) (f1.below hW)
    rwa [hp] at this
  have hRPut : Hid (∀ W, Below w.heap.size w W → Calls Try.prog 7 #[.slice A0 n0 c0, .slice A1 n1 c1] W fun e w' => ∃ r, e = .returned (.tuple #[r, .bool p]) ∧ Hid (Arg w' r (putB ws l)) ∧ Below W.heap.size W w') := fun W hW => by
    have := RKPut_any ws (by omega) l h64 _ _ W (f0.below hW) (f1.below hW)
    rwa [hp] at this
  have hGet : Hid (∀ W, Below w.heap.size w W → Calls Try.prog 8 #[.slice A0 n0 c0, .slice A2 n2 c2] W fun e w' => ∃ r, e = .returned (.tuple #[r, .int .i64 (errI g)]) ∧ Hid (From w' r ((getL ws b).map VU)) ∧ Below W.heap.size W w') := fun W hW => by
    have := KGet_any ws (by omega) b _ _ W (f0.below hW) (f2.below hW)
    rwa [hg] at this
  have hRGet : Hid (∀ W, Below w.heap.size w W → Calls Try.prog 9 #[.slice A0 n0 c0, .slice A2 n2 c2] W fun e w' => ∃ r, e = .returned (.tuple #[r, .bool g]) ∧ Hid (From w' r ((getL ws b).map VU)) ∧ Below W.heap.size W w') := fun W hW => by
    have := RKGet_any ws (by omega) b _ _ W (f0.below hW) (f2.below hW)
    rwa [hg] at this
  have hWide : Hid (∀ W, Below w.heap.size w W → Calls Try.prog 10 #[.slice A0 n0 c0] W fun e w' => e = .returned (.int .i64 (wide ws)) ∧ Below W.heap.size W w') := fun W hW => KWide_any ws (by omega) _ W (f0.below hW)
  have hRWide : Hid (∀ W, Below w.heap.size w W → Calls Try.prog 11 #[.slice A0 n0 c0] W fun e w' => e = .returned (.int .i64 (wide ws)) ∧ Below W.heap.size W w') := fun W hW => RKWide_any ws (by omega) _ W (f0.below hW)
  have hgl : (getL ws b).length ≤ 50 := by
    unfold getL
    split
    · rw [nums_length]; omega
    · simp
  have hSame : Hid (∀ W v u, From W v ((getL ws b).map VU) → From W u ((getL ws b).map VU) → Calls Try.prog 12 #[v, u] W fun e w' => e = .returned (.bool true) ∧ Below W.heap.size W w') := fun W v u hv hu => by
    have := RKSame_any (getL ws b) (getL ws b) (by omega) (by omega) v u W hv hu
    rwa [decide_eq_true rfl] at this
  generalize putB ws l = pb at *
  generalize getL ws b = gl at *
  generalize wide ws = z at *
  clear f0 f1 f2 h0 h64 hp hg hgl
  have e0 : errI true = 0 := rfl
  have e1 : errI false = 1 := rfl
  go_enter Try.func3, Try.ntmps3
  cases p <;> cases g
  all_goals
    first | rw [e0] at hPut | rw [e1] at hPut
    first | rw [e0] at hGet | rw [e1] at hGet
    clear e0 e1
    go_wp2_with fail
    refine (hPut.out w (Below.refl _ _)).mono ?_
    rintro e w1 ⟨r1, rfl, Hr1, hb1⟩
    go_wp2_with fail
    refine (hRPut.out w1 hb1).mono ?_
    rintro e w2 ⟨r2, rfl, Hr2, hb2⟩
    have Hb2 : Hid (Below w.heap.size w w2) := hb1.trans (hb2.mono hb1.size)
    have Hr1' : Hid (Arg w2 r1 pb) := Hr1.out.below hb2
    clear hb1 hb2 Hr1 hPut hRPut
    go_wp2_with fail
    refine (hGet.out w2 Hb2.out).mono ?_
    rintro e w3 ⟨r3, rfl, Hr3, hb3⟩
    have Hb3 : Hid (Below w.heap.size w w3) := Hb2.out.trans (hb3.mono Hb2.out.size)
    have Hr13 : Hid (Arg w3 r1 pb) := Hr1'.out.below hb3
    have Hr23 : Hid (Arg w3 r2 pb) := Hr2.out.below hb3
    clear Hb2 hb3 Hr1' Hr2 hGet
    go_wp2_with fail
    refine (hRGet.out w3 Hb3.out).mono ?_
    rintro e w4 ⟨r4, rfl, Hr4, hb4⟩
    have Hb4 : Hid (Below w.heap.size w w4) := Hb3.out.trans (hb4.mono Hb3.out.size)
    have cv1 : (convert 24 9 r1).run Try.prog w4 = .ok (.string (strB pb)) w4 := conv_arg (Hr13.out.below hb4)
    have cv2 : (convert 24 9 r2).run Try.prog w4 = .ok (.string (strB pb)) w4 := conv_arg (Hr23.out.below hb4)
    have Hr34 : Hid (From w4 r3 (gl.map VU)) := Hr3.out.below hb4
    clear Hb3 hb4 Hr13 Hr23 Hr3 hRGet
    generalize strB pb = sb at *
    go_wp2_with fail
    refine (hWide.out w4 Hb4.out).mono ?_
    rintro e w5 ⟨rfl, hb5⟩
    have Hb5 : Hid (Below w.heap.size w w5) := Hb4.out.trans (hb5.mono Hb4.out.size)
    have Hr35 : Hid (From w5 r3 (gl.map VU)) := Hr34.out.below hb5
    have Hr45 : Hid (From w5 r4 (gl.map VU)) := Hr4.out.below hb5
    clear Hb4 hb5 Hr34 Hr4 cv1 cv2
    go_wp2_with fail
    refine (hRWide.out w5 Hb5.out).mono ?_
    rintro e w6 ⟨rfl, hb6⟩
    have Hb6 : Hid (Below w.heap.size w w6) := Hb5.out.trans (hb6.mono Hb5.out.size)
    have Hr36 : Hid (From w6 r3 (gl.map VU)) := Hr35.out.below hb6
    have Hr46 : Hid (From w6 r4 (gl.map VU)) := Hr45.out.below hb6
    clear Hb5 hb6 Hr35 Hr45
    go_wp2_with fail
    refine (hSame.out w6 _ _ Hr36.out Hr46.out).mono ?_
    rintro e w7 ⟨rfl, hb7⟩
    have Hb7 : Hid (Below w.heap.size w w7) := Hb6.out.trans (hb7.mono Hb6.out.size)
    clear Hb6 hb7 Hr36 Hr46
    go_wp2_with fail
    refine (Kknows_any w7).mono ?_
    rintro e w8 ⟨rfl, hb8⟩
    have Hb8 : Hid (Below w.heap.size w w8) := Hb7.out.trans (hb8.mono Hb7.out.size)
    clear hb8 Hb7
    go_wp2
    go_ret
    exact ⟨rfl, Hb8.out⟩

set_option maxRecDepth 100000 in
set_option maxHeartbeats 400000 in
theorem KRows_long (A0 : Option Addr) (n0 c0 : Nat) (A1 : Option Addr) (n1 c1 : Nat) (A2 : Option Addr) (n2 c2 : Nat) (h : 50 < n0 ∨ 50 < n1 ∨ 400 < n2) (w : World) :
    Calls Try.prog 3 #[.slice A0 n0 c0, .slice A1 n1 c1, .slice A2 n2 c2] w fun e w' => e = .returned (.bool true) ∧ Below w.heap.size w w' := by
  go_enter Try.func3, Try.ntmps3
  by_cases h0 : 50 < n0
  · clear h
    go_wp2_with fail
    refine (Kknows_any w).mono ?_
    rintro e w8 ⟨rfl, hb8⟩
    go_wp2
    go_ret
    exact ⟨rfl, hb8⟩
  · by_cases h1 : 50 < n1
    · clear h
      go_wp2_with fail
      refine (Kknows_any w).mono ?_
      rintro e w8 ⟨rfl, hb8⟩
      go_wp2
      go_ret
      exact ⟨rfl, hb8⟩
    · have h2 : 400 < n2 := by omega
      clear h
      go_wp2_with fail
      refine (Kknows_any w).mono ?_
      rintro e w8 ⟨rfl, hb8⟩
      go_wp2
      go_ret
      exact ⟨rfl, hb8⟩

theorem KRows_any (A0 : Option Addr) (n0 c0 : Nat) (A1 : Option Addr) (n1 c1 : Nat) (A2 : Option Addr) (n2 c2 : Nat) (ws : List Int) (l : List Nat) (b : List UInt8) (h0 : ws.length = n0) (_ : l.length = n1) (_ : b.length = n2)
    (h64 : ∀ x ∈ l, x < 2 ^ 64) (w : World) (f0 : From w (.slice A0 n0 c0) (ws.map VI)) (f1 : From w (.slice A1 n1 c1) (l.map VU)) (f2 : Arg w (.slice A2 n2 c2) b) :
    Calls Try.prog 3 #[.slice A0 n0 c0, .slice A1 n1 c1, .slice A2 n2 c2] w fun e w' => e = .returned (.bool true) ∧ Below w.heap.size w w' := by
  by_cases h : 50 < n0 ∨ 50 < n1 ∨ 400 < n2
  · exact KRows_long _ _ _ _ _ _ _ _ _ h w
  · exact KRows_short _ _ _ _ _ _ _ _ _ _ _ ws l b h0 (by omega) (by omega) (by omega) h64 w f0 f1 f2 rfl rfl
end Go.Proofs.Yteegnldjcjlelaa
