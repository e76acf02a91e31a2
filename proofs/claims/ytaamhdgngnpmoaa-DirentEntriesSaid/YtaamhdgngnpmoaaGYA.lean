/-
  THE WALKS of slices.Chunk at sixteen bytes and of the function that it returns.
-/
import Derived.Test.YtaamhdgngnpmoaaGV
import Derived.Test.YtaamhdgngnpmoaaRB
namespace Go.Proofs.Ytaamhdgngnpmoaa
open Go.RowKit Go.Shelf Dir

attribute [local go_sem] Oper.semAt_some

/-- What a round keeps: the two variables that the iterator reads. -/
def KeepC (gs gz : Nat) (W W' : World) : Prop := (∀ v, Boxed W gs 23 v → Boxed W' gs 23 v) ∧ (∀ v, Boxed W gz 3 v → Boxed W' gz 3 v)
theorem keepC_t {gs gz : Nat} {A B C : World} (h : KeepC gs gz A B) (k : KeepC gs gz B C) : KeepC gs gz A C := ⟨fun v hv => k.1 v (h.1 v hv), fun v hv => k.2 v (h.2 v hv)⟩
theorem keepC_b {gs gz n : Nat} (h1 : gs < n) (h2 : gz < n) (W : World) (l : Nat) (o o' : Obj) (hl : n ≤ l) (_ : W.heap[l]? = some o) (_ : o.isCells = false) : KeepC gs gz W (W.putObj l o') :=
  ⟨fun v hv => hv.kept (grownBy_putObj' W l o') (fun e => by cases e; omega), fun v hv => hv.kept (grownBy_putObj' W l o') (fun e => by cases e; omega)⟩
theorem finRange_take (m k : Nat) (h : k < m) : (List.finRange m).take (k + 1) = (List.finRange m).take k ++ [⟨k, h⟩] := by
  rw [List.take_add_one]
  congr 1
  rw [List.getElem?_eq_getElem (by simpa using h)]
  simp

theorem DiChunk_any (A : Option Addr) (n cap : Nat) (w : World) :
    Calls Try.prog 25 #[.slice A n cap, .int .i64 16] w fun e w' => e = .returned (.func (.func 33) #[] #[.pointer (some ⟨w.heap.size, 0, none⟩), .pointer (some ⟨w.heap.size + 1, 0, none⟩)]) ∧ w' = (w.alloc (.cells #[.slice A n cap] 23)).alloc (.cells #[.int .i64 16] 3) := by
  go_enter Try.func25, Try.ntmps25
  go_wp2
  go_ret
  exact ⟨rfl, rfl⟩

set_option maxRecDepth 100000 in
set_option maxHeartbeats 1000000 in
theorem chunk1_in (F : Fence) (n : Nat) (hO : Open F Try.prog) (hro : F.round = none) (hn : 1 ≤ n) (l gs gz : Nat) (A : Option Addr) (b o m cap : Nat) (hA : 0 < m → A = some ⟨b, o, none⟩) (hm : m ≤ 1000) (hcap : 16 * m ≤ cap) (J Jx : List (Fin m) → World → Prop) (hJd : ∀ pre W, J pre W → J pre W.drew)
    (hY : ∀ pre x W, J pre W → pre.length < m → YieldAt F (n - 1) Try.prog l #[.slice (some ⟨b, o + 16 * x.val, none⟩) 16 16] W fun e W' =>
      (e = .returned (.bool true) ∧ J (pre ++ [x]) W' ∧ KeepC gs gz W W') ∨ (e = .returned (.bool false) ∧ Jx (pre ++ [x]) W'))
    (W : World) (hw : Boxed W gs 23 (.slice A (16 * m) cap)) (hx : Boxed W gz 3 (.int .i64 16)) (h0 : J [] W) :
    CallsIn F n Try.prog 33 #[.func (.yield l) #[] #[], .pointer (some ⟨gs, 0, none⟩), .pointer (some ⟨gz, 0, none⟩)] W fun e W' => (∃ v, e = .returned v) ∧
      ((∃ ys, ys = List.finRange m ∧ J ys W') ∨ (∃ pre, pre.length ≤ m ∧ Jx pre W')) := by
  refine callsIn_of_wp Try.func33 rfl (hO.fn _) ?_ hro
  simp only [Try.ntmps33, List.size_toArray, List.length_cons, List.length_nil, Nat.reduceAdd, Nat.reduceSub, Array.replicate_succ, Array.replicate_zero, List.push_toArray, List.append_toArray, List.nil_append, List.cons_append]
  have hc := hw.cell
  gi_wp2
  gi_loopw [4] (fun p wr => ∃ (k : Nat), k ≤ m ∧ p = .int .i64 ((16 * k : Nat) : Int) ∧ Boxed wr gs 23 (.slice A (16 * m) cap) ∧ Boxed wr gz 3 (.int .i64 16) ∧ J ((List.finRange m).take k) wr)
    (fun p _ => 16 * m - (intOf p).toNat)
  case atStart => exact ⟨0, by omega, rfl, hw, hx, h0⟩
  case round =>
    obtain ⟨k, hk, rfl, hbw, hbx, hJ⟩ := hrel
    have c1 := hbw.cell
    have c2 := hbx.cell
    by_cases hlt : k < m
    · obtain rfl := hA (by omega)
      obtain ⟨fn, tmps, assign, body, hyy, hR⟩ := hY _ ⟨k, hlt⟩ wr.drew (hJd _ _ hJ) (by rw [List.length_take, List.length_finRange]; omega)
      have HJd := Lib.hid (hJd _ _ hJ)
      have hcs : ((16 * k : Nat) : Int) < ((16 * m : Nat) : Int) := by omega
      have hbd : Boxed wr.drew gs 23 (.slice (some ⟨b, o, none⟩) (16 * m) cap) := hbw
      have hxd : Boxed wr.drew gz 3 (.int .i64 16) := hbx
      have Hw := Lib.hid hbd
      have Hx := Lib.hid hxd
      have hS : (fun W : World => W.cell? ⟨gs, 0, none⟩ = some (.slice (some ⟨b, o, none⟩) (16 * m) cap) ∧ W.cell? ⟨gz, 0, none⟩ = some (.int .i64 16)) wr.drew := ⟨hbd.cell, hxd.cell⟩
      clear hbd hxd hbw hbx hJ hJd
      gi_wp2
      refine wpIn_region_held_drew (S := (fun W => W.cell? ⟨gs, 0, none⟩ = some (.slice (some ⟨b, o, none⟩) (16 * m) cap) ∧ W.cell? ⟨gz, 0, none⟩ = some (.int .i64 16))) hO (by kernel_rfl) (fun hn => ?nl) (by kernel_rfl) hS (fun hHeld => ?_)
      case nl =>
        obtain ⟨a, b, hn⟩ := hn
        have h2 : (∃ v, Ending.outgrown = Ending.returned v) ∧ ((∃ ys, ys = List.finRange m ∧ J ys b) ∨ ∃ pre, pre.length ≤ m ∧ Jx pre b) := hn
        obtain ⟨⟨v, hv⟩, _⟩ := h2
        cases hv
      generalize wr.drew = Wd at *
      refine wpAnyH_take (i := 0) (oi := ⟨some 13, _, _, _, _, _⟩) (v := ?_) rfl (by kernel_rfl) (by kernel_rfl) (by kernel_rfl) (fun _ _ _ h => h) (Or.inl ⟨by rfl, ?_⟩) hHeld ?_
      rotate_left
      · intro w hSw
        obtain ⟨hc1, hc2⟩ := hSw
        go_simp
        with_reducible rfl
      try go_frame
      refine wpAnyH_take (i := 1) (oi := ⟨some 14, _, _, _, _, _⟩) (v := ?_) rfl (by kernel_rfl) (by kernel_rfl) (by kernel_rfl) (fun _ _ _ h => h) (Or.inl ⟨by rfl, ?_⟩) hHeld ?_
      rotate_left
      · intro w hSw
        obtain ⟨hc1, hc2⟩ := hSw
        go_simp
        with_reducible rfl
      try go_frame
      refine wpAnyH_take (i := 2) (oi := ⟨some 15, _, _, _, _, _⟩) (v := ?_) rfl (by kernel_rfl) (by kernel_rfl) (by kernel_rfl) (fun _ _ _ h => h) (Or.inl ⟨by rfl, ?_⟩) hHeld ?_
      rotate_left
      · intro w hSw
        go_simp
        with_reducible rfl
      try go_frame
      refine wpAnyH_take (i := 3) (oi := ⟨some 16, _, _, _, _, _⟩) (v := ?_) rfl (by kernel_rfl) (by kernel_rfl) (by kernel_rfl) (fun _ _ _ h => h) (Or.inl ⟨by rfl, ?_⟩) hHeld ?_
      rotate_left
      · intro w hSw
        have hb0 : (0 : Int) ≤ 16 * (k : Int) := by omega
        have hbt : (16 * (k : Int)).toNat = 16 * k := by omega
        have hne : ¬ cap = 16 * k := by omega
        go_simp
        with_reducible rfl
      try go_frame
      refine wpAnyH_take (i := 4) (oi := ⟨some 17, _, _, _, _, _⟩) (v := ?_) rfl (by kernel_rfl) (by kernel_rfl) (by kernel_rfl) (fun _ _ _ h => h) (Or.inl ⟨by rfl, ?_⟩) hHeld ?_
      rotate_left
      · intro w hSw
        go_simp
        with_reducible rfl
      try go_frame
      refine wpAnyH_take (i := 5) (oi := ⟨some 18, _, _, _, _, _⟩) (v := ?_) rfl (by kernel_rfl) (by kernel_rfl) (by kernel_rfl) (fun _ _ _ h => h) (Or.inl ⟨by rfl, ?_⟩) hHeld ?_
      rotate_left
      · intro w hSw
        have hmn : min (16 : Int) ((16 * m - 16 * k : Nat) : Int) = 16 := by omega
        go_simp
        with_reducible rfl
      try go_frame
      refine wpAnyH_take (i := 6) (oi := ⟨some 5, _, _, _, _, _⟩) (v := ?_) rfl (by kernel_rfl) (by kernel_rfl) (by kernel_rfl) (fun _ _ _ h => h) (Or.inl ⟨by rfl, ?_⟩) hHeld ?_
      rotate_left
      · intro w hSw
        go_simp
        with_reducible rfl
      try go_frame
      refine wpAnyH_done (by kernel_rfl) ?_ _
      have c1 := Hw.out.cell
      have c2 := Hx.out.cell
      gi_wp2
      refine hR.mono ?_
      rintro e W3 (⟨rfl, hJ3, hk3⟩ | ⟨rfl, hJx3⟩)
      · have hbw3 := hk3.1 _ Hw.out
        have hbx3 := hk3.2 _ Hx.out
        have c3 := hbx3.cell
        clear hk3 hR hyy c1 c2 Hw Hx hS hHeld
        gi_wp2
        go_roundw
        case rel =>
          refine ⟨k + 1, by omega, ?_, hbw3, hbx3, ?_⟩
          · go_num
          · rw [finRange_take m k hlt]; exact hJ3
        case measure => simp only [intOf]; omega
      · gi_wp2
        refine bodyPost_ret (results_none rfl _ _ _) rfl ?_
        exact ⟨⟨_, rfl⟩, .inr ⟨_, by rw [List.length_append, List.length_take, List.length_finRange]; simp; omega, hJx3⟩⟩
    · obtain rfl : k = m := by omega
      gi_wp2
      go_end0
      rw [List.take_of_length_le (by simp)] at hJ
      exact ⟨⟨_, rfl⟩, .inl ⟨_, rfl, hJ⟩⟩

/-- The function that Chunk returns gives the pieces of sixteen bytes. -/
theorem chunk_stops (F : Fence) (n : Nat) (hO : Open F Try.prog) (hro : F.round = none) (hn : 1 ≤ n) (gs gz : Nat) (A : Option Addr) (b o m cap : Nat) (hA : 0 < m → A = some ⟨b, o, none⟩) (hm : m ≤ 1000) (hcap : 16 * m ≤ cap) (w : World) (hw : Boxed w gs 23 (.slice A (16 * m) cap)) (hx : Boxed w gz 3 (.int .i64 16)) :
    SeqStopsK F n Try.prog 33 #[.pointer (some ⟨gs, 0, none⟩), .pointer (some ⟨gz, 0, none⟩)] (fun x : Fin m => #[.slice (some ⟨b, o + 16 * x.val, none⟩) 16 16]) (KeepC gs gz) (fun ys => ys = List.finRange m) (fun pre => pre.length ≤ m) m w := fun l J Jx W hW hJa _ hY h0 =>
  chunk1_in F n hO hro hn l gs gz A b o m cap hA hm hcap J Jx (fun pre W' hJ => hJa pre W' W'.drew none hJ ⟨rfl, rfl, rfl, Nat.le_refl _, fun _ _ _ => rfl⟩ (fun r e => by cases e)) hY W ((hW.block gs hw.lt).trans hw) ((hW.block gz hx.lt).trans hx) h0
end Go.Proofs.Ytaamhdgngnpmoaa
