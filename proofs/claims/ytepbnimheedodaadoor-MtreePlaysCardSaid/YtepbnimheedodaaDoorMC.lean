/-
  THE WALKS of the reference's Zero and Node.
-/
import Derived.Test.YtepbnimheedodaaDoorMB
namespace Go.Proofs.YtepbnimheedodaaDoor
open Go.RowKit Mk

theorem From.parts {w : World} {v : Value} {ys : List Value} (h : From w v ys) : ∃ A cap, v = .slice A ys.length cap ∧ (0 < ys.length → ∃ b o, A = some ⟨b, o, none⟩ ∧ b < w.heap.size ∧ Sees w b o ys) := by
  rcases h with ⟨A, e, rfl⟩ | ⟨b, o, c, e, hl, hs⟩
  · exact ⟨A, 0, e, fun h => by simp at h⟩
  · exact ⟨_, c, e, fun _ => ⟨b, o, rfl, hl, hs⟩⟩
theorem take_snoc {α : Type} (l : List α) (i : Nat) (hi : i < l.length) (d : α) : l.take (i + 1) = l.take i ++ [l.getD i d] := by
  rw [List.take_succ_eq_append_getElem hi, List.getD_eq_getElem?_getD, List.getElem?_eq_getElem hi]; rfl
theorem made8 (n : Nat) (hn : n ≤ 1000000) (W : World) : (Instr.makeSlice 22 (.int .i64 (n : Int)) (.int .i64 (n : Int))).run Tryd.prog W = .ok (.slice (some ⟨W.heap.size, 0, none⟩) n n) (W.alloc (.cells ((List.replicate n 0).map V8).toArray 5)) := by
  have h := run_make_row' (P := Tryd.prog) 22 5 (.int .u8 0) 1 Tryd.underlying22 info8 rfl .i64 .i64 n (by omega) (by omega) W
  rw [show madeCells #[Value.int .u8 0] n = ((List.replicate n 0).map V8).toArray from by
    unfold madeCells
    apply Array.ext
    · simp
    · intro i h1 h2
      simp [V8, Nat.mod_one]] at h
  exact h

set_option maxRecDepth 100000 in
set_option maxHeartbeats 400000 in
theorem RMZero_any (w : World) : Calls Tryd.prog 24 #[] w fun e w' => e = .returned (VS zero) ∧ Below w.heap.size w w' := by
  have hmk : (Instr.makeSlice 22 (.int .i64 32) (.int .i64 32)).run Tryd.prog w = .ok (.slice (some ⟨w.heap.size, 0, none⟩) 32 32) (w.alloc (.cells (zero.map V8).toArray 5)) := made8 32 (by omega) w
  have hcv := conv_arg ((Row.new w 5 (zero.map V8)).arg 32 rfl)
  have HE : Hid (Below w.heap.size w (w.alloc (.cells (zero.map V8).toArray 5))) := (Below.refl _ _).alloc (Nat.le_refl _) _
  unfold VS
  generalize strB zero = s at *
  generalize (zero.map V8).toArray = cs at *
  go_enter Tryd.func24, Tryd.ntmps24
  go_wp2
  go_ret
  exact ⟨rfl, HE.out⟩

theorem Rowed.parts {B : Nat} {W : World} {v : Value} {ps : List (List UInt8)} (h : Rowed V8 22 B W v ps) (hp : 0 < ps.length) : Hm.Parts W v ps := by
  obtain ⟨vs, ho, hl, hw⟩ := h
  obtain ⟨g, cap, e, hB, hg, hs⟩ := ho.form (by omega)
  refine ⟨_, cap, vs, by rw [e, hl], ⟨hl, fun j u p hu hq => ?_⟩, fun _ => ⟨g, 0, rfl, hg, hs⟩⟩
  obtain ⟨b, o, c, e1, hc, hlt, _, hs1⟩ := hw j u p hu hq
  exact .inr ⟨b, o, c, e1, hlt, hc, hs1⟩

set_option maxRecDepth 100000 in
set_option maxHeartbeats 1000000 in
theorem RMNode_any (pm : Value) (key : List UInt8) (four : List (List UInt8)) (h4 : four.length = 4) (hs : ∀ t ∈ four, t.length ≤ 1000) (b o cap : Nat) (w : World) (hb : b < w.heap.size) (hse : Sees w b o (four.map VS)) (hK : Hm.KeyAt w pm key) :
    Calls Tryd.prog 43 #[pm, .slice (some ⟨b, o, none⟩) 4 cap] w fun e w' => e = .returned (VS (node key four)) ∧ Below w.heap.size w w' := by
  obtain ⟨gm, rb, rc, cb, cc, rfl, hin⟩ := hK.named
  have HK := Lib.hid hK
  have H4 := Lib.hid h4
  have HS := Lib.hid hs
  have HSe := Lib.hid hse
  have hc1 := Joins.run_convert_bytes_const_at (P := Tryd.prog) w 22 5 #[.int .u8 110, .int .u8 111, .int .u8 100, .int .u8 101] 4 4 w.heap.size rfl Tryd.underlying22 Tryd.underlying5
  obtain ⟨w1, hw1⟩ : ∃ w1, w1 = w.alloc (.cells #[.int .u8 110, .int .u8 111, .int .u8 100, .int .u8 101] 5 (4, 5)) := ⟨_, rfl⟩
  have hsz1 : w1.heap.size = w.heap.size + 1 := by rw [hw1]; simp
  have hsee1 : Sees w1 w.heap.size 0 (nodeW.map V8) := fun j u hu => by
    rw [hw1, Nat.zero_add]
    refine (Joins.cell_alloc_mark_at w _ _ _ _ j rfl).trans ?_
    rw [List.getElem?_toArray]
    exact hu
  obtain ⟨w2, hw2⟩ : ∃ w2, w2 = w1.alloc (.cells #[.slice (some ⟨w.heap.size, 0, none⟩) 4 4] 22) := ⟨_, rfl⟩
  have HB2 : Hid (Below w.heap.size w w2) := by rw [hw2, hw1]; exact ((Below.refl _ _).alloc (Nat.le_refl _) _).alloc (by simp) _
  have HR2 : Hid (Rowed V8 22 w.heap.size w2 (.slice (some ⟨w.heap.size + 1, 0, none⟩) 1 1) (nodeW :: four.take 0)) := by
    have ho : Own w2 w.heap.size 22 (.slice (some ⟨w.heap.size + 1, 0, none⟩) 1 1) [.slice (some ⟨w.heap.size, 0, none⟩) 4 4] := by
      rw [hw2, ← hsz1]; exact Own.lit w1 w.heap.size 22 [.slice (some ⟨w.heap.size, 0, none⟩) 4 4] (by omega) (by simp)
    refine ⟨_, ho, rfl, fun j u p hu hp => ?_⟩
    match j with
    | 0 =>
      simp only [List.getElem?_cons_zero, Option.some.injEq] at hu hp
      subst hu hp
      exact ⟨w.heap.size, 0, 4, rfl, by decide, by rw [hw2]; simp; omega, by show some _ ≠ some _; simp, by rw [hw2]; exact hsee1.alloc (by omega) _⟩
    | j + 1 => simp at hu
  clear hin hs hse h4 hK hsee1 hsz1
  go_enter Tryd.func43, Tryd.ntmps43
  go_wp2
  rw [← hw1, ← hw2]
  clear hc1 hw1 hw2
  go_loopw [5, 6] (fun v i wr => ∃ k : Nat, k ≤ 4 ∧ i = .int .i64 k ∧ Hid (Rowed V8 22 w.heap.size wr v (nodeW :: four.take k)) ∧ Hid (Below w.heap.size w wr)) (fun _ i _ => 4 - (intOf i).toNat)
  case atStart => exact ⟨0, by omega, rfl, HR2, HB2⟩
  case round =>
    obtain ⟨k, hk, rfl, HR, HB⟩ := hrel
    clear HR2 HB2
    have hszr := HB.out.size
    by_cases hlt : k < 4
    · obtain ⟨t, ht⟩ : ∃ t, four[k]? = some t := ⟨_, List.getElem?_eq_getElem (by rw [H4.out]; exact hlt)⟩
      have hx : wr.cell? ⟨b, o + k, none⟩ = some (.string (strB t)) := ((HSe.out.below HB.out hb).at_ (by rw [List.getElem?_map, ht]; rfl))
      have Htl : Hid (t.length ≤ 1000) := HS.out t (List.mem_of_getElem? ht)
      have Htk : Hid (four.take (k + 1) = four.take k ++ [t]) := by
        show _ = _
        rw [take_snoc four k (by rw [H4.out]; exact hlt) [], List.getD_eq_getElem?_getD, ht]; rfl
      clear ht
      obtain ⟨cp, W, hcv, hsee, hlw, hbel, hcap⟩ := conv_new t wr
      have HSn := Lib.hid hsee
      have hal := Joins.below_alloc1 W (.cells #[.slice (some ⟨wr.heap.size, 0, none⟩) t.length cp] 22)
      have HBl : Hid (Below wr.heap.size wr (W.alloc (.cells #[.slice (some ⟨wr.heap.size, 0, none⟩) t.length cp] 22))) := hbel.trans (hal.mono hbel.size)
      have HRb : Hid (Rowed V8 22 w.heap.size (W.alloc (.cells #[.slice (some ⟨wr.heap.size, 0, none⟩) t.length cp] 22)) u5 (nodeW :: four.take k)) := HR.out.below HBl.out
      have HSo : Hid (Sees (W.alloc (.cells #[.slice (some ⟨wr.heap.size, 0, none⟩) t.length cp] 22)) W.heap.size 0 [.slice (some ⟨wr.heap.size, 0, none⟩) t.length cp]) := (Row.new W 22 [.slice (some ⟨wr.heap.size, 0, none⟩) t.length cp]).sees
      have HSt : Hid (Sees (W.alloc (.cells #[.slice (some ⟨wr.heap.size, 0, none⟩) t.length cp] 22)) wr.heap.size 0 (t.map V8)) := hsee.below hal hlw
      have Hne : Hid (u5.ownBlock ≠ some wr.heap.size) := by
        obtain ⟨vs, ho, _⟩ := HR.out
        intro h
        have := (ho.lt h).2
        omega
      have Hln : Hid ((nodeW :: four.take k).length ≤ 1000) := by show _ ≤ _; rw [List.length_cons, List.length_take]; omega
      have Hlt1 : Hid (W.heap.size < (W.alloc (.cells #[.slice (some ⟨wr.heap.size, 0, none⟩) t.length cp] 22)).heap.size) := by show _ < _; simp
      have Hlt2 : Hid (wr.heap.size < (W.alloc (.cells #[.slice (some ⟨wr.heap.size, 0, none⟩) t.length cp] 22)).heap.size) := by show _ < _; simp; omega
      have Hlt3 : Hid (w.heap.size ≤ (W.alloc (.cells #[.slice (some ⟨wr.heap.size, 0, none⟩) t.length cp] 22)).heap.size) := by show _ ≤ _; simp; omega
      clear hsee hal hbel
      go_wp2_with (at_builtin; refine wpList_rowed rfl (.tmp 14) (.tmp 20) 114 rfl Tryd.underlying114 infoS _ rfl HRb.out W.heap.size 1 rfl Hlt1.out HSo.out Hlt2.out Hne.out hcap HSt.out Hln.out Hlt3.out ?_; intro v' w' HR' hg' _)
      go_roundw
      case rel =>
        refine ⟨k + 1, by omega, by go_num, ?_, ?_⟩
        · show Rowed _ _ _ _ _ _
          rw [Htk.out, ← List.cons_append]; exact HR'.out
        · obtain ⟨vs, ho, _⟩ := HRb.out
          exact below_app (HB.out.trans (HBl.out.mono hszr)) ho hg' (Nat.le_refl _) Hlt3.out
      case measure => simp [intOf]; omega
    · obtain rfl : k = 4 := by omega
      have e4 : four.take 4 = four := List.take_of_length_le (by rw [H4.out]; omega)
      rw [e4] at HR
      clear e4
      obtain ⟨J, HJ⟩ : ∃ J, Hid (J = nodeW :: four) := ⟨_, rfl⟩
      have HSm : Hid (Hm.Small J) := by
        show Hm.Small _
        rw [HJ.out]
        refine ⟨by rw [List.length_cons, H4.out]; omega, fun t ht => ?_⟩
        rcases List.mem_cons.1 ht with rfl | ht
        · decide
        · exact HS.out t ht
      have HJl : Hid (J.length = 5) := by show _ = _; rw [HJ.out, List.length_cons, H4.out]
      rw [← HJ.out] at HR
      have HP : Hid (Hm.Parts wr u5 J) := HR.out.parts (by rw [HJl.out]; omega)
      obtain ⟨vs, ho, hvl, _⟩ := HR.out
      obtain ⟨A, c, rfl⟩ := own_shape ho
      have HKr : Hid (Hm.KeyAt wr (.pointer (some ⟨gm, 0, none⟩)) key) := HK.out.below HB.out
      clear ho hvl
      go_wp2_with fail
      refine (Hm.Joined_any A _ c J HSm.out wr HP.out).mono ?_
      rintro e w3 ⟨jv, rfl, hown, hb3⟩
      have HJv : Hid (Arg w3 jv (Hm.joined J)) := hm_arg.1 (Hm.Own.arg hown)
      have HK3 := Lib.hid (HKr.out.below hb3)
      have HB3 := Lib.hid (HB.out.trans (hb3.mono HB.out.size))
      clear hown hb3 HR HP HKr HB HSe HK
      go_wp2_with fail
      refine (Hm.KSum_any _ key _ (Hm.joined J) (by have := HSm.out.joined; omega) w3 HK3.out HJv.out).mono ?_
      rintro e w4 ⟨kv, rfl, hown, hb4⟩
      have hcv := conv_arg (hm_arg.1 (Hm.Own.arg hown))
      have HB4 := Lib.hid (HB3.out.trans (hb4.mono HB3.out.size))
      clear hown hb4
      go_wp2
      go_ret
      refine ⟨?_, HB4.out⟩
      rw [VS, node, ← HJ.out]
      rfl
end Go.Proofs.YtepbnimheedodaaDoor
