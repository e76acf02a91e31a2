/-
  THE WALKS of the program's Write, Read.
-/
import Derived.Test.YtkghppobefllkaaDE
import Derived.Test.YtkghppobefllkaaKA
import Derived.Laws.Cover3
import Derived.Laws.IdiomArrays
namespace Go.Proofs.Ytkghppobefllkaa
open Go.RowKit Dsk

theorem sees_range {w : World} {b o : Nat} {cs : List Value} (h : Sees w b o cs) : w.rangeAt b o cs := h
theorem cells_cur {b : Blk} (h : b.ok) : (b.cur.map V8).length = 72 := V8_length _ 72 h.cur
theorem Blk.cur_clean {b : Blk} (h : b.dirty = false) : b.cur = b.dur := by
  unfold Blk.cur
  cases hw : b.wr with
  | none => rfl
  | some c => unfold Blk.dirty at h; rw [hw] at h; cases h

set_option maxRecDepth 100000 in
set_option maxHeartbeats 1000000 in
theorem DWrite_any {w : World} {F : Nat → Prop} {D : Nat} {L : List Blk} (h : DiskAt w F D L) (i : Int) (v : Value) (bs : List UInt8) (hv : Arg w v bs) :
    Calls Try.prog 9 #[.pointer (some ⟨D, 0, none⟩), .int .i64 i, v] w fun e w' => e = .returned (.int .i64 (errI (okW L i bs))) ∧ After w F w' D (writeL L i bs) := by
  have HA0 := Lib.hid h.after
  obtain ⟨g, ps, hD⟩ := h
  obtain ⟨A, cap, rfl⟩ := hv.form
  have HV := Lib.hid hv
  clear hv
  cases hg : getB L i with
  | none =>
    have Hok : Hid (okW L i bs = false) := by show _ = _; rw [okW, hg]; rfl
    have Hw : Hid (writeL L i bs = L) := by show _ = _; rw [writeL, Hok.out]; rfl
    have HAt := Lib.hid (Dat_out hD i (getB_none hg))
    rw [Hok.out, Hw.out]
    generalize bs.length = n at *
    clear hD hg Hok Hw HV
    go_enter Try.func9, Try.ntmps9
    go_wp2_with fail
    refine HAt.out.mono ?_
    rintro e w1 ⟨rfl, rfl⟩
    go_wp2
    go_ret
    exact ⟨rfl, HA0.out⟩
  | some b =>
    obtain ⟨i, rfl, hb⟩ := getB_nat hg
    have hi := (List.getElem?_eq_some_iff.1 hb).1
    have HAt := Lib.hid (Dat_in hD i hi)
    by_cases h72 : bs.length = 72
    · have Hok : Hid (okW L i bs = true) := by show _ = _; rw [okW, hg, h72]; rfl
      have Hw : Hid (writeL L i bs = L.set i (b.write bs)) := by show _ = _; rw [writeL, Hok.out, if_pos rfl, upd1_some hb]
      rw [Hok.out, Hw.out]
      have hbok := hD.ok i b hb
      obtain ⟨ad, hA, hsee⟩ := HV.out.src (by omega)
      subst hA
      obtain ⟨sb, so, rfl⟩ : ∃ sb so, ad = ⟨sb, so, none⟩ := by
        rcases HV.out with ⟨A', e, e2⟩ | ⟨b', o', c', e, _⟩
        · rw [e2] at h72; simp at h72
        · injection e with e1 _ _; injection e1 with e1; exact ⟨b', o', e1⟩
      have Hrg : Hid (w.rangeAt sb so (bs.map V8)) := fun j u hu => by have := hsee j u hu; rwa [add_off] at this
      rw [h72]
      have har : (Instr.arrayAt 59 (.slice (some ⟨sb, so, none⟩) 72 cap)).run Try.prog w = .ok (.pointer (some ⟨sb, so, none⟩)) w := run_arrayAt w _ 5 72 _ _ _ Try.underlying59 (Nat.le_refl _)
      have Hi : Hid ((Try.prog.info? 59).map (·.size) = some (bs.map V8).length) := info72 (V8_length _ 72 h72)
      have Hwr := Lib.hid (Dbwrite_any g (i * 145) b.dirty (ps i) (curAt g ps i b).block (curAt g ps i b).off (by unfold curAt; split <;> rfl) (b.cur.map V8) (bs.map V8) (b.past.map V8) w (hD.ptr hb) (hD.cur hb) (hD.past hb) (cells_cur hbok) (V8_length _ 72 hbok.past) (one8 _))
      have HF : Hid (∀ w', Here w' w.heap.size 0 (bs.map V8) → Here w' g (i * 145 + 72) [.pointer (some ⟨w.heap.size, 0, none⟩)] → Here w' g (i * 145 + 73) (b.cur.map V8) → Chg (fun b j => b = g ∧ i * 145 + 72 ≤ j ∧ j < i * 145 + 145) w w' → After w F w' D (L.set i (b.write bs))) := by
        intro w' h1 h2 h3 h4
        refine ⟨fun k => F k ∨ k = w.heap.size, ⟨g, _, hD.one h4 i hb w.heap.size ?_ (Blk.write_ok hbok h72) ?_ ?_ (fun k hk => .inl hk) ?_⟩, fun k hk => ?_, h4.mono ?_⟩
        · rintro k o ⟨rfl, h5, h6⟩; exact .inl ⟨rfl, by omega, by omega⟩
        · show Here w' g (i * 145) (b.dur.map V8 ++ ([.pointer (some ⟨w.heap.size, 0, none⟩)] ++ b.cur.map V8))
          have e1 : (b.dur.map V8).length = 72 := V8_length _ 72 hbok.dur
          refine Here.append ((hD.dur hb).chg h4 fun j hj hs => ?_) ?_
          · rw [e1] at hj; omega
          · rw [e1]; exact h2.append h3
        · intro _; exact ⟨h1, .inr ⟨Nat.le_refl _, .inr rfl⟩⟩
        · rintro k (hk | rfl)
          · exact Nat.lt_of_lt_of_le (hD.lt k hk) h4.size
          · exact h1.lt (by rw [V8_length _ 72 h72]; omega)
        · rcases hk with h | rfl
          · exact .inl h
          · exact .inr (Nat.le_refl _)
        · rintro b' o _ ⟨rfl, _⟩; exact hD.fg
      generalize bs.map V8 = rs at *
      clear hD hg Hok Hw HV hsee HA0 hbok
      go_enter Try.func9, Try.ntmps9
      go_wp2_with fail
      refine HAt.out.mono ?_
      rintro e w1 ⟨rfl, rfl⟩
      clear HAt
      go_wp2_with (refine wpList_load_mid rfl 59 (.tmp 20) rfl sb so rfl rs _ Hrg.out Try.underlying59 rfl Hi.out ?_)
      refine Hwr.out.mono ?_
      rintro e w2 ⟨rfl, h1, h2, h3, h4⟩
      have HE := Lib.hid (HF.out w2 h1 h2 h3 h4)
      clear h1 h2 h3 h4 HF Hwr Hrg Hi
      go_wp2
      go_ret
      exact ⟨rfl, HE.out⟩
    · have Hok : Hid (okW L i bs = false) := by show _ = _; rw [okW, hg, decide_eq_false h72]; rfl
      have Hw : Hid (writeL L i bs = L) := by show _ = _; rw [writeL, Hok.out]; rfl
      rw [Hok.out, Hw.out]
      generalize bs.length = n at *
      clear hD hg Hok Hw HV
      go_enter Try.func9, Try.ntmps9
      go_wp2_with fail
      refine HAt.out.mono ?_
      rintro e w1 ⟨rfl, rfl⟩
      go_wp2
      go_ret
      exact ⟨rfl, HA0.out⟩
end Go.Proofs.Ytkghppobefllkaa
