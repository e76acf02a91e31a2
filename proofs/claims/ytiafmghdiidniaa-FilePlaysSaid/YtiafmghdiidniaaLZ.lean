/-
  THE CONTRACTS of the program's files, all of them.
-/
import Derived.Test.YtiafmghdiidniaaLZV
import Derived.Test.YtiafmghdiidniaaLZY
namespace Go.Proofs.Ytiafmghdiidniaa
open Go.RowKit Cdc Inn Fil

theorem FileC.six (bl : List (List UInt8)) (h : Sixty bl) (i : Nat) (hi : i < bl.length) : (blk bl i).length = 64 := by
  unfold Fil.blk
  rw [List.getD_eq_getElem?_getD, List.getElem?_eq_getElem hi]
  exact h _ (List.getElem_mem hi)
theorem fileAll : FileC StL where
  lt := fun ⟨_, _, _, _, h⟩ => h.lt
  sixty := fun ⟨_, _, _, _, h⟩ => h.sixty
  few := fun ⟨_, _, _, _, h⟩ => h.few
  stay := @fun w F m bl w2 X ⟨R, c, vs, gs, h⟩ hc hn => ⟨R, c, vs, gs, h.stay hc hn⟩
  may := fun g w hg => FiMay_any g w hg
  first := fun g w hg => by
    obtain ⟨g1, g2, g3, g4, g5⟩ := gmay_iff.1 hg
    exact FiFirst_any g.n g.k ⟨by omega, by omega⟩ (by omega) w
  newBad := fun g w hg hm => FiNewMem_bad g w hg hm
  newOk := fun g w hm => FiNewMem_ok g w hm
  mread := @fun w F m bl ⟨R, c, vs, gs, h⟩ i hi => by
    refine (FiMRead_in h i hi).mono ?_
    rintro e w' ⟨v, q, rfl, hB, hq, hw⟩
    obtain ⟨cc, rfl, hc⟩ := hB.out.val
    refine ⟨_, rfl, Lib.hid ?_, hw⟩
    have hl := hB.out.len
    exact .inr ⟨q, 0, cc, by rw [hl], hq, hB.out.lt, by rw [hl]; exact hc, fun j u hu => hB.out.here.1 j u hu⟩
  mwrite := @fun w F m bl ⟨R, c, vs, gs, h⟩ i v b hi hb hv _ => by
    by_cases hlt : i < bl.length
    · refine (FiMWrite_in h i hlt v b hb hv).mono ?_
      rintro e w' ⟨rfl, hM, hC⟩
      refine ⟨0, bl.set i b, rfl, hM.sixty, by rw [List.length_set], F, ⟨R, c, vs, gs, hM⟩, (fun k hk => .inl hk), hC.mono ?_⟩
      rintro k o _ hk
      subst hk
      exact (h.set _).2 (.inr (.inr ⟨i, hlt, rfl⟩))
    · refine (FiMWrite_out h i ⟨by omega, by omega⟩ (by omega) v).mono ?_
      rintro e w' ⟨rfl, rfl⟩
      exact ⟨1, bl, rfl, h.sixty, rfl, F, ⟨R, c, vs, gs, h⟩, (fun k hk => .inl hk), Chg.refl _ _⟩
  leftNil := fun g w hg => FiLeft_nil g w hg
  left := @fun w F m bl ⟨R, c, vs, gs, h⟩ g hg => by
    refine (FiLeft_any h g hg).mono ?_
    rintro e w' ⟨n, q, rfl, hP, hB⟩
    exact ⟨n, q, rfl, left_does (h.blk 0 h.pos).len hP, hB⟩
  read := @fun w F m bl ⟨R, c, vs, gs, h⟩ x off n hx ho hn => by
    refine (FiRead_run h x off n hx ho hn).mono ?_
    rintro e w' ⟨v, bs, q, rfl, hP, hA, hB⟩
    exact ⟨v, bs, q, rfl, read_does h.few hP, hA, hB⟩
  resize := @fun w F m bl ⟨R, c, vs, gs, h⟩ g x z hg hx hz => by
    refine (FiResize_run h g x z hg hx hz).mono ?_
    rintro e w' ⟨r, q, bl', rfl, hP, hM, hC⟩
    exact ⟨r, q, bl', rfl, resize_does hx (FileC.six bl h.sixty) hM.sixty hP, F, ⟨R, c, vs, gs, hM⟩, (fun k hk => .inl hk), hC⟩
  write := @fun w F m bl ⟨R, c, vs, gs, h⟩ g x off v b hg hx ho hb hv _ => by
    refine (FiWrite_run h g x off v b hg hx ho hb hv).mono ?_
    rintro e w' ⟨r, q, bl', rfl, hP, hM, hC⟩
    exact ⟨r, q, bl', rfl, write_does hx (FileC.six bl h.sixty) hM.sixty hP, F, ⟨R, c, vs, gs, hM⟩, (fun k hk => .inl hk), hC⟩
end Go.Proofs.Ytiafmghdiidniaa
