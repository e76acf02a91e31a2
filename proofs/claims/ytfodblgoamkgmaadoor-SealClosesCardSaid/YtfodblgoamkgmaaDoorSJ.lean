/-
  THE WALKS of the reference's Of and Derive: where the keys lie.
-/
import Derived.Test.YtfodblgoamkgmaaDoorSB
import Derived.Test.YtfodblgoamkgmaaDoorCP
namespace Go.Proofs.YtfodblgoamkgmaaDoor
open Go.RowKit Aes Ctr Sl

/-- The reference's keys: their bytes, and the two keys that are made of them. -/
def MKeyAt (W : World) (p : Nat) (ek mk : List UInt8) : Prop :=
  ∃ va vb pe pm, p < W.heap.size ∧ Sees W p 0 [va, vb, .pointer (some ⟨pe, 0, none⟩), pm] ∧ Arg W va ek ∧ Arg W vb mk ∧ KeyAt W pe ek ∧ Hm.KeyAt W pm mk
theorem MKeyAt.below {W W' : World} {p : Nat} {ek mk : List UInt8} (h : MKeyAt W p ek mk) (hb : Below W.heap.size W W') : MKeyAt W' p ek mk := by
  obtain ⟨va, vb, pe, pm, h1, h2, h3, h4, h5, h6⟩ := h
  have := hb.size
  exact ⟨va, vb, pe, pm, by omega, h2.below hb h1, h3.below hb, h4.below hb, h5.below hb, h6.below hb⟩

set_option maxRecDepth 100000 in
set_option maxHeartbeats 400000 in
theorem RSOf_any (ek mk : List UInt8) (hek : ek.length = 16) (hmk : mk.length ≤ 1000000) (kb kc : Nat) (hkc : 16 ≤ kc) (u : Value) (w : World) (h : Arg w (.slice (some ⟨kb, 0, none⟩) 16 kc) ek) (hu : Arg w u mk) :
    Calls Tryd.prog 13 #[.slice (some ⟨kb, 0, none⟩) 16 kc, u] w fun e w' => ∃ p, e = .returned (.pointer (some ⟨p, 0, none⟩)) ∧ Hid (MKeyAt w' p ek mk) ∧ Below w.heap.size w w' := by
  obtain ⟨A, cap, rfl⟩ := hu.form
  obtain ⟨m, hm⟩ : ∃ m, m = mk.length := ⟨_, rfl⟩
  rw [← hm] at hu ⊢
  have HMl := Lib.hid hmk
  have HEl := Lib.hid hek
  have HU := Lib.hid hu
  have HE := Lib.hid h
  have HS : Hid (kb < w.heap.size ∧ Sees w kb 0 (ek.map V8)) := by
    rcases h with ⟨A', e, hn⟩ | ⟨b', o', c', e, hb, hc, hs⟩
    · rw [hn] at hek; exact absurd hek (by decide)
    · injection e with e1 _ _
      injection e1 with e1
      injection e1 with e1 e2 _
      subst e1 e2
      exact ⟨hb, hs⟩
  clear hm hmk hek hu h
  go_enter Tryd.func13, Tryd.ntmps13
  go_wp2_with fail
  refine (RNew_any kb ek HEl.out w HS.out.1 HS.out.2 kc hkc).mono ?_
  rintro e w1 ⟨pe, rfl, HK1, hb1⟩
  have HU1 := Lib.hid (HU.out.below hb1)
  have HE1 := Lib.hid (HE.out.below hb1)
  go_wp2_with fail
  refine (Hm.New_any _ mk HMl.out w1 HU1.out).mono ?_
  rintro e w2 ⟨pm, rfl, hk2, hb2⟩
  obtain ⟨g, rb, rc, cb, cc, rfl, hin⟩ := hk2.named
  have HM2 := Lib.hid hk2
  have HK2 := Lib.hid (HK1.out.below hb2)
  have HU2 := Lib.hid (HU1.out.below hb2)
  have HE2 := Lib.hid (HE1.out.below hb2)
  have HB2 := Lib.hid (hb1.trans (hb2.mono hb1.size))
  clear hin hk2 HK1 HU1 HE1 HU HE HS hb1 hb2
  go_wp2
  go_ret
  have hal := Joins.below_alloc1 w2 (.cells #[.slice (some ⟨kb, 0, none⟩) 16 kc, .slice A m cap, .pointer (some ⟨pe, 0, none⟩), .pointer (some ⟨g, 0, none⟩)] 36)
  exact ⟨_, rfl, ⟨_, _, pe, _, by simp, (Row.new w2 36 [.slice (some ⟨kb, 0, none⟩) 16 kc, .slice A m cap, .pointer (some ⟨pe, 0, none⟩), .pointer (some ⟨g, 0, none⟩)]).sees, HE2.out.below hal, HU2.out.below hal, HK2.out.below hal, HM2.out.below hal⟩, HB2.out.trans (hal.mono HB2.out.size)⟩
end Go.Proofs.YtfodblgoamkgmaaDoor
