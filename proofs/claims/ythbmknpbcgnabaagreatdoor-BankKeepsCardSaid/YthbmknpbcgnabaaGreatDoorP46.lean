/-
  OF THE WALK: WF.
-/
import Derived.Test.YthbmknpbcgnabaaGreatDoorP45
namespace Go.Proofs.YthbmknpbcgnabaaGreatDoor
open Go.RowKit Aes Ctr Sl Dsk
namespace Bk
structure St (ek mk : List UInt8) (n : Nat) (s : Bn) (D : List Blk) (want : Nat → List UInt8) : Prop where
  hn : s.n = n
  lies : Lies ek mk D n s.bank s.ep s.tags want
  root : s.root = rootB mk s.tags
  dl : D.length = 2 * n
  b1 : s.bank ≤ 1
def Mid (ek mk : List UInt8) (n : Nat) (s : Bn) (D : List Blk) (want r : Nat → List UInt8) (e j : Nat) : Prop :=
  (j ≤ n + 1 ∧ Com ek mk s D want r ∧ s.at_ = j ∧ s.n = n ∧ s.ep ≤ e ∧ 1 ≤ s.ep) ∨ (j = n + 2 ∧ St ek mk n s D r ∧ s.L = [] ∧ s.ep ≤ e + 1 ∧ 1 ≤ s.ep)
section
variable {ek mk : List UInt8} {n e j : Nat} {s : Bn} {D : List Blk} {want r : Nat → List UInt8}
theorem Com.st (h : Com ek mk s D want r) (hn : s.n = n) : St ek mk n s D want := by subst hn; exact ⟨rfl, h.lies, h.root, h.dlen, h.b1⟩
theorem St.begin_ (h : St ek mk n s D want) (h0 : 0 < n) (r64 : ∀ i, (r i).length = 64) : Com ek mk { s with L := (List.range n).map r, at_ := 0, next := [] } D want r := by
  obtain ⟨rfl, hl, hr, hd, hb⟩ := h
  exact ⟨hl, hr, hb, hd, h0, rfl, fun i _ => r64 i, Nat.zero_le _, (Nat.zero_min _).symm, fun j _ hj => absurd hj (Nat.not_lt_zero _), fun e => absurd (show 0 = s.n + 1 from e) (by omega)⟩
theorem Mid.step (h : Mid ek mk n s D want r e j) (hj : j ≤ n + 1) : (Bk.step ek mk s D).2 = (decide (j = n + 1), 0) ∧ Mid ek mk n (Bk.step ek mk s D).1.1 (Bk.step ek mk s D).1.2 want r e (j + 1) ∧ D.length = 2 * s.n ∧ s.ep ≤ e + 1 ∧ s.n = n := by
  rcases h with ⟨_, hc, ha, hn, he, he1⟩ | ⟨h, _⟩
  · refine ⟨?_, ?_, hc.dlen, by omega, hn⟩
    · rcases Nat.lt_trichotomy s.at_ s.n with h1 | h1 | h1
      · rw [(hc.put h1).1, decide_eq_false (by omega)]
      · rw [(hc.flush h1).1, decide_eq_false (by omega)]
      · have := hc.atn
        rw [(hc.over (by omega)).1, decide_eq_true (by omega)]
    · rcases Nat.lt_trichotomy s.at_ s.n with h1 | h1 | h1
      · rw [(hc.put h1).1]
        exact .inl ⟨by omega, (hc.put h1).2, by show s.at_ + 1 = _; omega, hn, he, he1⟩
      · rw [(hc.flush h1).1]
        exact .inl ⟨by omega, (hc.flush h1).2, by show s.at_ + 1 = _; omega, hn, he, he1⟩
      · have h2 := hc.atn
        rw [(hc.over (by omega)).1]
        have h3 := (hc.over (by omega)).2
        rw [hn] at h3
        refine .inr ⟨by omega, ⟨hn, h3, rfl, by have := hc.dlen; rw [hn] at this; exact this, by show 1 - s.bank ≤ 1; omega⟩, rfl, by show s.ep + 1 ≤ _; omega, by show 1 ≤ s.ep + 1; omega⟩
  · omega
theorem Mid.st (h : Mid ek mk n s D want r e j) : St ek mk n s D (if j = n + 2 then r else want) ∧ (j = n + 2 → s.L = []) ∧ s.ep ≤ e + 1 ∧ 1 ≤ s.ep := by
  rcases h with ⟨hj, hc, ha, hn, he, he1⟩ | ⟨hj, hs, hL, he, he1⟩
  · rw [if_neg (by omega)]
    exact ⟨hc.st hn, fun h => by omega, by omega, he1⟩
  · rw [if_pos hj]
    exact ⟨hs, fun _ => hL, he, he1⟩
theorem crash_len (keep : Nat → Bool) (D : List Blk) : (Dsk.crash keep D).length = D.length := crashTo_length _ _ _
theorem St.crash (h : St ek mk n s D want) (keep : Nat → Bool) : St ek mk n s (Dsk.crash keep D) want :=
  ⟨h.hn, h.lies.crash keep (by have := h.dl; have := Nat.mul_le_mul_right n h.b1; omega), h.root, by rw [crash_len]; exact h.dl, h.b1⟩
end
end Bk
theorem Duo.crash {w0 W : World} {X : Nat → Prop} {P d : Nat} {ek mk : List UInt8} {s : Bk.Bn} {D : List Blk} (h : Duo w0 W X P d ek mk s D) (A : Option Addr) (nk cap : Nat) (bs : List Bool) (hnk : bs.length = nk) (hk : From w0 (.slice A nk cap) (bs.map Value.bool)) :
    Calls Tryz.prog 30 #[PT d, .slice A nk cap] W fun e w' => e = .returned (.tuple #[]) ∧ Duo w0 w' X P d ek mk s (crash (fun n => bs.getD n false) D) ∧ Chg (FrX w0 X) W w' := by
  obtain ⟨F, G, hL, hD, hFG, hF, hG, hX, hb⟩ := h
  have hkW : From W (.slice A nk cap) (bs.map Value.bool) := hk.below hb
  refine (DCrash_any hD A nk cap bs hnk hkW fun b o e hp hg => ?_).mono ?_
  · rcases hk with ⟨A', e', e2⟩ | ⟨b', o', c', e', hl, _⟩
    · have : bs.length = 0 := by have := congrArg List.length e2; simpa using this
      omega
    · injection e' with e1 _ _
      rw [e] at e1
      injection e1 with e1
      injection e1 with e1 _
      have := (hG b hg).1
      omega
  · rintro e w' ⟨rfl, G', hD', hG', hC⟩
    exact ⟨rfl, Duo.after hF hG hX hb ⟨F, G', hL.stay hC fun k _ hf hg => hFG k hf hg, hD', fun k hk hg => (hG' k hg).elim (hFG k hk) fun h => by have := bankAll.lt hL k hk; omega, fun _ hk => .inl hk, hG', hC.mono fun _ _ _ h => .inr h⟩⟩
structure KS (w W : World) (X : Nat → Prop) (P d x0 n : Nat) (ek mk : List UInt8) (ks : List Value) (s : Bk.Bn) (D : List Blk) (v : Value) (wl : List (List UInt8)) : Prop where
  duo : Duo w W X P d ek mk s D
  x0X : X x0
  row : Row W x0 29 ks
  want : PartsOn W X v wl
  wlen : wl.length = n
  w64 : ∀ x ∈ wl, x.length = 64
theorem parts_fr {w0 w w' : World} {X : Nat → Prop} {v : Value} {l : List (List UInt8)} (h : PartsOn w X v l) (hc : Chg (FrX w0 X) w w') : PartsOn w' X v l := h.chg hc fun _ _ hk hs => hs.2 hk
section
variable {w W W' : World} {X : Nat → Prop} {P d x0 n : Nat} {ek mk : List UInt8} {ks : List Value} {s s' : Bk.Bn} {D D' : List Blk} {v : Value} {wl : List (List UInt8)}
theorem KS.stay (h : KS w W X P d x0 n ek mk ks s D v wl) (hb : Below W.heap.size W W') : KS w W' X P d x0 n ek mk ks s D v wl :=
  ⟨h.duo.stay hb, h.x0X, h.row.below hb h.row.lt, h.want.below hb, h.wlen, h.w64⟩
theorem KS.also (h : KS w W X P d x0 n ek mk ks s D v wl) (hb : Below W.heap.size W W') : KS w W' (fun k => X k ∨ (W.heap.size ≤ k ∧ k < W'.heap.size)) P d x0 n ek mk ks s D v wl :=
  ⟨h.duo.also hb _ fun _ hk => hk, .inl h.x0X, h.row.below hb h.row.lt, (h.want.below hb).imp fun _ hk _ => .inl hk, h.wlen, h.w64⟩
theorem KS.fr (h : KS w W X P d x0 n ek mk ks s D v wl) (hd : Duo w W' X P d ek mk s' D') (hc : Chg (FrX w X) W W') : KS w W' X P d x0 n ek mk ks s' D' v wl :=
  ⟨hd, h.x0X, row_fr h.row hc h.x0X, parts_fr h.want hc, h.wlen, h.w64⟩
theorem KS.below (h : KS w W X P d x0 n ek mk ks s D v wl) : Below w.heap.size w W := h.duo.below
end
structure Parts3 (w : World) (A : Option Addr) (m : Nat) (ll : List (List (List UInt8))) : Prop where
  len : ll.length = m
  at_ : 0 < m → ∃ b o, A = some ⟨b, o, none⟩ ∧ b < w.heap.size ∧ ∀ i, i < m → ∃ A' c, w.cell? ⟨b, o + i, none⟩ = some (.slice A' (ll.getD i []).length c) ∧ PartsOn w (fun k => k < w.heap.size) (.slice A' (ll.getD i []).length c) (ll.getD i [])
set_option maxRecDepth 100000 in
set_option maxHeartbeats 16000000 in
theorem JKeeps_short {w : World} {vs : Value} {sec : List UInt8} {n : Nat} {A2 : Option Addr} {m c2 : Nat} {ll : List (List (List UInt8))} {st : Nat} {A4 : Option Addr} {nk c4 : Nat} {bs : List Bool}
    (hs : Arg w vs sec) (hsl : sec.length ≤ 100) (hn : 8 ≤ n ∧ n ≤ 20) (hP : Parts3 w A2 m ll) (hm : m ≤ 6) (hst : st < 256) (hk : From w (.slice A4 nk c4) (bs.map Value.bool)) (hnk : bs.length = nk) (hnk2 : nk ≤ 100) (hT : Hm.Tab w) :
    Calls Tryz.prog 5 #[vs, IV n, .slice A2 m c2, .int .u8 (st : Int), .slice A4 nk c4] w fun e w' => e = .returned (.bool true) ∧ Below w.heap.size w w' := by
  obtain ⟨A0, c0, rfl⟩ := hs.form
  have HDr := Lib.hid (SDerive_any sec (by omega) _ w hT hs)
  have HDN := Lib.hid (fun W => DNew_any (2 * n) (by omega) (by omega) W)
  have HKn : Hid (∀ W, Below w.heap.size w W → Calls Tryz.prog 6 #[] W fun e w' => e = .returned (.bool true) ∧ Below w.heap.size w w') := fun W hW => (Jknows_any W (hT.stay hT.1 hW)).mono fun e w' ⟨he, hb⟩ => ⟨he, hW.trans (hb.mono hW.size)⟩
  have HKp : Hid (From w (.slice A4 nk c4) (bs.map Value.bool) ∧ bs.length = nk) := ⟨hk, hnk⟩
  have HPl := Lib.hid hP
  have HT := Lib.hid hT
  have Hst := Lib.hid hst
  obtain ⟨sl, hsl2⟩ : ∃ x, x = sec.length := ⟨_, rfl⟩
  rw [← hsl2] at hsl HDr ⊢
  have hn8 := hn.1
  have hn20 := hn.2
  have h2n : IntKind.i64.wrap (2 * (n : Int)) = ((2 * n : Nat) : Int) := by rw [IntWalk.i64_in _ (by omega)]; simp
  obtain ⟨n2, hn2⟩ : ∃ x, x = 2 * n := ⟨_, rfl⟩
  rw [← hn2] at HDN h2n
  have HN2 := Lib.hid hn2
  have hzk := zeroSk w
  clear hs hP hk hnk hT hst hn hsl2 hn2
  go_enter Tryz.func5, Tryz.ntmps5
  go_wp2_with fail
  refine HDr.out.mono ?_
  rintro e w1 ⟨ks, Hks, rfl, hb1⟩
  have hkk : KeysV (encK sec) (macK sec) ks := Hks.out
  generalize encK sec = ek at *
  generalize macK sec = mk at *
  have HK := Lib.hid hkk
  have Hk48 : Hid (ks.toArray.size = 48) := hkk.size
  have Hone : Hid (ks.toArray.all (·.oneCell') = true) := hkk.vec.one
  obtain ⟨x0, hx0⟩ : ∃ x, x = w1.heap.size := ⟨_, rfl⟩
  obtain ⟨w2, hw2⟩ : ∃ W, W = w1.alloc (.cells Z48.toArray 29) := ⟨_, rfl⟩
  have HZ2 : Hid (Row w2 x0 29 Z48) := by rw [hw2, hx0]; exact Row.new w1 29 Z48
  have hB2 : Below w1.heap.size w1 w2 := by rw [hw2]; exact (Below.refl _ _).alloc (Nat.le_refl _) _
  obtain ⟨w3, hw3⟩ : ∃ W, W = w2.setRow x0 ks.toArray := ⟨_, rfl⟩
  have HX3 : Hid (Row w3 x0 29 ks) := by rw [hw3]; exact HZ2.out.whole ks
  have hB3 : Below w1.heap.size w1 w3 := by rw [hw3]; exact below_setRow' hB2 (by omega) _
  have HB3 : Hid (Below w.heap.size w w3) := hb1.trans (hB3.mono hb1.size)
  have Hx0w : Hid (w.heap.size ≤ x0) := by have := hb1.size; show _ ≤ _; omega
  have Hx0e := Lib.hid hx0
  have hzk1 := zeroSk w1
  have HDN3 := Lib.hid (HDN.out w3)
  clear hkk Hks hb1 hB2 hB3 HDr hx0 HDN hzk
  go_wp2_with (first
    | (rw [← hw2, ← Hx0e.out]; clear hw2 hzk1; refine wpList_store_row rfl 29 (.tmp 11) (.tmp 52) rfl x0 ks.toArray rfl rfl 29 _ HZ2.out (by rw [Hk48.out]; kernel_rfl) (by rw [Hk48.out]; rfl) Hone.out ?_; rw [← hw3]; clear hw3))
  refine HDN3.out.mono ?_
  rintro e w4 ⟨d, G, rfl, hD, hG, hb4⟩
  have HX4 := Lib.hid (HX3.out.below hb4 HX3.out.lt)
  have HB4 := Lib.hid (HB3.out.trans (hb4.mono HB3.out.size))
  have hx3 := HX3.out.lt
  have hs3 := HB3.out.size
  have HF := Lib.hid (Duo.format (w0 := w) (X := fun k => k = x0) ek mk ks n hD (fun k hk => ⟨by have := hG k hk; omega, fun e => by have := hG k hk; omega⟩) (fun k e => by rw [e]; exact HX4.out.lt) HB4.out HK.out (by omega) (by rw [List.length_replicate]; exact HN2.out) HT.out)
  obtain ⟨tags, D1, hfe, hl1, hLi, hr32⟩ := Bk.format_ex (ek := ek) (mk := mk) (n := n) (D := List.replicate n2 Blk.zero) (by rw [List.length_replicate]; exact HN2.out) (by omega)
  rw [hfe] at HF
  obtain ⟨s, hs⟩ : ∃ s : Bk.Bn, s = ⟨n, 1, 0, Bk.rootB mk tags, tags, [], 0, []⟩ := ⟨_, rfl⟩
  rw [← hs] at HF
  have HS : Hid (Bk.St ek mk n s D1 (fun _ => Bk.z64) ∧ s.L = [] ∧ s.ep = 1) := by rw [hs]; exact ⟨⟨rfl, hLi, rfl, hl1, by show 0 ≤ 1; omega⟩, rfl, rfl⟩
  clear hD hG hb4 hx3 hs3 hfe hl1 hLi hr32 hs HX3 HB3 HDN3 HZ2
  go_wp2_with (first
    | (refine wpList_load_row rfl 29 (.tmp 11) rfl x0 rfl 29 ks.toArray (0, 0) _ HX4.out Tryz.underlying29 rfl (by rw [Hk48.out]; kernel_rfl) ?_))
  refine HF.out.mono ?_
  rintro e w5 ⟨P, rfl, hd5, hc5⟩
  have HX5 := Lib.hid (row_fr HX4.out hc5 rfl)
  have HD5 := Lib.hid hd5
  have HRw := Lib.hid (Jrow_any (w := w5) (K := fun _ => False) (v := .slice none 0 0) (l := []) n (by omega) (.inl ⟨none, 0, rfl, rfl⟩) (by simp))
  clear hd5 hc5 HF HX4 HB4 h2n
  go_wp2_with fail
  refine HRw.out.mono ?_
  rintro e w6 ⟨⟨r0, rfl, HR0⟩, hb6⟩
  have HK6 : Hid (∃ X, KS w w6 X P d x0 n ek mk ks s D1 r0 (Bk.rowL n [])) := by
    refine ⟨fun k => k = x0 ∨ (w5.heap.size ≤ k ∧ k < w6.heap.size), HD5.out.also hb6 _ fun _ hk => hk, .inl rfl, HX5.out.below hb6 HX5.out.lt, (HR0.out.partsOn (Nat.le_refl _)).imp fun k hk hl => .inr ⟨hk, hl⟩, Bk.rowL_length _ _, Bk.rowL_64 _ _⟩
  have hpp := HR0.out.partsOn (Nat.le_refl _)
  obtain ⟨Ar, cr, hr0⟩ := hpp.form
  rw [Bk.rowL_length] at hr0
  subst hr0
  have HS0 : Hid (Bk.St ek mk n s D1 (fun i => (Bk.rowL n []).getD i []) ∧ s.L = [] ∧ s.ep = 1) := by
    refine ⟨⟨HS.out.1.hn, ⟨HS.out.1.lies.clean, fun i hi => ?_, fun i hi => ?_, HS.out.1.lies.tlen⟩, HS.out.1.root, HS.out.1.dl, HS.out.1.b1⟩, HS.out.2⟩
    · rw [Bk.rowL_get n [] i hi]; exact HS.out.1.lies.cur i hi
    · rw [Bk.rowL_get n [] i hi]; exact HS.out.1.lies.tag i hi
  clear hb6 HR0 HRw HD5 HX5 HS hpp
  go_wp2
  go_loopw [16, 17, 18, 19, 20, 21, 22] (fun v i _ _ _ _ _ wr => ∃ (k : Nat) (A : Option Addr) (c : Nat) (X : Nat → Prop) (s : Bk.Bn) (D : List Blk) (wl : List (List UInt8)), k ≤ m ∧ i = .int .i64 k ∧ v = .slice A n c ∧ Hid (KS w wr X P d x0 n ek mk ks s D (.slice A n c) wl ∧ Bk.St ek mk n s D (fun i => wl.getD i []) ∧ (k < m → s.L = []) ∧ s.ep ≤ k + 1 ∧ 1 ≤ s.ep)) (fun _ i _ _ _ _ _ _ => m - (RowKit.intOf i).toNat)
  case atStart =>
    obtain ⟨X, hX⟩ := HK6.out
    exact ⟨0, Ar, cr, X, s, D1, _, by omega, rfl, rfl, hX, HS0.out.1, fun _ => HS0.out.2.1, by have := HS0.out.2.2; omega, by have := HS0.out.2.2; omega⟩
  case round =>
    obtain ⟨k, A, c, X, s, D, wl, hkm, rfl, rfl, HJ⟩ := hrel
    clear HK6 HS0
    by_cases hlt : k < m
    · obtain ⟨bb, oo, rfl, hbl, hcell⟩ := HPl.out.at_ (by omega)
      obtain ⟨A1, c1, hc1, hp1⟩ := hcell k hlt
      have hbel := HJ.out.1.below
      have hc3 : wr.cell? ⟨bb, oo + k, none⟩ = _ := (World.cell?_of_block (w := w) (hbel.block bb hbl)).trans hc1
      have HP1 : Hid (PartsOn wr (fun k => k < w.heap.size) (.slice A1 (ll.getD k []).length c1) (ll.getD k [])) := hp1.chg (Chg.below hbel fun _ _ => False) fun _ _ _ x => x
      generalize ll.getD k [] = lk at *
      obtain ⟨nl, hnl⟩ : ∃ x, x = lk.length := ⟨_, rfl⟩
      rw [← hnl] at hc1 hc3 HP1
      have HNl := Lib.hid hnl
      clear hcell hc1 hp1 hbel hnl
      by_cases hbig : 30 < nl
      · have HK0 := Lib.hid (HKn.out wr HJ.out.1.below)
        clear HKn HJ HP1 HPl
        go_wp2_with fail
        refine HK0.out.mono ?_
        rintro e w' ⟨rfl, hb⟩
        go_wp2
        go_ret
        exact ⟨rfl, hb⟩
      · have HRk := Lib.hid (Jrow_any (w := wr) n (by omega) HP1.out (by rw [← HNl.out]; omega))
        go_wp2_with fail
        refine HRk.out.mono ?_
        rintro e w7 ⟨⟨r, rfl, HR7⟩, hb7⟩
        have hpp := HR7.out.partsOn (Nat.le_refl _)
        obtain ⟨Ar, cr, hr⟩ := hpp.form
        rw [Bk.rowL_length] at hr
        subst hr
        obtain ⟨X7, hX7⟩ : ∃ Y : Nat → Prop, Y = fun k => X k ∨ (wr.heap.size ≤ k ∧ k < w7.heap.size) := ⟨_, rfl⟩
        have HK7 : Hid (KS w w7 X7 P d x0 n ek mk ks s D (.slice A n c) wl ∧ PartsOn w7 X7 (.slice Ar n cr) (Bk.rowL n lk)) := by
          rw [hX7]
          exact ⟨HJ.out.1.also hb7, hpp.imp fun k hk hl => .inr ⟨hk, hl⟩⟩
        have hLn := HJ.out.2.2.1 hlt
        have hsn := HJ.out.2.1.hn
        have hbg : Bk.begin_ s (Bk.rowL n lk) = ({ s with L := Bk.rowL n lk, at_ := 0, next := [] }, 0) := by
          unfold Bk.begin_
          rw [if_neg (fun h => h hLn), if_pos ⟨Bk.rowL_64 n lk, by rw [Bk.rowL_length, hsn]⟩]
        have HBg := Lib.hid (HK7.out.1.duo.begin_ HT.out HK7.out.2 (by have := HJ.out.2.2.2.1; omega) (by rw [Bk.rowL_length]; omega))
        rw [hbg] at HBg
        have HMd : Hid (Bk.Mid ek mk n { s with L := Bk.rowL n lk, at_ := 0, next := [] } D (fun i => wl.getD i []) (Bk.rowB lk) (k + 1) 0) := .inl ⟨by omega, HJ.out.2.1.begin_ (by omega) (Bk.rowB_length lk), rfl, hsn, by have := HJ.out.2.2.2.1; exact this, HJ.out.2.2.2.2⟩
        generalize ({ s with L := Bk.rowL n lk, at_ := 0, next := [] } : Bk.Bn) = s1 at *
        clear hbg hLn hsn hX7 hpp HR7 hb7 HRk HJ HP1 hc3
        go_wp2_with fail
        refine HBg.out.mono ?_
        rintro e w8 ⟨rfl, hd8, hc8⟩
        have HK8 : Hid (KS w w8 X7 P d x0 n ek mk ks s1 D (.slice A n c) wl ∧ PartsOn w8 X7 (.slice Ar n cr) (Bk.rowL n lk)) := ⟨HK7.out.1.fr hd8 hc8, parts_fr HK7.out.2 hc8⟩
        clear hd8 hc8 HBg HK7
        -- how many steps
        obtain ⟨many, hmany, HMn⟩ : ∃ many : Nat, many = (if k = m - 1 then st % (n + 3) else n + 2) ∧ Hid (many ≤ n + 2 ∧ (k + 1 < m → many = n + 2)) := by
          refine ⟨_, rfl, ?_⟩
          by_cases h : k = m - 1
          · rw [if_pos h]
            have := Nat.mod_lt st (show 0 < n + 3 by omega)
            exact ⟨by omega, fun h2 => by omega⟩
          · rw [if_neg h]
            exact ⟨by omega, fun _ => rfl⟩
        have hm1 : IntKind.i64.wrap ((m : Int) - 1) = (m : Int) - 1 := IntWalk.i64_in _ (by omega)
        have hn2' : IntKind.i64.wrap ((n : Int) + 2) = ((n + 2 : Nat) : Int) := by rw [IntWalk.i64_in _ (by omega)]; simp
        by_cases hkl : k = m - 1
        · rw [if_pos hkl] at hmany
          have hke : ((k : Int) == (m : Int) - 1) = true := by rw [show (k : Int) = (m : Int) - 1 by omega]; simp
          have hn3 : IntKind.i64.wrap ((n : Int) + 3) = ((n + 3 : Nat) : Int) := by rw [IntWalk.i64_in _ (by omega)]; simp
          have hrem : Int.tmod (st : Int) ((n + 3 : Nat) : Int) = (many : Int) := by rw [hmany, Int.ofNat_tmod]
          have hst' := Hst.out
          generalize hq3 : n + 3 = n3 at hn3 hrem
          have hn30 : ¬ n3 = 0 := by omega
          generalize hq2 : n + 2 = n2' at hn2'
          have HKL := Lib.hid hkl
          clear hmany hq2 hkl hq3
          go_wp2
          clear hn3 hrem hke hm1 hn2' hst' hn30
          go_loopw [16, 20, 21, 22] (fun v jj _ _ wr => ∃ (j : Nat) (s : Bk.Bn) (D : List Blk), j ≤ many ∧ jj = .int .i64 j ∧ ((j ≤ n + 1 ∧ v = .slice A n c) ∨ (j = n + 2 ∧ v = .slice Ar n cr)) ∧ Hid (KS w wr X7 P d x0 n ek mk ks s D (.slice A n c) wl ∧ PartsOn wr X7 (.slice Ar n cr) (Bk.rowL n lk) ∧ Bk.Mid ek mk n s D (fun i => wl.getD i []) (Bk.rowB lk) (k + 1) j)) (fun _ jj _ _ _ => many - (RowKit.intOf jj).toNat)
          case atStart => exact ⟨0, s1, D, by omega, rfl, .inl ⟨by omega, rfl⟩, HK8.out.1, HK8.out.2, HMd.out⟩
          case round =>
            obtain ⟨j, s2, D2, hjm, rfl, hv, HI⟩ := hrel
            rename World => w9
            clear HK8 HMd
            by_cases hjl : j < many
            · obtain ⟨hj1, rfl⟩ : j ≤ n + 1 ∧ _ := hv.elim (fun h => h) fun h => by have := HMn.out.1; omega
              clear hv
              obtain ⟨hst2, hmid2, hdl2, hep2, hsn2⟩ := HI.out.2.2.step hj1
              have HSt := Lib.hid (HI.out.1.duo.step HT.out hdl2 (by omega))
              rw [hst2] at HSt
              dsimp only at HSt
              have HM2 := Lib.hid hmid2
              generalize (Bk.step ek mk s2 D2).1.1 = s3 at *
              generalize (Bk.step ek mk s2 D2).1.2 = D3 at *
              have hmx := HMn.out.1
              clear hst2 hmid2 hdl2 hep2 hsn2
              by_cases hjn : j = n + 1
              · rw [decide_eq_true hjn] at HSt
                have hjw : IntKind.i64.wrap ((n : Int) + 1) = (j : Int) := by rw [IntWalk.i64_in _ (by omega)]; omega
                have HJN := Lib.hid hjn
                clear hjn
                go_wp2_with fail
                refine HSt.out.mono ?_
                rintro e w10 ⟨rfl, hd, hc⟩
                have HI2 : Hid (KS w w10 X7 P d x0 n ek mk ks s3 D3 (.slice A n c) wl ∧ PartsOn w10 X7 (.slice Ar n cr) (Bk.rowL n lk) ∧ Bk.Mid ek mk n s3 D3 (fun i => wl.getD i []) (Bk.rowB lk) (k + 1) (j + 1)) := ⟨HI.out.1.fr hd hc, parts_fr HI.out.2.1 hc, HM2.out⟩
                clear hd hc HSt HI HM2
                go_wp2
                go_roundw
                case rel => exact ⟨j + 1, s3, D3, by omega, by go_num, .inr ⟨by have := HJN.out; omega, rfl⟩, HI2⟩
                case measure => simp [RowKit.intOf]; omega
              · rw [decide_eq_false hjn] at HSt
                obtain ⟨n1, hn1⟩ : ∃ x, x = n + 1 := ⟨_, rfl⟩
                have hjw : IntKind.i64.wrap ((n : Int) + 1) = (n1 : Int) := by rw [IntWalk.i64_in _ (by omega), hn1]; simp
                have hne : ((j : Int) == (n1 : Int)) = false := beq_false_of_ne (by omega)
                clear hn1
                go_wp2_with fail
                refine HSt.out.mono ?_
                rintro e w10 ⟨rfl, hd, hc⟩
                have HI2 : Hid (KS w w10 X7 P d x0 n ek mk ks s3 D3 (.slice A n c) wl ∧ PartsOn w10 X7 (.slice Ar n cr) (Bk.rowL n lk) ∧ Bk.Mid ek mk n s3 D3 (fun i => wl.getD i []) (Bk.rowB lk) (k + 1) (j + 1)) := ⟨HI.out.1.fr hd hc, parts_fr HI.out.2.1 hc, HM2.out⟩
                clear hd hc HSt HI HM2
                go_wp2
                go_roundw
                case rel => exact ⟨j + 1, s3, D3, by omega, by go_num, .inl ⟨by omega, rfl⟩, HI2⟩
                case measure => simp [RowKit.intOf]; omega
            · obtain rfl : j = many := by omega
              obtain ⟨hst3, hL3, he3, he4⟩ := HI.out.2.2.st
              have HOut : Hid (∃ (A' : Option Addr) (c' : Nat) (wl' : List (List UInt8)), u16 = .slice A' n c' ∧ KS w w9 X7 P d x0 n ek mk ks s2 D2 (.slice A' n c') wl' ∧ Bk.St ek mk n s2 D2 (fun i => wl'.getD i []) ∧ (k + 1 < m → s2.L = []) ∧ s2.ep ≤ k + 1 + 1 ∧ 1 ≤ s2.ep) := by
                rcases hv with ⟨hj1, hv⟩ | ⟨hj1, hv⟩
                · rw [if_neg (by omega)] at hst3
                  exact ⟨A, c, wl, hv, HI.out.1, hst3, fun h => by have := HMn.out.2 h; omega, he3, he4⟩
                · rw [if_pos hj1] at hst3
                  refine ⟨Ar, cr, Bk.rowL n lk, hv, ⟨HI.out.1.duo, HI.out.1.x0X, HI.out.1.row, HI.out.2.1, Bk.rowL_length _ _, Bk.rowL_64 _ _⟩, ⟨hst3.hn, ⟨hst3.lies.clean, fun i hi => ?_, fun i hi => ?_, hst3.lies.tlen⟩, hst3.root, hst3.dl, hst3.b1⟩, fun _ => hL3 hj1, he3, he4⟩
                  · rw [Bk.rowL_get n lk i hi]; exact hst3.lies.cur i hi
                  · rw [Bk.rowL_get n lk i hi]; exact hst3.lies.tag i hi
              clear hst3 hL3 he3 he4 HI hv
              obtain ⟨A', c', wl', rfl, hO⟩ := HOut.out
              have HO := Lib.hid hO
              clear hO HOut
              go_wp2
              go_roundw
              case rel => exact ⟨k + 1, A', c', X7, s2, D2, wl', by omega, by go_num, rfl, HO⟩
              case measure => simp [RowKit.intOf]; omega
        · rw [if_neg hkl] at hmany
          have hke : ((k : Int) == (m : Int) - 1) = false := beq_false_of_ne (by omega)
          rw [← hmany] at hn2'
          clear hmany
          go_wp2
          clear hke hm1 hn2'
          go_loopw [16, 20, 21, 22] (fun v jj _ _ wr => ∃ (j : Nat) (s : Bk.Bn) (D : List Blk), j ≤ many ∧ jj = .int .i64 j ∧ ((j ≤ n + 1 ∧ v = .slice A n c) ∨ (j = n + 2 ∧ v = .slice Ar n cr)) ∧ Hid (KS w wr X7 P d x0 n ek mk ks s D (.slice A n c) wl ∧ PartsOn wr X7 (.slice Ar n cr) (Bk.rowL n lk) ∧ Bk.Mid ek mk n s D (fun i => wl.getD i []) (Bk.rowB lk) (k + 1) j)) (fun _ jj _ _ _ => many - (RowKit.intOf jj).toNat)
          case atStart => exact ⟨0, s1, D, by omega, rfl, .inl ⟨by omega, rfl⟩, HK8.out.1, HK8.out.2, HMd.out⟩
          case round =>
            obtain ⟨j, s2, D2, hjm, rfl, hv, HI⟩ := hrel
            rename World => w9
            clear HK8 HMd
            by_cases hjl : j < many
            · obtain ⟨hj1, rfl⟩ : j ≤ n + 1 ∧ _ := hv.elim (fun h => h) fun h => by have := HMn.out.1; omega
              clear hv
              obtain ⟨hst2, hmid2, hdl2, hep2, hsn2⟩ := HI.out.2.2.step hj1
              have HSt := Lib.hid (HI.out.1.duo.step HT.out hdl2 (by omega))
              rw [hst2] at HSt
              dsimp only at HSt
              have HM2 := Lib.hid hmid2
              generalize (Bk.step ek mk s2 D2).1.1 = s3 at *
              generalize (Bk.step ek mk s2 D2).1.2 = D3 at *
              have hmx := HMn.out.1
              clear hst2 hmid2 hdl2 hep2 hsn2
              by_cases hjn : j = n + 1
              · rw [decide_eq_true hjn] at HSt
                have hjw : IntKind.i64.wrap ((n : Int) + 1) = (j : Int) := by rw [IntWalk.i64_in _ (by omega)]; omega
                have HJN := Lib.hid hjn
                clear hjn
                go_wp2_with fail
                refine HSt.out.mono ?_
                rintro e w10 ⟨rfl, hd, hc⟩
                have HI2 : Hid (KS w w10 X7 P d x0 n ek mk ks s3 D3 (.slice A n c) wl ∧ PartsOn w10 X7 (.slice Ar n cr) (Bk.rowL n lk) ∧ Bk.Mid ek mk n s3 D3 (fun i => wl.getD i []) (Bk.rowB lk) (k + 1) (j + 1)) := ⟨HI.out.1.fr hd hc, parts_fr HI.out.2.1 hc, HM2.out⟩
                clear hd hc HSt HI HM2
                go_wp2
                go_roundw
                case rel => exact ⟨j + 1, s3, D3, by omega, by go_num, .inr ⟨by have := HJN.out; omega, rfl⟩, HI2⟩
                case measure => simp [RowKit.intOf]; omega
              · rw [decide_eq_false hjn] at HSt
                obtain ⟨n1, hn1⟩ : ∃ x, x = n + 1 := ⟨_, rfl⟩
                have hjw : IntKind.i64.wrap ((n : Int) + 1) = (n1 : Int) := by rw [IntWalk.i64_in _ (by omega), hn1]; simp
                have hne : ((j : Int) == (n1 : Int)) = false := beq_false_of_ne (by omega)
                clear hn1
                go_wp2_with fail
                refine HSt.out.mono ?_
                rintro e w10 ⟨rfl, hd, hc⟩
                have HI2 : Hid (KS w w10 X7 P d x0 n ek mk ks s3 D3 (.slice A n c) wl ∧ PartsOn w10 X7 (.slice Ar n cr) (Bk.rowL n lk) ∧ Bk.Mid ek mk n s3 D3 (fun i => wl.getD i []) (Bk.rowB lk) (k + 1) (j + 1)) := ⟨HI.out.1.fr hd hc, parts_fr HI.out.2.1 hc, HM2.out⟩
                clear hd hc HSt HI HM2
                go_wp2
                go_roundw
                case rel => exact ⟨j + 1, s3, D3, by omega, by go_num, .inl ⟨by omega, rfl⟩, HI2⟩
                case measure => simp [RowKit.intOf]; omega
            · obtain rfl : j = many := by omega
              obtain ⟨hst3, hL3, he3, he4⟩ := HI.out.2.2.st
              have HOut : Hid (∃ (A' : Option Addr) (c' : Nat) (wl' : List (List UInt8)), u16 = .slice A' n c' ∧ KS w w9 X7 P d x0 n ek mk ks s2 D2 (.slice A' n c') wl' ∧ Bk.St ek mk n s2 D2 (fun i => wl'.getD i []) ∧ (k + 1 < m → s2.L = []) ∧ s2.ep ≤ k + 1 + 1 ∧ 1 ≤ s2.ep) := by
                rcases hv with ⟨hj1, hv⟩ | ⟨hj1, hv⟩
                · rw [if_neg (by omega)] at hst3
                  exact ⟨A, c, wl, hv, HI.out.1, hst3, fun h => by have := HMn.out.2 h; omega, he3, he4⟩
                · rw [if_pos hj1] at hst3
                  refine ⟨Ar, cr, Bk.rowL n lk, hv, ⟨HI.out.1.duo, HI.out.1.x0X, HI.out.1.row, HI.out.2.1, Bk.rowL_length _ _, Bk.rowL_64 _ _⟩, ⟨hst3.hn, ⟨hst3.lies.clean, fun i hi => ?_, fun i hi => ?_, hst3.lies.tlen⟩, hst3.root, hst3.dl, hst3.b1⟩, fun _ => hL3 hj1, he3, he4⟩
                  · rw [Bk.rowL_get n lk i hi]; exact hst3.lies.cur i hi
                  · rw [Bk.rowL_get n lk i hi]; exact hst3.lies.tag i hi
              clear hst3 hL3 he3 he4 HI hv
              obtain ⟨A', c', wl', rfl, hO⟩ := HOut.out
              have HO := Lib.hid hO
              clear hO HOut
              go_wp2
              go_roundw
              case rel => exact ⟨k + 1, A', c', X7, s2, D2, wl', by omega, by go_num, rfl, HO⟩
              case measure => simp [RowKit.intOf]; omega
    · obtain rfl : k = m := by omega
      have HKs := Lib.hid HJ.out.1
      have hSt := HJ.out.2.1
      have hepk := HJ.out.2.2.2.1
      have hep1 := HJ.out.2.2.2.2
      have hnb := HKs.out.duo.n100
      obtain ⟨rs, hrs⟩ : ∃ r, r = regV s.ep s.bank s.root := ⟨_, rfl⟩
      have HRs := Lib.hid hrs
      have Hr34 : Hid (rs.toArray.size = 34) := by show _ = _; rw [hrs]; exact regV_length hnb.2.2.2.1
      have Hone2 : Hid (rs.toArray.all (·.oneCell') = true) := by
        show _ = _
        rw [hrs, regV]
        simp
        exact ⟨rfl, rfl, fun _ _ => rfl⟩
      have HREQ : Hid (∀ W, (Op.equalIn 10000 41 (.agg rs.toArray) (.agg rs.toArray)).run Tryz.prog W = .ok true W) := fun W => by rw [hrs]; exact reg_eq _ _ _ hnb.2.2.2.1 W
      have HNEQ : Hid (∀ W, (binOp .neq 41 (.agg rs.toArray) (.agg rs.toArray)).run Tryz.prog W = .ok (.bool false) W) := fun W => by rw [run_neq_struct, HREQ.out W]; rfl
      have HRg := Lib.hid (HKs.out.duo.reg rs hrs)
      have hzl : (regV 0 0 (List.replicate 32 0)).length = 34 := rfl
      have hzr := zeroReg
      generalize regV 0 0 (List.replicate 32 0) = ZR at hzl hzr
      have Hzr : Hid (ZR.toArray.size = 34) := hzl
      -- what the mount, and each read, will tell
      have HSc := Lib.hid (hSt.crash (fun n => bs.getD n false))
      have hmt : Bk.mount mk n s.ep s.bank s.root (crash (fun n => bs.getD n false) D) = some ⟨n, s.ep, s.bank, s.root, s.tags, [], 0, []⟩ := by
        have := HSc.out.lies.mount
        rw [← HSc.out.root] at this
        exact this
      have HMt := Lib.hid hmt
      obtain ⟨s9, hs9⟩ : ∃ s9 : Bk.Bn, s9 = ⟨n, s.ep, s.bank, s.root, s.tags, [], 0, []⟩ := ⟨_, rfl⟩
      rw [← hs9] at HMt
      have HRd : Hid (∀ i, i < n → Bk.read ek mk s9 (crash (fun n => bs.getD n false) D) i = some (wl.getD i [])) := fun i hi => HSc.out.lies.read (by rw [hs9]) (by rw [hs9]) (by rw [hs9]) (by omega) i hi
      have HS9 : Hid (s9.n = n ∧ s9.L = [] ∧ s9.ep = s.ep ∧ s9.bank = s.bank ∧ s9.root = s.root) := by rw [hs9]; exact ⟨rfl, rfl, rfl, rfl, rfl⟩
      have HRs9 : Hid (rs = regV s9.ep s9.bank s9.root) := by rw [hs9]; exact hrs
      have HFc : Hid (s.n = n ∧ (crash (fun n => bs.getD n false) D).length = 2 * n ∧ s.bank ≤ 1 ∧ 1 ≤ s.ep ∧ s.ep ≤ 1000000 ∧ s.root.length = 32) := ⟨hSt.hn, HSc.out.dl, hSt.b1, hep1, by omega, hnb.2.2.2.1⟩
      have hzr7 := hzr
      clear hSt hepk hep1 hnb hrs hzl hzr hmt hs9 HSc HJ HPl
      go_wp2_with fail
      refine HRg.out.mono ?_
      rintro e w7 ⟨rfl, hb7⟩
      have HK7 := Lib.hid (HKs.out.stay hb7)
      obtain ⟨x1, hx1⟩ : ∃ x, x = w7.heap.size := ⟨_, rfl⟩
      obtain ⟨w8, hw8⟩ : ∃ W, W = w7.alloc (.cells ZR.toArray 41) := ⟨_, rfl⟩
      have HZ8 : Hid (Row w8 x1 41 ZR) := by rw [hw8, hx1]; exact Row.new w7 41 ZR
      have hB8 : Below w7.heap.size w7 w8 := by rw [hw8]; exact (Below.refl _ _).alloc (Nat.le_refl _) _
      obtain ⟨w9, hw9⟩ : ∃ W, W = w8.setRow x1 rs.toArray := ⟨_, rfl⟩
      have HY9 : Hid (Row w9 x1 41 rs) := by rw [hw9]; exact HZ8.out.whole rs
      have hB9 : Below w7.heap.size w7 w9 := by rw [hw9]; exact below_setRow' hB8 (by omega) _
      obtain ⟨X9, hX9⟩ : ∃ Y : Nat → Prop, Y = fun k => X k ∨ (w7.heap.size ≤ k ∧ k < w9.heap.size) := ⟨_, rfl⟩
      have HK9 : Hid (KS w w9 X9 P d x0 n ek mk ks s D (.slice A n c) wl ∧ X9 x1) := by
        rw [hX9]
        exact ⟨HK7.out.also hB9, .inr ⟨by omega, HY9.out.lt⟩⟩
      have HCr := Lib.hid (HK9.out.1.duo.crash A4 nk c4 bs HKp.out.2 HKp.out.1)
      have Hx1e := Lib.hid hx1
      have hz7 := hzr7 w7
      clear hb7 hB8 hB9 hX9 hx1 HK7 HKs HRg hzr7
      go_wp2_with (first
        | (rw [← hw8, ← Hx1e.out]; clear hw8 hz7; refine wpList_store_row rfl 41 (.tmp 23) (.tmp 132) rfl x1 rs.toArray rfl rfl 41 _ HZ8.out (by rw [Hr34.out]; kernel_rfl) (by rw [Hr34.out, Hzr.out]) Hone2.out ?_; rw [← hw9]; clear hw9))
      refine HCr.out.mono ?_
      rintro e w10 ⟨rfl, hd, hc⟩
      have HK10 := Lib.hid (HK9.out.1.fr hd hc)
      have HY10 := Lib.hid (row_fr HY9.out hc HK9.out.2)
      have HX10 := Lib.hid HK10.out.row
      generalize crash (fun n => bs.getD n false) D = Dc at *
      have hM := HK10.out.duo.mount HT.out ks HK.out s.ep s.bank s.root rs (by rw [HFc.out.1]; exact HFc.out.2.1) HFc.out.2.2.1 ⟨HFc.out.2.2.2.1, HFc.out.2.2.2.2.1⟩ HFc.out.2.2.2.2.2 HRs.out
      rw [HFc.out.1, HMt.out] at hM
      have HM := Lib.hid hM
      have HDl : Hid (Dc.length = 2 * n) := HFc.out.2.1
      clear hd hc hM HCr HK9 HY9 HZ8 HMt
      go_wp2_with (first
        | (refine wpList_load_row rfl 29 (.tmp 11) rfl x0 rfl 29 ks.toArray (0, 0) _ HX10.out Tryz.underlying29 rfl (by rw [Hk48.out]; kernel_rfl) ?_)
        | (refine wpList_load_row rfl 41 (.tmp 23) rfl x1 rfl 41 rs.toArray (0, 0) _ HY10.out Tryz.underlying41 rfl (by rw [Hr34.out]; kernel_rfl) ?_))
      refine HM.out.mono ?_
      rintro e w11 ⟨P9, rfl, hd9, -, hb11⟩
      have HD11 := Lib.hid hd9
      have HY11 := Lib.hid (HY10.out.below hb11 HY10.out.lt)
      have HW11 := Lib.hid (HK10.out.want.below hb11)
      have HWf : Hid (wl.length = n ∧ ∀ x ∈ wl, x.length = 64) := ⟨HK10.out.wlen, HK10.out.w64⟩
      have HRg9 : Hid (∀ W, Below w11.heap.size w11 W → Calls Tryz.prog 24 #[PT P9] W fun e w' => e = .returned (.agg rs.toArray) ∧ Below W.heap.size W w') := fun W hW => (HD11.out.stay hW).reg rs HRs9.out
      have HBu9 : Hid (∀ W, Below w11.heap.size w11 W → Calls Tryz.prog 29 #[PT P9] W fun e w' => e = .returned (.bool false) ∧ Below W.heap.size W w') := fun W hW => by
        have := (HD11.out.stay hW).busy
        rwa [decide_eq_false (fun h => h HS9.out.2.1)] at this
      have HKeep : Hid (∀ W, Below w11.heap.size w11 W → W.rangeAt x1 0 rs) := fun W hW => range_row (HY11.out.below hW HY11.out.lt)
      have hi2 : (Tryz.prog.info? 41).map (·.size) = some rs.length := by rw [← List.size_toArray, Hr34.out]; kernel_rfl
      clear hd9 hb11 HM HK10 HY10 HX10 HFc
      go_wp2_with fail
      have hC : Below w11.heap.size w11 w11.drew := below_drewN (Below.refl _ _) 1
      refine wp_region_held_drew (S := (fun W => W.rangeAt x1 0 rs)) (by kernel_rfl) (HKeep.out _ hC) (fun hHeld => ?_)
      generalize w11.drew = w11d at *
      refine wpAnyH_take (i := 0) (oi := ⟨some 144, _, _, _, _, _⟩) (v := ?_) rfl (by kernel_rfl) (by kernel_rfl) (by kernel_rfl) (fun _ _ _ h => h) (Or.inl ⟨by rfl, ?_⟩) hHeld ?_
      rotate_left
      · intro w hSw
        go_simp
        with_reducible rfl
      try go_frame
      refine wpAnyH_take (i := 1) (oi := ⟨some 145, _, _, _, _, _⟩) (v := ?_) rfl (by kernel_rfl) (by kernel_rfl) (by kernel_rfl) (fun _ _ _ h => h) (Or.inl ⟨by rfl, ?_⟩) hHeld ?_
      rotate_left
      · intro w hSw
        go_simp
        with_reducible rfl
      try go_frame
      refine wpAnyH_take (i := 2) (oi := ⟨some 146, _, _, _, _, _⟩) (v := ?_) rfl (by kernel_rfl) (by kernel_rfl) (by kernel_rfl) (fun _ _ _ h => h) (Or.inl ⟨by rfl, ?_⟩) hHeld ?_
      rotate_left
      · intro w hSw
        go_simp
        with_reducible rfl
      try go_frame
      refine wpAnyH_take (i := 3) (oi := ⟨some 147, _, _, _, _, _⟩) (v := ?_) rfl (by kernel_rfl) (by kernel_rfl) (by kernel_rfl) (fun _ _ _ h => h) (Or.inl ⟨by rfl, ?_⟩) hHeld ?_
      rotate_left
      · intro w hSw
        go_simp
        with_reducible rfl
      try go_frame
      refine wpAnyH_take (i := 4) (oi := ⟨some 148, _, _, _, _, _⟩) (v := ?_) rfl (by kernel_rfl) (by kernel_rfl) (by kernel_rfl) (fun _ _ _ h => h) (Or.inl ⟨by rfl, ?_⟩) hHeld ?_
      rotate_left
      · intro w hSw
        go_simp
        with_reducible rfl
      try go_frame
      refine wpAnyH_take (i := 5) (oi := ⟨some 149, _, _, _, _, _⟩) (v := ?_) rfl (by kernel_rfl) (by kernel_rfl) (by kernel_rfl) (fun _ _ _ h => h) (Or.inl ⟨by rfl, ?_⟩) hHeld ?_
      rotate_left
      · intro w hSw
        go_simp
        with_reducible rfl
      try go_frame
      refine wpAnyH_take (i := 6) (oi := ⟨some 150, _, _, _, _, _⟩) (v := ?_) rfl (by kernel_rfl) (by kernel_rfl) (by kernel_rfl) (fun _ _ _ h => h) (Or.inl ⟨by rfl, ?_⟩) hHeld ?_
      rotate_left
      · intro w hSw
        go_simp
        with_reducible rfl
      try go_frame
      refine wpAnyH_take (i := 7) (oi := ⟨some 151, _, _, _, _, _⟩) (v := ?_) rfl (by kernel_rfl) (by kernel_rfl) (by kernel_rfl) (fun _ _ _ h => h) (Or.inl ⟨by rfl, ?_⟩) hHeld ?_
      rotate_left
      · intro w hSw
        go_simp
        with_reducible rfl
      try go_frame
      refine wpAnyH_take (i := 9) (oi := ⟨some 153, _, _, _, _, _⟩) (v := .agg (rs).toArray) rfl (by kernel_rfl) (by kernel_rfl) (by kernel_rfl) (fun _ _ _ h => h) (yieldsIf_load_mid (by rfl) 41 (.tmp 23) rfl (x1) 0 rfl (rs) _ (fun W h => h) Tryz.underlying41 rfl hi2) hHeld ?_
      try go_frame
      refine wpAnyH_ready (rs := [8]) (by kernel_rfl) (by simp) ?_
      refine AllReadyH.cons (o := ⟨some 152, _, _, _, _, _⟩) rfl (fun K hK => ?_) AllReadyH.nil
      go_simp
      go_at_call 24
      refine (HRg9.out w11d hC).mono ?_
      rintro e w11d_rg ⟨rfl, hb⟩
      replace hC := hC.trans (hb.mono hC.size)
      refine hK.out _ _ (HKeep.out _ hC) (fun hHeld => ?_)
      clear hK K hb 
      try go_frame
      refine wpAnyH_take (i := 10) (oi := ⟨some 154, _, _, _, _, _⟩) (v := .bool false) rfl (by kernel_rfl) (by kernel_rfl) (by kernel_rfl) (fun _ _ _ h => h) (Or.inl ⟨by rfl, fun w _ => run_binop (vx := .agg rs.toArray) (vy := .agg rs.toArray) rfl rfl rfl (run_eqGuard_agg _ _ _ _ _ _ _ (by kernel_rfl)) (HNEQ.out w)⟩) hHeld ?_
      try go_frame
      refine wpAnyH_take (i := 11) (oi := ⟨some 155, _, _, _, _, _⟩) (v := ?_) rfl (by kernel_rfl) (by kernel_rfl) (by kernel_rfl) (fun _ _ _ h => h) (Or.inl ⟨by rfl, ?_⟩) hHeld ?_
      rotate_left
      · intro w hSw
        go_simp
        with_reducible rfl
      try go_frame
      refine wpAnyH_take (i := 12) (oi := ⟨some 156, _, _, _, _, _⟩) (v := ?_) rfl (by kernel_rfl) (by kernel_rfl) (by kernel_rfl) (fun _ _ _ h => h) (Or.inl ⟨by rfl, ?_⟩) hHeld ?_
      rotate_left
      · intro w hSw
        go_simp
        with_reducible rfl
      try go_frame
      refine wpAnyH_take (i := 13) (oi := ⟨some 157, _, _, _, _, _⟩) (v := ?_) rfl (by kernel_rfl) (by kernel_rfl) (by kernel_rfl) (fun _ _ _ h => h) (Or.inl ⟨by rfl, ?_⟩) hHeld ?_
      rotate_left
      · intro w hSw
        go_simp
        with_reducible rfl
      try go_frame
      refine wpAnyH_ready (rs := [14]) (by kernel_rfl) (by simp) ?_
      refine AllReadyH.cons (o := ⟨some 158, _, _, _, _, _⟩) rfl (fun K hK => ?_) AllReadyH.nil
      go_simp
      go_at_call 29
      refine (HBu9.out w11d_rg hC).mono ?_
      rintro e w11d_rg_bu ⟨rfl, hb⟩
      replace hC := hC.trans (hb.mono hC.size)
      refine hK.out _ _ (HKeep.out _ hC) (fun hHeld => ?_)
      clear hK K hb 
      try go_frame
      refine wpAnyH_take (i := 15) (oi := ⟨some 159, _, _, _, _, _⟩) (v := ?_) rfl (by kernel_rfl) (by kernel_rfl) (by kernel_rfl) (fun _ _ _ h => h) (Or.inl ⟨by rfl, ?_⟩) hHeld ?_
      rotate_left
      · intro w hSw
        go_simp
        with_reducible rfl
      try go_frame
      refine wpAnyH_done (by kernel_rfl) ?_ _
      clear hHeld HKeep HRg9 HBu9 HREQ HNEQ
      have HD12 := Lib.hid (HD11.out.stay hC)
      have HW12 := Lib.hid (HW11.out.below hC)
      clear hC HD11 HW11 HY11 hi2
      generalize w11d_rg_bu = w12 at *
      go_wp2
      go_loopw [26, 27, 28] (fun ii _ _ wr => ∃ i : Nat, i ≤ n ∧ ii = .int .i64 i ∧ Hid (Duo w wr X9 P9 d ek mk s9 Dc ∧ PartsOn wr X9 (.slice A n c) wl)) (fun ii _ _ _ => n - (RowKit.intOf ii).toNat)
      case atStart => exact ⟨0, by omega, rfl, HD12.out, HW12.out⟩
      case round =>
        obtain ⟨i, hin, rfl, HI⟩ := hrel
        rename World => w13
        clear HD12 HW12
        by_cases hil : i < n
        · have hRd := HI.out.1.read HT.out (by rw [HS9.out.1]; exact HDl.out) i (by rw [HS9.out.1]; exact hil)
          rw [HRd.out i hil] at hRd
          have HR := Lib.hid hRd
          obtain ⟨bw, ow, hA, hbw, hXw, hcw⟩ := HI.out.2.at_ HWf.out.1 (by omega)
          obtain ⟨A1, c1, hc1, ha1⟩ := hcw i hil
          have hq64 : (wl.getD i []).length = 64 := HWf.out.2 _ (by rw [List.getD_eq_getElem?_getD, List.getElem?_eq_getElem (by rw [HWf.out.1]; exact hil)]; exact List.getElem_mem _)
          rw [hq64] at hc1 ha1
          have HQ := Lib.hid hq64
          have HC1 := Lib.hid hc1
          have HA1 := Lib.hid ha1
          have HBw := Lib.hid hbw
          clear hRd hc1 ha1 hcw hbw hXw hq64
          subst hA
          go_wp2_with fail
          refine HR.out.mono ?_
          rintro e w14 ⟨v, rfl, HO, hb14⟩
          have hov : Own w14 w13.heap.size 5 v ((wl.getD i []).map V8) := HO.out
          obtain ⟨Av, cv, hv⟩ := hov.arg.form
          rw [HQ.out] at hv
          subst hv
          have hcv1 := fun k => conv_arg (hov.arg.below (below_drewN (Below.refl w14.heap.size w14) k))
          have hcv2 := fun k => conv_arg (HA1.out.arg.below (below_drewN hb14 k))
          have hcell : ∀ k, (w14.drewN k).cell? ⟨bw, ow + i, none⟩ = some (.slice A1 64 c1) := fun k => (World.cell?_of_block (w := w13) ((below_drewN hb14 k).block bw HBw.out)).trans HC1.out
          have HI2 : Hid (Duo w w14 X9 P9 d ek mk s9 Dc ∧ PartsOn w14 X9 (.slice (some ⟨bw, ow, none⟩) n c) wl) := ⟨HI.out.1.stay hb14, HI.out.2.below hb14⟩
          generalize strB (wl.getD i []) = sq at *
          clear hov hb14 HO HR HI HC1 HA1 HBw HQ
          go_wp2_with fail
          go_quiet (fail)
          go_wp2
          go_roundw
          case rel => exact ⟨i + 1, by omega, by go_num, HI2.out.1.stay (below_drewN (Below.refl _ _) _), HI2.out.2.below (below_drewN (Below.refl _ _) _)⟩
          case measure => simp [RowKit.intOf]; omega
        · obtain rfl : i = n := by omega
          have HK0 := Lib.hid (HKn.out w13 HI.out.1.below)
          clear HKn HI HRd
          go_wp2_with fail
          refine HK0.out.mono ?_
          rintro e w' ⟨rfl, hb⟩
          go_wp2
          go_ret
          exact ⟨rfl, hb⟩
end Go.Proofs.YthbmknpbcgnabaaGreatDoor
