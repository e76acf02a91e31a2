/-
  THE WALK of Code.
-/
import Derived.Test.YtjdpfeagicchnaaCC
import Derived.Deep.OwnRows
namespace Go.Proofs.Ytjdpfeagicchnaa
open Go.RowKit Aes Ctr

theorem made_n (n : Nat) (hn : n ≤ 1000000) (W : World) : (Instr.makeSlice 24 (.int .i64 (n : Int)) (.int .i64 (n : Int))).run Try.prog W = .ok (.slice (some ⟨W.heap.size, 0, none⟩) n n) (W.alloc (.cells ((List.replicate n (0 : UInt8)).map V8).toArray 5)) := by
  have h := run_make_row' (P := Try.prog) 24 5 (.int .u8 0) 1 Try.underlying24 info8 rfl .i64 .i64 n (by omega) (by omega) W
  rw [show madeCells #[Value.int .u8 0] n = ((List.replicate n (0 : UInt8)).map V8).toArray from by
    unfold madeCells
    apply Array.ext
    · simp
    · intro i h1 h2
      simp [V8, Nat.mod_one]] at h
  exact h

/-- What lies where while bytes are encrypted: the key, the nonce, the result, the block of the stream. -/
structure Cod (w W : World) (kr nr : List Value) (cs : List Value) (out : List UInt8) : Prop where
  key : Row W w.heap.size 22 kr
  non : Row W (w.heap.size + 1) 23 nr
  out : Row W (w.heap.size + 1 + 1) 5 (out.map V8)
  str : Row W (w.heap.size + 1 + 1 + 1) 22 cs
  bel : Below w.heap.size w W

theorem streamBlock_at (key nonce : List UInt8) (kr nr : List Value) (hk : Vec 16 key kr) (hn : Vec 12 nonce nr) (j : Int) (i : Nat) (hi : i < 2 ^ 32) (hj : j = (i : Int)) (w : World) :
    Calls Try.prog 11 #[.agg kr.toArray, .agg nr.toArray, .int .u32 j] w fun e w' => ∃ ts : List Value, Hid (Vec 16 (blk key nonce i) ts) ∧ e = .returned (.agg ts.toArray) ∧ Below w.heap.size w w' := by
  subst hj
  exact streamBlock_any key nonce kr nr hk hn i hi w
section
variable {w W V : World} {kr nr cs : List Value} {out new old : List UInt8} {k : Nat}
theorem Cod.call (h : Cod w W kr nr cs out) (hb : Below W.heap.size W V) : Cod w V kr nr cs out :=
  ⟨h.key.below hb h.key.lt, h.non.below hb h.non.lt, h.out.below hb h.out.lt, h.str.below hb h.str.lt, h.bel.trans (hb.mono h.bel.size)⟩
theorem Cod.stream (h : Cod w W kr nr cs out) (ds : List Value) : Cod w (W.setRow (w.heap.size + 1 + 1 + 1) ds.toArray) kr nr ds out :=
  ⟨h.key.wholeOff (by omega) _, h.non.wholeOff (by omega) _, h.out.wholeOff (by omega) _, h.str.whole ds, below_setRow' h.bel (by omega) _⟩
theorem Cod.put (h : Cod w W kr nr cs (upd new old k)) (hl : old.length = new.length) (hk : k < new.length) {z : Int} (hz : z = ((new.getD k 0).toNat : Int)) :
    Cod w (W.setCell ⟨w.heap.size + 1 + 1, k, none⟩ (.int .u8 z)) kr nr cs (upd new old (k + 1)) :=
  ⟨h.key.apart (by show w.heap.size ≠ w.heap.size + 1 + 1; omega) _, h.non.apart (by show w.heap.size + 1 ≠ w.heap.size + 1 + 1; omega) _, upd_put h.out hl hk hz, h.str.apart (by show w.heap.size + 1 + 1 + 1 ≠ w.heap.size + 1 + 1; omega) _, h.bel.setCell (by show w.heap.size ≤ w.heap.size + 1 + 1; omega) _⟩
theorem Cod.ks (h : Cod w W kr nr cs out) {key nonce s : List UInt8} (hv : Vec 16 s cs) (hs : s = blk key nonce (k / 16)) : W.cell? ⟨w.heap.size + 1 + 1 + 1, k % 16, none⟩ = some (.int .u8 (ksAt key nonce k).toNat) := by
  rw [h.str.cell, hv.at_ (k % 16) (Nat.mod_lt _ (by omega)), hs]
  rfl
end

set_option maxRecDepth 100000 in
set_option maxHeartbeats 400000 in
theorem Code_any (key nonce b : List UInt8) (kr nr : List Value) (hk : Vec 16 key kr) (hn : Vec 12 nonce nr) (v : Value) (hbl : b.length ≤ 100000) (w : World) (h : Arg w v b) :
    Calls Try.prog 6 #[.agg kr.toArray, .agg nr.toArray, v] w fun e w' => ∃ g, e = .returned (.slice (some ⟨g, 0, none⟩) b.length b.length) ∧ w.heap.size ≤ g ∧ Hid (Row w' g 5 ((code key nonce b).map V8)) ∧ Below w.heap.size w w' := by
  obtain ⟨A, cap, rfl⟩ := h.form
  obtain ⟨n, hnl⟩ : ∃ n, n = b.length := ⟨_, rfl⟩
  rw [← hnl] at h hbl ⊢
  have HNl := Lib.hid hnl
  have HK := Lib.hid hk
  have HN := Lib.hid hn
  have HA := Lib.hid h
  have Hzk : Hid (kr.toArray.size = 16) := hk.size
  have Hzn : Hid (nr.toArray.size = 12) := hn.size
  obtain ⟨zs, hzs⟩ : ∃ zs, zs = (List.replicate n (0 : UInt8)).map V8 := ⟨_, rfl⟩
  have hmk : ∀ W, (Instr.makeSlice 24 (.int .i64 (n : Int)) (.int .i64 (n : Int))).run Try.prog W = .ok (.slice (some ⟨W.heap.size, 0, none⟩) n n) (W.alloc (.cells zs.toArray 5)) := fun W => by rw [hzs]; exact made_n n (by omega) W
  have hz := zero16
  have HC0 : Hid (Cod w ((((w.alloc (.cells kr.toArray 22)).alloc (.cells nr.toArray 23)).alloc (.cells zs.toArray 5)).alloc (.cells Z16.toArray 22)) kr nr Z16 (upd (code key nonce b) (List.replicate n 0) 0)) := by
    refine ⟨(((Row.new w 22 kr).alloc _).alloc _).alloc _, ((Row.newAt 23 nr (by simp)).alloc _).alloc _, ?_, Row.newAt 22 Z16 (by simp), ((((Below.refl _ _).alloc (Nat.le_refl _) _).alloc (by simp) _).alloc (by simp; omega) _).alloc (by simp; omega) _⟩
    rw [upd_zero, ← hzs]
    exact (Row.newAt 5 zs (by simp)).alloc _
  have HLen : Hid ((code key nonce b).length = n) := by show _ = _; rw [code_length, hnl]
  have HLz : Hid ((List.replicate n (0 : UInt8)).length = (code key nonce b).length) := by show _ = _; rw [code_length, List.length_replicate, hnl]
  clear hnl hk hn h hzs
  go_enter Try.func6, Try.ntmps6
  go_wp2
  go_loopw [9, 10, 16] (fun _ _ i wr => ∃ (k : Nat) (cs : List Value) (s : List UInt8), k ≤ n ∧ i = .int .i64 k ∧ Hid (Vec 16 s cs) ∧ Hid (k % 16 ≠ 0 → s = blk key nonce (k / 16)) ∧ Hid (Cod w wr kr nr cs (upd (code key nonce b) (List.replicate n 0) k))) (fun _ _ i _ => n - (intOf i).toNat)
  case atStart => exact ⟨0, Z16, List.replicate 16 0, by omega, rfl, ⟨Z16_eq, List.length_replicate⟩, fun h => absurd rfl h, HC0⟩
  case round =>
    obtain ⟨k, cs, s, hk, rfl, Hcs, Hs, HC⟩ := hrel
    clear HC0 hmk hz
    by_cases hlt : k < n
    · obtain ⟨bb, o, rfl, hbb, hsee⟩ : ∃ bb o, A = some ⟨bb, o, none⟩ ∧ bb < w.heap.size ∧ Sees w bb o (b.map V8) := by
        rcases HA.out with ⟨A', e, _⟩ | ⟨bb, o, c, e, hbb, _, hs⟩
        · injection e with _ e2 _; omega
        · injection e with e1 _ _; exact ⟨bb, o, e1, hbb, hs⟩
      have c1 : wr.cell? ⟨bb, o + k, none⟩ = some (.int .u8 (b.getD k 0).toNat) := at8 (hsee.below HC.out.bel hbb) k (by rw [← HNl.out]; exact hlt)
      have Hcode : Hid ((code key nonce b).getD k 0 = b.getD k 0 ^^^ ksAt key nonce k) := code_at key nonce b k (by rw [← HNl.out]; exact hlt)
      generalize b.getD k 0 = x at *
      have c3 : wr.cell? ⟨w.heap.size + 1 + 1, k, none⟩ = some (.int .u8 ((List.replicate n (0 : UInt8)).getD k 0).toNat) := upd_cell HC.out.out HLz.out k (Nat.le_refl _) (by rw [HLen.out]; exact hlt)
      generalize ((List.replicate n (0 : UInt8)).getD k 0).toNat = y at *
      have hkl : k < (code key nonce b).length := by rw [HLen.out]; exact hlt
      have HX := Lib.hid (xor8 x (ksAt key nonce k))
      have Hkl := Lib.hid hkl
      clear hkl hsee
      by_cases hm : k % 16 = 0
      · clear Hs c3
        go_wp2_with (first
          | (refine wpList_load_row rfl 22 (.tmp 3) rfl w.heap.size rfl 22 kr.toArray (0, 0) _ HC.out.key Try.underlying22 rfl (by rw [Hzk.out]; kernel_rfl) ?_)
          | (refine wpList_load_row rfl 23 (.tmp 4) rfl (w.heap.size + 1) rfl 23 nr.toArray (0, 0) _ HC.out.non Try.underlying23 rfl (by rw [Hzn.out]; kernel_rfl) ?_))
        refine (streamBlock_at key nonce kr nr HK.out HN.out _ (k / 16) (by omega) (by omega) wr).mono ?_
        rintro e w1 ⟨ts, Hts, rfl, hb1⟩
        have Hzt : Hid (ts.toArray.size = 16) := Hts.out.size
        have Hone : Hid (ts.toArray.all (·.oneCell') = true) := Hts.out.one
        have HC1 : Hid (Cod w w1 kr nr cs (upd (code key nonce b) (List.replicate n 0) k)) := HC.out.call hb1
        have HC2 : Hid (Cod w (w1.setRow (w.heap.size + 1 + 1 + 1) ts.toArray) kr nr ts (upd (code key nonce b) (List.replicate n 0) k)) := HC1.out.stream ts
        have c2 := HC2.out.ks Hts.out rfl
        have f3 := HC2.out.out.free k
        have c4 : (w1.setRow (w.heap.size + 1 + 1 + 1) ts.toArray).cell? ⟨w.heap.size + 1 + 1, k, none⟩ = some (.int .u8 ((List.replicate n (0 : UInt8)).getD k 0).toNat) := upd_cell HC2.out.out HLz.out k (Nat.le_refl _) Hkl.out
        generalize ((List.replicate n (0 : UInt8)).getD k 0).toNat = y at *
        generalize ksAt key nonce k = z at *
        have Hzc : Hid (cs.toArray.size = 16) := Hcs.out.size
        have Hm := Lib.hid hm
        clear hb1 HC c1 Hcs hm
        go_wp2_with (refine wpList_store_row rfl 22 (.tmp 8) (.tmp 29) rfl (w.heap.size + 1 + 1 + 1) ts.toArray rfl rfl 22 _ HC1.out.str (by rw [Hzt.out]; kernel_rfl) (by rw [Hzt.out]; exact Hzc.out) Hone.out ?_)
        clear HC1
        generalize w1.setRow (w.heap.size + 1 + 1 + 1) ts.toArray = w2 at *
        go_wp2
        go_roundw
        case rel =>
          refine ⟨k + 1, ts, blk key nonce (k / 16), by omega, by go_num, Hts, ?_, HC2.out.put HLz.out Hkl.out ?_⟩
          · intro _
            rw [show (k + 1) / 16 = k / 16 by have := Hm.out; omega]
          · rw [HX.out, Hcode.out]
        case measure => simp [intOf]; omega
      · have c2 := HC.out.ks Hcs.out (Hs.out hm)
        have f3 := HC.out.out.free k
        generalize ksAt key nonce k = z at *
        go_wp2
        go_roundw
        case rel =>
          refine ⟨k + 1, cs, s, by omega, by go_num, Hcs, ?_, HC.out.put HLz.out Hkl.out ?_⟩
          · intro h1
            rw [show (k + 1) / 16 = k / 16 by omega]
            exact Hs.out hm
          · rw [HX.out, Hcode.out]
        case measure => simp [intOf]; omega
    · obtain rfl : k = n := by omega
      have Hall : Hid (upd (code key nonce b) (List.replicate k 0) k = code key nonce b) := upd_all HLen.out List.length_replicate
      rw [Hall.out] at HC
      clear Hall
      go_wp2
      go_ret
      exact ⟨_, rfl, by omega, HC.out.out, HC.out.bel⟩
end Go.Proofs.Ytjdpfeagicchnaa
