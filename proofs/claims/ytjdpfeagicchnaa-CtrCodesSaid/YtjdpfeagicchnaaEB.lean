/-
  PLAIN: each step of a round can be undone, so by one key unlike blocks are turned to unlike ones.
-/
import Derived.Test.YtjdpfeagicchnaaEA
namespace Go.Proofs.Ytjdpfeagicchnaa
namespace Aes

theorem xcan (a b : UInt8) : a ^^^ (a ^^^ b) = b := by rw [← UInt8.xor_assoc, UInt8.xor_self, UInt8.zero_xor]
theorem xlc (a b c : UInt8) : a ^^^ (b ^^^ c) = b ^^^ (a ^^^ c) := by rw [← UInt8.xor_assoc, UInt8.xor_comm a b, UInt8.xor_assoc]

theorem dbl_form (x : UInt8) : dbl x = (x <<< 1) ^^^ ((x >>> 7) * 27) := by
  have := all8 (fun x => dbl x == (x <<< 1) ^^^ ((x >>> 7) * 27)) (by decide +kernel) x
  simpa using this
theorem top_bit (x : UInt8) : x >>> 7 = 0 ∨ x >>> 7 = 1 := by
  have := all8 (fun x => x >>> 7 == 0 || x >>> 7 == 1) (by decide +kernel) x
  simpa using this
theorem shl_xor (x y : UInt8) : (x ^^^ y) <<< 1 = (x <<< 1) ^^^ (y <<< 1) := by
  apply UInt8.toBitVec_inj.1
  simp [BitVec.shiftLeft_xor_distrib]
theorem shr_xor (x y : UInt8) : (x ^^^ y) >>> 7 = (x >>> 7) ^^^ (y >>> 7) := by
  apply UInt8.toBitVec_inj.1
  simp [BitVec.ushiftRight_xor_distrib]
theorem dbl_xor (x y : UInt8) : dbl (x ^^^ y) = dbl x ^^^ dbl y := by
  rw [dbl_form, dbl_form x, dbl_form y, shl_xor, shr_xor]
  have h : (((x >>> 7) ^^^ (y >>> 7)) * (27 : UInt8) : UInt8) = ((x >>> 7) * (27 : UInt8)) ^^^ ((y >>> 7) * (27 : UInt8)) := by
    rcases top_bit x with h1 | h1 <;> rcases top_bit y with h2 | h2 <;> rw [h1, h2] <;> rfl
  rw [h]
  simp only [UInt8.xor_assoc, UInt8.xor_comm, xlc]

/-- A block of 16 bytes, written out. -/
theorem sixteen (b : List UInt8) (h : b.length = 16) : ∃ a0 a1 a2 a3 a4 a5 a6 a7 a8 a9 a10 a11 a12 a13 a14 a15 : UInt8, b = [a0, a1, a2, a3, a4, a5, a6, a7, a8, a9, a10, a11, a12, a13, a14, a15] := by
  match b, h with
  | [a0, a1, a2, a3, a4, a5, a6, a7, a8, a9, a10, a11, a12, a13, a14, a15], _ => exact ⟨_, _, _, _, _, _, _, _, _, _, _, _, _, _, _, _, rfl⟩

theorem subB_inj {a b : List UInt8} (h : subB a = subB b) : a = b := by
  have : (subB a).map isb = (subB b).map isb := by rw [h]
  unfold subB at this
  rw [List.map_map, List.map_map] at this
  have e : (isb ∘ sb) = id := funext fun x => isb_sb x
  rwa [e, List.map_id, List.map_id] at this
theorem xorL_inj {a b k : List UInt8} (ha : a.length = 16) (hb : b.length = 16) (hk : k.length = 16) (h : xorL a k = xorL b k) : a = b := by
  have key : ∀ x : List UInt8, x.length = k.length → xorL (xorL x k) k = x := by
    intro x hx
    apply List.ext_getElem
    · simp [xorL, hx]
    · intro i h1 h2
      simp [xorL, UInt8.xor_assoc]
  rw [← key a (by omega), ← key b (by omega), h]
theorem shR_form (a0 a1 a2 a3 a4 a5 a6 a7 a8 a9 a10 a11 a12 a13 a14 a15 : UInt8) :
    shR [a0, a1, a2, a3, a4, a5, a6, a7, a8, a9, a10, a11, a12, a13, a14, a15] = [a0, a5, a10, a15, a4, a9, a14, a3, a8, a13, a2, a7, a12, a1, a6, a11] := rfl
theorem shR_inj {a b : List UInt8} (ha : a.length = 16) (hb : b.length = 16) (h : shR a = shR b) : a = b := by
  obtain ⟨a0, a1, a2, a3, a4, a5, a6, a7, a8, a9, a10, a11, a12, a13, a14, a15, rfl⟩ := sixteen a ha
  obtain ⟨b0, b1, b2, b3, b4, b5, b6, b7, b8, b9, b10, b11, b12, b13, b14, b15, rfl⟩ := sixteen b hb
  rw [shR_form, shR_form] at h
  simp only [List.cons.injEq, and_true] at h
  obtain ⟨h0, h5, h10, h15, h4, h9, h14, h3, h8, h13, h2, h7, h12, h1, h6, h11⟩ := h
  rw [h0, h1, h2, h3, h4, h5, h6, h7, h8, h9, h10, h11, h12, h13, h14, h15]

/-- A column mixed, from its byte x on. -/
def mx (a b c d : UInt8) : UInt8 := dbl a ^^^ tpl b ^^^ c ^^^ d
theorem mixC_form (a0 a1 a2 a3 a4 a5 a6 a7 a8 a9 a10 a11 a12 a13 a14 a15 : UInt8) :
    mixC [a0, a1, a2, a3, a4, a5, a6, a7, a8, a9, a10, a11, a12, a13, a14, a15] =
      [mx a0 a1 a2 a3, mx a1 a2 a3 a0, mx a2 a3 a0 a1, mx a3 a0 a1 a2, mx a4 a5 a6 a7, mx a5 a6 a7 a4, mx a6 a7 a4 a5, mx a7 a4 a5 a6,
       mx a8 a9 a10 a11, mx a9 a10 a11 a8, mx a10 a11 a8 a9, mx a11 a8 a9 a10, mx a12 a13 a14 a15, mx a13 a14 a15 a12, mx a14 a15 a12 a13, mx a15 a12 a13 a14] := rfl
/-- Twice mixed: 5 times the byte itself, and 4 times the one two places on. -/
def my (a c : UInt8) : UInt8 := dbl (dbl a) ^^^ a ^^^ dbl (dbl c)
theorem mx_mx (a b c d : UInt8) : mx (mx a b c d) (mx b c d a) (mx c d a b) (mx d a b c) = my a c := by
  unfold mx my tpl
  simp only [dbl_xor]
  generalize dbl (dbl a) = a2; generalize dbl (dbl b) = b2; generalize dbl (dbl c) = c2; generalize dbl (dbl d) = d2
  generalize dbl a = a1; generalize dbl b = b1; generalize dbl c = c1; generalize dbl d = d1
  simp only [UInt8.xor_comm, xlc, xcan, UInt8.xor_self, UInt8.xor_zero]
theorem my_my (a c : UInt8) : my (my a c) (my c a) = a := by
  unfold my
  simp only [dbl_xor]
  generalize dbl (dbl (dbl (dbl a))) = a4; generalize dbl (dbl (dbl (dbl c))) = c4
  generalize dbl (dbl a) = a2; generalize dbl (dbl c) = c2
  simp only [UInt8.xor_comm, xlc, xcan, UInt8.xor_self, UInt8.xor_zero]
theorem mixC_four (a : List UInt8) (ha : a.length = 16) : mixC (mixC (mixC (mixC a))) = a := by
  obtain ⟨a0, a1, a2, a3, a4, a5, a6, a7, a8, a9, a10, a11, a12, a13, a14, a15, rfl⟩ := sixteen a ha
  rw [mixC_form, mixC_form]
  simp only [mx_mx]
  rw [mixC_form, mixC_form]
  simp only [mx_mx, my_my]
theorem mixC_inj {a b : List UInt8} (ha : a.length = 16) (hb : b.length = 16) (h : mixC a = mixC b) : a = b := by
  rw [← mixC_four a ha, ← mixC_four b hb, h]

theorem rnd_inj {key a b : List UInt8} (hk : key.length = 16) (r : Nat) (hr : r ≤ 10) (ha : a.length = 16) (hb : b.length = 16) (h : rnd key r a = rnd key r b) : a = b := by
  have la : (subB a).length = 16 := by rw [subB_length, ha]
  have lb : (subB b).length = 16 := by rw [subB_length, hb]
  unfold rnd at h
  by_cases h10 : r < 10
  · rw [if_pos h10, if_pos h10] at h
    exact subB_inj (shR_inj la lb (mixC_inj (shR_length _) (shR_length _) (xorL_inj (mixC_length _) (mixC_length _) (rk_length key hk r hr) h)))
  · rw [if_neg h10, if_neg h10] at h
    exact subB_inj (shR_inj la lb (xorL_inj (shR_length _) (shR_length _) (rk_length key hk r hr) h))
theorem st_inj {key a b : List UInt8} (hk : key.length = 16) (ha : a.length = 16) (hb : b.length = 16) : ∀ r, r ≤ 10 → st key a r = st key b r → a = b
  | 0, _, h => xorL_inj ha hb (rk_length key hk 0 (by omega)) h
  | r + 1, hr, h => st_inj hk ha hb r (by omega) (rnd_inj hk (r + 1) hr (st_length key a hk ha r (by omega)) (st_length key b hk hb r (by omega)) h)
theorem enc_inj {key a b : List UInt8} (hk : key.length = 16) (ha : a.length = 16) (hb : b.length = 16) (h : enc key a = enc key b) : a = b := st_inj hk ha hb 10 (by omega) h

/-- The document's example. -/
def kEx : List UInt8 := [0, 1, 2, 3, 4, 5, 6, 7, 8, 9, 10, 11, 12, 13, 14, 15]
def bEx : List UInt8 := [0, 17, 34, 51, 68, 85, 102, 119, 136, 153, 170, 187, 204, 221, 238, 255]
set_option maxRecDepth 100000 in
theorem enc_ex : enc kEx bEx = [105, 196, 224, 216, 106, 123, 4, 48, 216, 205, 183, 128, 112, 180, 197, 90] := by decide +kernel
end Aes
end Go.Proofs.Ytjdpfeagicchnaa
