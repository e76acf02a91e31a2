/-
  2 TEXTS IN ONE (EA, EB): each says at its own head what it holds.
-/


section
/-
  PLAIN (no program): the words of chapter 3 as Lean functions on bytes and lists of bytes; each step of a round can be undone.
-/
namespace Go.Proofs.YtfodblgoamkgmaaDoor
namespace Aes

theorem all8 (p : UInt8 → Bool) (h : (List.range 256).all (fun n => p (UInt8.ofNat n)) = true) (x : UInt8) : p x = true := by
  have := List.all_eq_true.1 h x.toNat (List.mem_range.2 x.toNat_lt)
  simpa using this

/-- 2 times a byte, 3 times a byte. -/
def dbl (x : UInt8) : UInt8 := if x < 128 then x + x else (x + x) ^^^ 27
def tpl (x : UInt8) : UInt8 := dbl x ^^^ x
/-- A byte rotated to the left by n bits. -/
def rotl (x : UInt8) (n : Nat) : UInt8 := UInt8.ofNat (x.toNat * 2 ^ n % 256 + x.toNat / 2 ^ (8 - n))
/-- What an inverse is spread to, n of its rotations taken. -/
def sprN (x : UInt8) : Nat → UInt8
  | 0 => x ^^^ 99
  | k + 1 => sprN x k ^^^ rotl x (k + 1)
def spr (x : UInt8) : UInt8 := sprN x 4

/-- The substitution, written out. -/
def SBN : List Nat := [99, 124, 119, 123, 242, 107, 111, 197, 48, 1, 103, 43, 254, 215, 171, 118, 202, 130, 201, 125, 250, 89, 71, 240, 173, 212, 162, 175, 156, 164, 114, 192, 183, 253, 147, 38, 54, 63, 247, 204, 52, 165, 229, 241, 113, 216, 49, 21, 4, 199, 35, 195, 24, 150, 5, 154, 7, 18, 128, 226, 235, 39, 178, 117, 9, 131, 44, 26, 27, 110, 90, 160, 82, 59, 214, 179, 41, 227, 47, 132, 83, 209, 0, 237, 32, 252, 177, 91, 106, 203, 190, 57, 74, 76, 88, 207, 208, 239, 170, 251, 67, 77, 51, 133, 69, 249, 2, 127, 80, 60, 159, 168, 81, 163, 64, 143, 146, 157, 56, 245, 188, 182, 218, 33, 16, 255, 243, 210, 205, 12, 19, 236, 95, 151, 68, 23, 196, 167, 126, 61, 100, 93, 25, 115, 96, 129, 79, 220, 34, 42, 144, 136, 70, 238, 184, 20, 222, 94, 11, 219, 224, 50, 58, 10, 73, 6, 36, 92, 194, 211, 172, 98, 145, 149, 228, 121, 231, 200, 55, 109, 141, 213, 78, 169, 108, 86, 244, 234, 101, 122, 174, 8, 186, 120, 37, 46, 28, 166, 180, 198, 232, 221, 116, 31, 75, 189, 139, 138, 112, 62, 181, 102, 72, 3, 246, 14, 97, 53, 87, 185, 134, 193, 29, 158, 225, 248, 152, 17, 105, 217, 142, 148, 155, 30, 135, 233, 206, 85, 40, 223, 140, 161, 137, 13, 191, 230, 66, 104, 65, 153, 45, 15, 176, 84, 187, 22]
def ISBN : List Nat := [82, 9, 106, 213, 48, 54, 165, 56, 191, 64, 163, 158, 129, 243, 215, 251, 124, 227, 57, 130, 155, 47, 255, 135, 52, 142, 67, 68, 196, 222, 233, 203, 84, 123, 148, 50, 166, 194, 35, 61, 238, 76, 149, 11, 66, 250, 195, 78, 8, 46, 161, 102, 40, 217, 36, 178, 118, 91, 162, 73, 109, 139, 209, 37, 114, 248, 246, 100, 134, 104, 152, 22, 212, 164, 92, 204, 93, 101, 182, 146, 108, 112, 72, 80, 253, 237, 185, 218, 94, 21, 70, 87, 167, 141, 157, 132, 144, 216, 171, 0, 140, 188, 211, 10, 247, 228, 88, 5, 184, 179, 69, 6, 208, 44, 30, 143, 202, 63, 15, 2, 193, 175, 189, 3, 1, 19, 138, 107, 58, 145, 17, 65, 79, 103, 220, 234, 151, 242, 207, 206, 240, 180, 230, 115, 150, 172, 116, 34, 231, 173, 53, 133, 226, 249, 55, 232, 28, 117, 223, 110, 71, 241, 26, 113, 29, 41, 197, 137, 111, 183, 98, 14, 170, 24, 190, 27, 252, 86, 62, 75, 198, 210, 121, 32, 154, 219, 192, 254, 120, 205, 90, 244, 31, 221, 168, 51, 136, 7, 199, 49, 177, 18, 16, 89, 39, 128, 236, 95, 96, 81, 127, 169, 25, 181, 74, 13, 45, 229, 122, 159, 147, 201, 156, 239, 160, 224, 59, 77, 174, 42, 245, 176, 200, 235, 187, 60, 131, 83, 153, 97, 23, 43, 4, 126, 186, 119, 214, 38, 225, 105, 20, 99, 85, 33, 12, 125]
def sb (x : UInt8) : UInt8 := UInt8.ofNat (SBN.getD x.toNat 0)
def isb (x : UInt8) : UInt8 := UInt8.ofNat (ISBN.getD x.toNat 0)
def SBL : List UInt8 := (List.range 256).map fun n => sb (UInt8.ofNat n)
theorem SBL_length : SBL.length = 256 := by simp [SBL]
theorem SBL_at (x : UInt8) : SBL.getD x.toNat 0 = sb x := by
  have h := x.toNat_lt
  simp [SBL, List.getD_eq_getElem?_getD, h]
set_option maxRecDepth 100000 in
theorem isb_sb (x : UInt8) : isb (sb x) = x := by
  have := all8 (fun x => isb (sb x) == x) (by decide +kernel) x
  simpa using this

/-- The powers of 3. -/
def pw : Nat → UInt8
  | 0 => 1
  | k + 1 => tpl (pw k)
/-- The table behind k rounds of the program's second loop. -/
def tab : Nat → List UInt8
  | 0 => (List.replicate 256 0).set 0 (spr 0)
  | k + 1 => (tab k).set (pw k).toNat (spr (pw (255 - k)))
theorem tab_length (k : Nat) : (tab k).length = 256 := by
  induction k with
  | zero => rw [tab, List.length_set, List.length_replicate]
  | succ k ih => rw [tab, List.length_set, ih]
set_option maxRecDepth 100000 in
theorem tab_eq : tab 256 = SBL := by decide +kernel

/-- Exclusive or, byte by byte. -/
def xorL (a b : List UInt8) : List UInt8 := List.zipWith (· ^^^ ·) a b
theorem xorL_length (a b : List UInt8) (n : Nat) (ha : a.length = n) (hb : b.length = n) : (xorL a b).length = n := by simp [xorL, ha, hb]
theorem xorL_at (a b : List UInt8) (j : Nat) (ha : j < a.length) (hb : j < b.length) : (xorL a b).getD j 0 = a.getD j 0 ^^^ b.getD j 0 := by
  simp [xorL, List.getD_eq_getElem?_getD, List.getElem?_zipWith, ha, hb]
def subB (b : List UInt8) : List UInt8 := b.map sb
def shAt (i : Nat) : Nat := (i / 4 + i) % 4 * 4 + i % 4
def shR (b : List UInt8) : List UInt8 := (List.range 16).map fun i => b.getD (shAt i) 0
def mixAt (b : List UInt8) (i : Nat) : UInt8 := dbl (b.getD i 0) ^^^ tpl (b.getD (4 * (i / 4) + (i + 1) % 4) 0) ^^^ b.getD (4 * (i / 4) + (i + 2) % 4) 0 ^^^ b.getD (4 * (i / 4) + (i + 3) % 4) 0
def mixC (b : List UInt8) : List UInt8 := (List.range 16).map (mixAt b)
theorem subB_length (b : List UInt8) : (subB b).length = b.length := List.length_map _
theorem shR_length (b : List UInt8) : (shR b).length = 16 := by simp [shR]
theorem mixC_length (b : List UInt8) : (mixC b).length = 16 := by simp [mixC]
theorem subB_at (b : List UInt8) (j : Nat) (h : j < b.length) : (subB b).getD j 0 = sb (b.getD j 0) := by
  simp [subB, List.getD_eq_getElem?_getD, h]
theorem shR_at (b : List UInt8) (j : Nat) (h : j < 16) : (shR b).getD j 0 = b.getD (shAt j) 0 := by
  simp [shR, List.getD_eq_getElem?_getD, h]
theorem mixC_at (b : List UInt8) (j : Nat) (h : j < 16) : (mixC b).getD j 0 = mixAt b j := by
  simp [mixC, List.getD_eq_getElem?_getD, h]

/-- The mark of the i-th word. -/
def mark : Nat → UInt8
  | 0 => 1
  | k + 1 => dbl (mark k)
def gK (c : UInt8) (t : List UInt8) : List UInt8 := [sb (t.getD 1 0) ^^^ c, sb (t.getD 2 0), sb (t.getD 3 0), sb (t.getD 0 0)]
def tK (ws : List (List UInt8)) : List UInt8 :=
  if ws.length % 4 = 0 then gK (mark (ws.length / 4 - 1)) (ws.getD (ws.length - 1) []) else ws.getD (ws.length - 1) []
def nextK (key : List UInt8) (ws : List (List UInt8)) : List UInt8 :=
  if ws.length < 4 then (key.drop (4 * ws.length)).take 4 else xorL (ws.getD (ws.length - 4) []) (tK ws)
/-- The first n words of the round keys. -/
def wk (key : List UInt8) : Nat → List (List UInt8)
  | 0 => []
  | n + 1 => wk key n ++ [nextK key (wk key n)]
theorem wk_length (key : List UInt8) (n : Nat) : (wk key n).length = n := by
  induction n with
  | zero => rfl
  | succ n ih => simp [wk, ih]
theorem wk_head (key : List UInt8) (n : Nat) (h : n < 4) : wk key (n + 1) = wk key n ++ [(key.drop (4 * n)).take 4] := by
  rw [wk, nextK, wk_length, if_pos h]
theorem wk_tail (key : List UInt8) (n : Nat) (h : 4 ≤ n) : wk key (n + 1) = wk key n ++ [xorL ((wk key n).getD (n - 4) []) (tK (wk key n))] := by
  rw [wk, nextK, wk_length, if_neg (by omega)]
theorem tK_on (key : List UInt8) (n : Nat) (h : n % 4 = 0) : tK (wk key n) = gK (mark (n / 4 - 1)) ((wk key n).getD (n - 1) []) := by
  rw [tK, wk_length, if_pos h]
theorem tK_off (key : List UInt8) (n : Nat) (h : n % 4 ≠ 0) : tK (wk key n) = (wk key n).getD (n - 1) [] := by
  rw [tK, wk_length, if_neg h]
theorem getD_mem {l : List (List UInt8)} {j : Nat} (h : j < l.length) : l.getD j [] ∈ l := by
  rw [List.getD_eq_getElem?_getD, List.getElem?_eq_getElem h]; exact List.getElem_mem h
theorem wk_four (key : List UInt8) (hk : key.length = 16) (n : Nat) : ∀ x ∈ wk key n, x.length = 4 := by
  induction n with
  | zero => intro x hx; simp [wk] at hx
  | succ n ih =>
    intro x hx
    rcases Nat.lt_or_ge n 4 with h | h
    · rw [wk_head key n h] at hx
      rcases List.mem_append.1 hx with hx | hx
      · exact ih x hx
      · simp at hx; subst hx; simp; omega
    · rw [wk_tail key n h] at hx
      rcases List.mem_append.1 hx with hx | hx
      · exact ih x hx
      · simp at hx
        subst hx
        refine xorL_length _ _ 4 (ih _ (getD_mem (by rw [wk_length]; omega))) ?_
        rcases Nat.eq_zero_or_pos (n % 4) with h4 | h4
        · rw [tK_on key n h4]; rfl
        · rw [tK_off key n (by omega)]; exact ih _ (getD_mem (by rw [wk_length]; omega))
theorem flat_length : ∀ (l : List (List UInt8)), (∀ x ∈ l, x.length = 4) → l.flatten.length = 4 * l.length
  | [], _ => rfl
  | x :: r, h => by
    rw [List.flatten_cons, List.length_append, flat_length r (fun y hy => h y (by simp [hy])), h x (by simp), List.length_cons]; omega
theorem flat_at : ∀ (l : List (List UInt8)) (_ : ∀ x ∈ l, x.length = 4) (j m : Nat) (_ : m < 4) (_ : j < l.length), l.flatten.getD (4 * j + m) 0 = (l.getD j []).getD m 0
  | [], _, j, m, _, hj => by simp at hj
  | x :: r, h, j, m, hm, hj => by
    have hx := h x (by simp)
    cases j with
    | zero => rw [List.flatten_cons, List.getD_eq_getElem?_getD, List.getElem?_append_left (by omega)]; simp [List.getD_eq_getElem?_getD]
    | succ j =>
      have := flat_at r (fun y hy => h y (by simp [hy])) j m hm (by simpa using hj)
      rw [List.flatten_cons, List.getD_eq_getElem?_getD, List.getElem?_append_right (by omega), show 4 * (j + 1) + m - x.length = 4 * j + m by omega, ← List.getD_eq_getElem?_getD, this]
      simp [List.getD_eq_getElem?_getD]
/-- All round keys, one behind the other; the key of round r. -/
def rks (key : List UInt8) : List UInt8 := (wk key 44).flatten
def rk (key : List UInt8) (r : Nat) : List UInt8 := ((rks key).drop (16 * r)).take 16
theorem rks_length (key : List UInt8) (hk : key.length = 16) : (rks key).length = 176 := by
  rw [rks, flat_length _ (wk_four key hk 44), wk_length]
theorem rk_length (key : List UInt8) (hk : key.length = 16) (r : Nat) (hr : r ≤ 10) : (rk key r).length = 16 := by
  rw [rk, List.length_take, List.length_drop, rks_length key hk]; omega
theorem rk_at (key : List UInt8) (r j : Nat) (hj : j < 16) : (rk key r).getD j 0 = (rks key).getD (16 * r + j) 0 := by
  rw [rk, List.getD_eq_getElem?_getD, List.getElem?_take, if_pos hj, List.getElem?_drop, List.getD_eq_getElem?_getD]

/-- A round; the block behind r rounds. -/
def rnd (key : List UInt8) (r : Nat) (b : List UInt8) : List UInt8 :=
  xorL (if r < 10 then mixC (shR (subB b)) else shR (subB b)) (rk key r)
def st (key b : List UInt8) : Nat → List UInt8
  | 0 => xorL b (rk key 0)
  | r + 1 => rnd key (r + 1) (st key b r)
def enc (key b : List UInt8) : List UInt8 := st key b 10
theorem st_length (key b : List UInt8) (hk : key.length = 16) (hb : b.length = 16) : ∀ r, r ≤ 10 → (st key b r).length = 16
  | 0, _ => xorL_length _ _ 16 hb (rk_length key hk 0 (by omega))
  | r + 1, h => by
    rw [st, rnd]
    refine xorL_length _ _ 16 ?_ (rk_length key hk (r + 1) h)
    split
    · exact mixC_length _
    · exact shR_length _
theorem enc_length (key b : List UInt8) (hk : key.length = 16) (hb : b.length = 16) : (enc key b).length = 16 := st_length key b hk hb 10 (by omega)
end Aes
end Go.Proofs.YtfodblgoamkgmaaDoor
end

section
/-
  PLAIN: each step of a round can be undone, so by one key unlike blocks are turned to unlike ones.
-/
namespace Go.Proofs.YtfodblgoamkgmaaDoor
namespace Aes

theorem xcan (a b : UInt8) : a ^^^ (a ^^^ b) = b := by rw [← UInt8.xor_assoc, UInt8.xor_self, UInt8.zero_xor]
theorem xlc (a b c : UInt8) : a ^^^ (b ^^^ c) = b ^^^ (a ^^^ c) := by rw [← UInt8.xor_assoc, UInt8.xor_comm a b, UInt8.xor_assoc]

theorem dbl_form (x : UInt8) : dbl x = (x <<< 1) ^^^ ((x >>> 7) * 27) := by
  have := all8 (fun x => dbl x == (x <<< 1) ^^^ ((x >>> 7) * 27)) (by decide +kernel) x
  simpa using this
theorem top_bit (x : UInt8) : x >>> 7 = 0 ∨ x >>> 7 = 1 := by
  have := all8 (fun x => x >>> 7 == 0 || x >>> 7 == 1) (by decide +kernel) x
  simpa using this
theorem shl_xor (x y : UInt8) : (x ^^^ y) <<< 1 = (x <<< 1) ^^^ (y <<< 1) := by
  apply UInt8.toBitVec_inj.1
  simp [BitVec.shiftLeft_xor_distrib]
theorem shr_xor (x y : UInt8) : (x ^^^ y) >>> 7 = (x >>> 7) ^^^ (y >>> 7) := by
  apply UInt8.toBitVec_inj.1
  simp [BitVec.ushiftRight_xor_distrib]
theorem dbl_xor (x y : UInt8) : dbl (x ^^^ y) = dbl x ^^^ dbl y := by
  rw [dbl_form, dbl_form x, dbl_form y, shl_xor, shr_xor]
  have h : (((x >>> 7) ^^^ (y >>> 7)) * (27 : UInt8) : UInt8) = ((x >>> 7) * (27 : UInt8)) ^^^ ((y >>> 7) * (27 : UInt8)) := by
    rcases top_bit x with h1 | h1 <;> rcases top_bit y with h2 | h2 <;> rw [h1, h2] <;> rfl
  rw [h]
  simp only [UInt8.xor_assoc, UInt8.xor_comm, xlc]

/-- A block of 16 bytes, written out. -/
theorem sixteen (b : List UInt8) (h : b.length = 16) : ∃ a0 a1 a2 a3 a4 a5 a6 a7 a8 a9 a10 a11 a12 a13 a14 a15 : UInt8, b = [a0, a1, a2, a3, a4, a5, a6, a7, a8, a9, a10, a11, a12, a13, a14, a15] := by
  match b, h with
  | [a0, a1, a2, a3, a4, a5, a6, a7, a8, a9, a10, a11, a12, a13, a14, a15], _ => exact ⟨_, _, _, _, _, _, _, _, _, _, _, _, _, _, _, _, rfl⟩

theorem subB_inj {a b : List UInt8} (h : subB a = subB b) : a = b := by
  have : (subB a).map isb = (subB b).map isb := by rw [h]
  unfold subB at this
  rw [List.map_map, List.map_map] at this
  have e : (isb ∘ sb) = id := funext fun x => isb_sb x
  rwa [e, List.map_id, List.map_id] at this
theorem xorL_inj {a b k : List UInt8} (ha : a.length = 16) (hb : b.length = 16) (hk : k.length = 16) (h : xorL a k = xorL b k) : a = b := by
  have key : ∀ x : List UInt8, x.length = k.length → xorL (xorL x k) k = x := by
    intro x hx
    apply List.ext_getElem
    · simp [xorL, hx]
    · intro i h1 h2
      simp [xorL, UInt8.xor_assoc]
  rw [← key a (by omega), ← key b (by omega), h]
theorem shR_form (a0 a1 a2 a3 a4 a5 a6 a7 a8 a9 a10 a11 a12 a13 a14 a15 : UInt8) :
    shR [a0, a1, a2, a3, a4, a5, a6, a7, a8, a9, a10, a11, a12, a13, a14, a15] = [a0, a5, a10, a15, a4, a9, a14, a3, a8, a13, a2, a7, a12, a1, a6, a11] := rfl
theorem shR_inj {a b : List UInt8} (ha : a.length = 16) (hb : b.length = 16) (h : shR a = shR b) : a = b := by
  obtain ⟨a0, a1, a2, a3, a4, a5, a6, a7, a8, a9, a10, a11, a12, a13, a14, a15, rfl⟩ := sixteen a ha
  obtain ⟨b0, b1, b2, b3, b4, b5, b6, b7, b8, b9, b10, b11, b12, b13, b14, b15, rfl⟩ := sixteen b hb
  rw [shR_form, shR_form] at h
  simp only [List.cons.injEq, and_true] at h
  obtain ⟨h0, h5, h10, h15, h4, h9, h14, h3, h8, h13, h2, h7, h12, h1, h6, h11⟩ := h
  rw [h0, h1, h2, h3, h4, h5, h6, h7, h8, h9, h10, h11, h12, h13, h14, h15]

/-- A column mixed, from its byte x on. -/
def mx (a b c d : UInt8) : UInt8 := dbl a ^^^ tpl b ^^^ c ^^^ d
theorem mixC_form (a0 a1 a2 a3 a4 a5 a6 a7 a8 a9 a10 a11 a12 a13 a14 a15 : UInt8) :
    mixC [a0, a1, a2, a3, a4, a5, a6, a7, a8, a9, a10, a11, a12, a13, a14, a15] =
      [mx a0 a1 a2 a3, mx a1 a2 a3 a0, mx a2 a3 a0 a1, mx a3 a0 a1 a2, mx a4 a5 a6 a7, mx a5 a6 a7 a4, mx a6 a7 a4 a5, mx a7 a4 a5 a6,
       mx a8 a9 a10 a11, mx a9 a10 a11 a8, mx a10 a11 a8 a9, mx a11 a8 a9 a10, mx a12 a13 a14 a15, mx a13 a14 a15 a12, mx a14 a15 a12 a13, mx a15 a12 a13 a14] := rfl
/-- Twice mixed: 5 times the byte itself, and 4 times the one two places on. -/
def my (a c : UInt8) : UInt8 := dbl (dbl a) ^^^ a ^^^ dbl (dbl c)
theorem mx_mx (a b c d : UInt8) : mx (mx a b c d) (mx b c d a) (mx c d a b) (mx d a b c) = my a c := by
  unfold mx my tpl
  simp only [dbl_xor]
  generalize dbl (dbl a) = a2; generalize dbl (dbl b) = b2; generalize dbl (dbl c) = c2; generalize dbl (dbl d) = d2
  generalize dbl a = a1; generalize dbl b = b1; generalize dbl c = c1; generalize dbl d = d1
  simp only [UInt8.xor_comm, xlc, xcan, UInt8.xor_self, UInt8.xor_zero]
theorem my_my (a c : UInt8) : my (my a c) (my c a) = a := by
  unfold my
  simp only [dbl_xor]
  generalize dbl (dbl (dbl (dbl a))) = a4; generalize dbl (dbl (dbl (dbl c))) = c4
  generalize dbl (dbl a) = a2; generalize dbl (dbl c) = c2
  simp only [UInt8.xor_comm, xlc, xcan, UInt8.xor_self, UInt8.xor_zero]
theorem mixC_four (a : List UInt8) (ha : a.length = 16) : mixC (mixC (mixC (mixC a))) = a := by
  obtain ⟨a0, a1, a2, a3, a4, a5, a6, a7, a8, a9, a10, a11, a12, a13, a14, a15, rfl⟩ := sixteen a ha
  rw [mixC_form, mixC_form]
  simp only [mx_mx]
  rw [mixC_form, mixC_form]
  simp only [mx_mx, my_my]
theorem mixC_inj {a b : List UInt8} (ha : a.length = 16) (hb : b.length = 16) (h : mixC a = mixC b) : a = b := by
  rw [← mixC_four a ha, ← mixC_four b hb, h]

theorem rnd_inj {key a b : List UInt8} (hk : key.length = 16) (r : Nat) (hr : r ≤ 10) (ha : a.length = 16) (hb : b.length = 16) (h : rnd key r a = rnd key r b) : a = b := by
  have la : (subB a).length = 16 := by rw [subB_length, ha]
  have lb : (subB b).length = 16 := by rw [subB_length, hb]
  unfold rnd at h
  by_cases h10 : r < 10
  · rw [if_pos h10, if_pos h10] at h
    exact subB_inj (shR_inj la lb (mixC_inj (shR_length _) (shR_length _) (xorL_inj (mixC_length _) (mixC_length _) (rk_length key hk r hr) h)))
  · rw [if_neg h10, if_neg h10] at h
    exact subB_inj (shR_inj la lb (xorL_inj (shR_length _) (shR_length _) (rk_length key hk r hr) h))
theorem st_inj {key a b : List UInt8} (hk : key.length = 16) (ha : a.length = 16) (hb : b.length = 16) : ∀ r, r ≤ 10 → st key a r = st key b r → a = b
  | 0, _, h => xorL_inj ha hb (rk_length key hk 0 (by omega)) h
  | r + 1, hr, h => st_inj hk ha hb r (by omega) (rnd_inj hk (r + 1) hr (st_length key a hk ha r (by omega)) (st_length key b hk hb r (by omega)) h)
theorem enc_inj {key a b : List UInt8} (hk : key.length = 16) (ha : a.length = 16) (hb : b.length = 16) (h : enc key a = enc key b) : a = b := st_inj hk ha hb 10 (by omega) h

/-- The document's example. -/
def kEx : List UInt8 := [0, 1, 2, 3, 4, 5, 6, 7, 8, 9, 10, 11, 12, 13, 14, 15]
def bEx : List UInt8 := [0, 17, 34, 51, 68, 85, 102, 119, 136, 153, 170, 187, 204, 221, 238, 255]
set_option maxRecDepth 100000 in
theorem enc_ex : enc kEx bEx = [105, 196, 224, 216, 106, 123, 4, 48, 216, 205, 183, 128, 112, 180, 197, 90] := by decide +kernel
end Aes
end Go.Proofs.YtfodblgoamkgmaaDoor
end
