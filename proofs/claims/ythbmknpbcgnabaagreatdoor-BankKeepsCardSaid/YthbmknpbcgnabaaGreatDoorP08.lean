/-
  OF THE WALK: HmTI, EB.
-/
import Derived.Lib.SmallJoins
import Derived.Test.YthbmknpbcgnabaaGreatDoorP07
section
namespace Go.Proofs.YthbmknpbcgnabaaGreatDoor.Hm
open Go.RowKit Sha
def KeyAt (w : World) (p : Value) (key : List UInt8) : Prop :=
  ∃ g kb kc rb rc cb cc, p = .pointer (some ⟨g, 0, none⟩) ∧ g < w.heap.size ∧ Sees w g 0 [.slice (some ⟨kb, 0, none⟩) 64 kc, .slice (some ⟨rb, 0, none⟩) 8 rc, .slice (some ⟨cb, 0, none⟩) 64 cc]
    ∧ kb < w.heap.size ∧ 64 ≤ kc ∧ Sees w kb 0 ((fullK key).map V8) ∧ rb < w.heap.size ∧ Sees w rb 0 (R0.list.map V32) ∧ cb < w.heap.size ∧ Sees w cb 0 (K0.map V32)
theorem KeyAt.below {w w' : World} {p : Value} {key : List UInt8} (h : KeyAt w p key) (hb : Below w.heap.size w w') : KeyAt w' p key := by
  obtain ⟨g, kb, kc, rb, rc, cb, cc, e, h1, h2, h3, h4, h5, h6, h7, h8, h9⟩ := h
  have hs := hb.size
  exact ⟨g, kb, kc, rb, rc, cb, cc, e, by omega, h2.below hb h1, by omega, h4, h5.below hb h3, by omega, h7.below hb h6, by omega, h9.below hb h8⟩
def KeyFrom (w : World) (B : Nat) (p : Value) (key : List UInt8) : Prop :=
  ∃ g kb kc rb rc cb cc, p = .pointer (some ⟨g, 0, none⟩) ∧ (g < w.heap.size ∧ Sees w g 0 [.slice (some ⟨kb, 0, none⟩) 64 kc, .slice (some ⟨rb, 0, none⟩) 8 rc, .slice (some ⟨cb, 0, none⟩) 64 cc]
    ∧ kb < w.heap.size ∧ 64 ≤ kc ∧ Sees w kb 0 ((fullK key).map V8) ∧ rb < w.heap.size ∧ Sees w rb 0 (R0.list.map V32) ∧ cb < w.heap.size ∧ Sees w cb 0 (K0.map V32)) ∧ B ≤ g ∧ B ≤ kb ∧ B ≤ rb ∧ B ≤ cb
theorem KeyFrom.at {w : World} {B : Nat} {p : Value} {key : List UInt8} (h : KeyFrom w B p key) : KeyAt w p key := by
  obtain ⟨g, kb, kc, rb, rc, cb, cc, e, h, _⟩ := h
  exact ⟨g, kb, kc, rb, rc, cb, cc, e, h⟩
def lenOf : Value → Nat
  | .slice _ n _ => n
  | _ => 0
end Go.Proofs.YthbmknpbcgnabaaGreatDoor.Hm
end
section
namespace Go.Proofs.YthbmknpbcgnabaaGreatDoor.Hm
open Go.RowKit Sha
end Go.Proofs.YthbmknpbcgnabaaGreatDoor.Hm
end
section
namespace Go.Proofs.YthbmknpbcgnabaaGreatDoor.Hm
open Go.RowKit Sha
def KeyCells (g rb rc cb cc : Nat) (W : World) : Prop :=
  W.cell? ⟨g, 1, none⟩ = some (.slice (some ⟨rb, 0, none⟩) 8 rc) ∧ W.cell? ⟨g, 2, none⟩ = some (.slice (some ⟨cb, 0, none⟩) 64 cc)
def KeyIn (w : World) (g rb rc cb cc : Nat) (key : List UInt8) : Prop :=
  KeyAt w (.pointer (some ⟨g, 0, none⟩)) key ∧ g < w.heap.size ∧ KeyCells g rb rc cb cc w ∧ rb < w.heap.size ∧ Sees w rb 0 (R0.list.map V32) ∧ cb < w.heap.size ∧ Sees w cb 0 (K0.map V32)
theorem KeyCells.below {g rb rc cb cc : Nat} {w w' : World} (h : KeyCells g rb rc cb cc w) (hg : g < w.heap.size) (hb : Below w.heap.size w w') : KeyCells g rb rc cb cc w' :=
  ⟨(World.cell?_of_block (w := w) (hb.block g hg)).trans h.1, (World.cell?_of_block (w := w) (hb.block g hg)).trans h.2⟩
theorem KeyIn.below {w w' : World} {g rb rc cb cc : Nat} {key : List UInt8} (h : KeyIn w g rb rc cb cc key) (hb : Below w.heap.size w w') : KeyIn w' g rb rc cb cc key := by
  obtain ⟨h1, h2, h3, h4, h5, h6, h7⟩ := h
  have hs := hb.size
  exact ⟨h1.below hb, by omega, h3.below h2 hb, by omega, h5.below hb h4, by omega, h7.below hb h6⟩
theorem KeyCells.app {g rb rc cb cc : Nat} {w w1 w2 : World} {v : Value} {ys : List Value} (h : KeyCells g rb rc cb cc w1) (hg : g < w.heap.size) (ho : Own w1 w.heap.size 5 v ys) (hs : w.heap.size ≤ w1.heap.size) (hgr : w1.grownBy w2 v.ownBlock) : KeyCells g rb rc cb cc w2 :=
  ⟨cell_app ho hgr hs hg h.1, cell_app ho hgr hs hg h.2⟩
end Go.Proofs.YthbmknpbcgnabaaGreatDoor.Hm
end
section
namespace Go.Proofs.YthbmknpbcgnabaaGreatDoor
namespace Aes
def dbl (x : UInt8) : UInt8 := if x < 128 then x + x else (x + x) ^^^ 27
def tpl (x : UInt8) : UInt8 := dbl x ^^^ x
def rotl (x : UInt8) (n : Nat) : UInt8 := UInt8.ofNat (x.toNat * 2 ^ n % 256 + x.toNat / 2 ^ (8 - n))
def sprN (x : UInt8) : Nat → UInt8
  | 0 => x ^^^ 99
  | k + 1 => sprN x k ^^^ rotl x (k + 1)
def spr (x : UInt8) : UInt8 := sprN x 4
def SBN : List Nat := [99, 124, 119, 123, 242, 107, 111, 197, 48, 1, 103, 43, 254, 215, 171, 118, 202, 130, 201, 125, 250, 89, 71, 240, 173, 212, 162, 175, 156, 164, 114, 192, 183, 253, 147, 38, 54, 63, 247, 204, 52, 165, 229, 241, 113, 216, 49, 21, 4, 199, 35, 195, 24, 150, 5, 154, 7, 18, 128, 226, 235, 39, 178, 117, 9, 131, 44, 26, 27, 110, 90, 160, 82, 59, 214, 179, 41, 227, 47, 132, 83, 209, 0, 237, 32, 252, 177, 91, 106, 203, 190, 57, 74, 76, 88, 207, 208, 239, 170, 251, 67, 77, 51, 133, 69, 249, 2, 127, 80, 60, 159, 168, 81, 163, 64, 143, 146, 157, 56, 245, 188, 182, 218, 33, 16, 255, 243, 210, 205, 12, 19, 236, 95, 151, 68, 23, 196, 167, 126, 61, 100, 93, 25, 115, 96, 129, 79, 220, 34, 42, 144, 136, 70, 238, 184, 20, 222, 94, 11, 219, 224, 50, 58, 10, 73, 6, 36, 92, 194, 211, 172, 98, 145, 149, 228, 121, 231, 200, 55, 109, 141, 213, 78, 169, 108, 86, 244, 234, 101, 122, 174, 8, 186, 120, 37, 46, 28, 166, 180, 198, 232, 221, 116, 31, 75, 189, 139, 138, 112, 62, 181, 102, 72, 3, 246, 14, 97, 53, 87, 185, 134, 193, 29, 158, 225, 248, 152, 17, 105, 217, 142, 148, 155, 30, 135, 233, 206, 85, 40, 223, 140, 161, 137, 13, 191, 230, 66, 104, 65, 153, 45, 15, 176, 84, 187, 22]
def sb (x : UInt8) : UInt8 := UInt8.ofNat (SBN.getD x.toNat 0)
def SBL : List UInt8 := (List.range 256).map fun n => sb (UInt8.ofNat n)
theorem SBL_length : SBL.length = 256 := by simp [SBL]
theorem SBL_at (x : UInt8) : SBL.getD x.toNat 0 = sb x := by
  have h := x.toNat_lt
  simp [SBL, List.getD_eq_getElem?_getD, h]
def pw : Nat → UInt8
  | 0 => 1
  | k + 1 => tpl (pw k)
def tab : Nat → List UInt8
  | 0 => (List.replicate 256 0).set 0 (spr 0)
  | k + 1 => (tab k).set (pw k).toNat (spr (pw (255 - k)))
theorem tab_length (k : Nat) : (tab k).length = 256 := by
  induction k with
  | zero => rw [tab, List.length_set, List.length_replicate]
  | succ k ih => rw [tab, List.length_set, ih]
set_option maxRecDepth 100000 in
theorem tab_eq : tab 256 = SBL := by decide +kernel
def xorL (a b : List UInt8) : List UInt8 := List.zipWith (· ^^^ ·) a b
theorem xorL_length (a b : List UInt8) (n : Nat) (ha : a.length = n) (hb : b.length = n) : (xorL a b).length = n := by simp [xorL, ha, hb]
theorem xorL_at (a b : List UInt8) (j : Nat) (ha : j < a.length) (hb : j < b.length) : (xorL a b).getD j 0 = a.getD j 0 ^^^ b.getD j 0 := by
  simp [xorL, List.getD_eq_getElem?_getD, List.getElem?_zipWith, ha, hb]
def subB (b : List UInt8) : List UInt8 := b.map sb
def shAt (i : Nat) : Nat := (i / 4 + i) % 4 * 4 + i % 4
def shR (b : List UInt8) : List UInt8 := (List.range 16).map fun i => b.getD (shAt i) 0
def mixAt (b : List UInt8) (i : Nat) : UInt8 := dbl (b.getD i 0) ^^^ tpl (b.getD (4 * (i / 4) + (i + 1) % 4) 0) ^^^ b.getD (4 * (i / 4) + (i + 2) % 4) 0 ^^^ b.getD (4 * (i / 4) + (i + 3) % 4) 0
def mixC (b : List UInt8) : List UInt8 := (List.range 16).map (mixAt b)
theorem subB_length (b : List UInt8) : (subB b).length = b.length := List.length_map _
theorem shR_length (b : List UInt8) : (shR b).length = 16 := by simp [shR]
theorem mixC_length (b : List UInt8) : (mixC b).length = 16 := by simp [mixC]
theorem subB_at (b : List UInt8) (j : Nat) (h : j < b.length) : (subB b).getD j 0 = sb (b.getD j 0) := by
  simp [subB, List.getD_eq_getElem?_getD, h]
theorem shR_at (b : List UInt8) (j : Nat) (h : j < 16) : (shR b).getD j 0 = b.getD (shAt j) 0 := by
  simp [shR, List.getD_eq_getElem?_getD, h]
theorem mixC_at (b : List UInt8) (j : Nat) (h : j < 16) : (mixC b).getD j 0 = mixAt b j := by
  simp [mixC, List.getD_eq_getElem?_getD, h]
def mark : Nat → UInt8
  | 0 => 1
  | k + 1 => dbl (mark k)
def gK (c : UInt8) (t : List UInt8) : List UInt8 := [sb (t.getD 1 0) ^^^ c, sb (t.getD 2 0), sb (t.getD 3 0), sb (t.getD 0 0)]
def tK (ws : List (List UInt8)) : List UInt8 :=
  if ws.length % 4 = 0 then gK (mark (ws.length / 4 - 1)) (ws.getD (ws.length - 1) []) else ws.getD (ws.length - 1) []
def nextK (key : List UInt8) (ws : List (List UInt8)) : List UInt8 :=
  if ws.length < 4 then (key.drop (4 * ws.length)).take 4 else xorL (ws.getD (ws.length - 4) []) (tK ws)
def wk (key : List UInt8) : Nat → List (List UInt8)
  | 0 => []
  | n + 1 => wk key n ++ [nextK key (wk key n)]
theorem wk_length (key : List UInt8) (n : Nat) : (wk key n).length = n := by
  induction n with
  | zero => rfl
  | succ n ih => simp [wk, ih]
theorem wk_head (key : List UInt8) (n : Nat) (h : n < 4) : wk key (n + 1) = wk key n ++ [(key.drop (4 * n)).take 4] := by
  rw [wk, nextK, wk_length, if_pos h]
theorem wk_tail (key : List UInt8) (n : Nat) (h : 4 ≤ n) : wk key (n + 1) = wk key n ++ [xorL ((wk key n).getD (n - 4) []) (tK (wk key n))] := by
  rw [wk, nextK, wk_length, if_neg (by omega)]
theorem tK_on (key : List UInt8) (n : Nat) (h : n % 4 = 0) : tK (wk key n) = gK (mark (n / 4 - 1)) ((wk key n).getD (n - 1) []) := by
  rw [tK, wk_length, if_pos h]
theorem tK_off (key : List UInt8) (n : Nat) (h : n % 4 ≠ 0) : tK (wk key n) = (wk key n).getD (n - 1) [] := by
  rw [tK, wk_length, if_neg h]
theorem getD_mem {l : List (List UInt8)} {j : Nat} (h : j < l.length) : l.getD j [] ∈ l := by
  rw [List.getD_eq_getElem?_getD, List.getElem?_eq_getElem h]; exact List.getElem_mem h
theorem wk_four (key : List UInt8) (hk : key.length = 16) (n : Nat) : ∀ x ∈ wk key n, x.length = 4 := by
  induction n with
  | zero => intro x hx; simp [wk] at hx
  | succ n ih =>
    intro x hx
    rcases Nat.lt_or_ge n 4 with h | h
    · rw [wk_head key n h] at hx
      rcases List.mem_append.1 hx with hx | hx
      · exact ih x hx
      · simp at hx; subst hx; simp; omega
    · rw [wk_tail key n h] at hx
      rcases List.mem_append.1 hx with hx | hx
      · exact ih x hx
      · simp at hx
        subst hx
        refine xorL_length _ _ 4 (ih _ (getD_mem (by rw [wk_length]; omega))) ?_
        rcases Nat.eq_zero_or_pos (n % 4) with h4 | h4
        · rw [tK_on key n h4]; rfl
        · rw [tK_off key n (by omega)]; exact ih _ (getD_mem (by rw [wk_length]; omega))
theorem flat_length : ∀ (l : List (List UInt8)), (∀ x ∈ l, x.length = 4) → l.flatten.length = 4 * l.length
  | [], _ => rfl
  | x :: r, h => by
    rw [List.flatten_cons, List.length_append, flat_length r (fun y hy => h y (by simp [hy])), h x (by simp), List.length_cons]; omega
theorem flat_at : ∀ (l : List (List UInt8)) (_ : ∀ x ∈ l, x.length = 4) (j m : Nat) (_ : m < 4) (_ : j < l.length), l.flatten.getD (4 * j + m) 0 = (l.getD j []).getD m 0
  | [], _, j, m, _, hj => by simp at hj
  | x :: r, h, j, m, hm, hj => by
    have hx := h x (by simp)
    cases j with
    | zero => rw [List.flatten_cons, List.getD_eq_getElem?_getD, List.getElem?_append_left (by omega)]; simp [List.getD_eq_getElem?_getD]
    | succ j =>
      have := flat_at r (fun y hy => h y (by simp [hy])) j m hm (by simpa using hj)
      rw [List.flatten_cons, List.getD_eq_getElem?_getD, List.getElem?_append_right (by omega), show 4 * (j + 1) + m - x.length = 4 * j + m by omega, ← List.getD_eq_getElem?_getD, this]
      simp [List.getD_eq_getElem?_getD]
def rks (key : List UInt8) : List UInt8 := (wk key 44).flatten
def rk (key : List UInt8) (r : Nat) : List UInt8 := ((rks key).drop (16 * r)).take 16
theorem rks_length (key : List UInt8) (hk : key.length = 16) : (rks key).length = 176 := by
  rw [rks, flat_length _ (wk_four key hk 44), wk_length]
def rnd (key : List UInt8) (r : Nat) (b : List UInt8) : List UInt8 :=
  xorL (if r < 10 then mixC (shR (subB b)) else shR (subB b)) (rk key r)
def st (key b : List UInt8) : Nat → List UInt8
  | 0 => xorL b (rk key 0)
  | r + 1 => rnd key (r + 1) (st key b r)
def enc (key b : List UInt8) : List UInt8 := st key b 10
end Aes
end Go.Proofs.YthbmknpbcgnabaaGreatDoor
end
section
namespace Go.Proofs.YthbmknpbcgnabaaGreatDoor
namespace Aes
end Aes
end Go.Proofs.YthbmknpbcgnabaaGreatDoor
end
