/-
  OF THE WALK: NS, MrNV, MrNW, MrNA, MrNP.
-/
import Derived.Shelf.Bits.Mul64
import Derived.Shelf.SlSortCmp.WholeK
import Derived.Test.YthbmknpbcgnabaaGreatDoorP23
import Derived.Test.YthbmknpbcgnabaaGreatDoorP25
import Derived.Test.YthbmknpbcgnabaaGreatDoorProg
namespace Go.Proofs
open Go.Shelf
def Tryz.sortLay_ren : Go.Shelf.Ren := ⟨fun | 6 => 107 | 15 => 131 | 14 => 130 | 28 => 158 | 29 => 159 | 20 => 150 | 21 => 151 | 22 => 152 | 23 => 153 | 24 => 154 | 25 => 155 | 26 => 156 | 27 => 157 | 46 => 168 | 47 => 169 | 48 => 170 | 49 => 171 | 50 => 172 | 57 => 181 | n => n, fun | 22 => 150 | 24 => 148 | 25 => 155 | 3 => 3 | 39 => 138 | 0 => 0 | 53 => 187 | 55 => 39 | 4 => 4 | 46 => 240 | 45 => 239 | 50 => 244 | 5 => 5 | 9 => 9 | 66 => 259 | 70 => 263 | 76 => 277 | 77 => 206 | n => n, fun  | n => n⟩
theorem Tryz.sortLay : SlLaysF0.n6 Tryz.prog Tryz.sortLay_ren := {
  mixed := by kernel_rfl
  f6 := ⟨Tryz.f107.name, by decide, Tryz.func107.trans (congrArg some (by kernel_rfl))⟩
  f14 := ⟨Tryz.f130.name, by decide, Tryz.func130.trans (congrArg some (by kernel_rfl))⟩
  f15 := Tryz.func131.trans (congrArg some (by kernel_rfl))
  f20 := ⟨Tryz.f150.name, by decide, Tryz.func150.trans (congrArg some (by kernel_rfl))⟩
  f21 := ⟨Tryz.f151.name, by decide, Tryz.func151.trans (congrArg some (by kernel_rfl))⟩
  f22 := ⟨Tryz.f152.name, by decide, Tryz.func152.trans (congrArg some (by kernel_rfl))⟩
  f23 := ⟨Tryz.f153.name, by decide, Tryz.func153.trans (congrArg some (by kernel_rfl))⟩
  f24 := ⟨Tryz.f154.name, by decide, Tryz.func154.trans (congrArg some (by kernel_rfl))⟩
  f25 := ⟨Tryz.f155.name, by decide, Tryz.func155.trans (congrArg some (by kernel_rfl))⟩
  f26 := ⟨Tryz.f156.name, by decide, Tryz.func156.trans (congrArg some (by kernel_rfl))⟩
  f27 := ⟨Tryz.f157.name, by decide, Tryz.func157.trans (congrArg some (by kernel_rfl))⟩
  f28 := Tryz.func158.trans (congrArg some (by kernel_rfl))
  f29 := Tryz.func159.trans (congrArg some (by kernel_rfl))
  f46 := ⟨Tryz.f168.name, by decide, Tryz.func168.trans (congrArg some (by kernel_rfl))⟩
  f47 := Tryz.func169.trans (congrArg some (by kernel_rfl))
  f48 := Tryz.func170.trans (congrArg some (by kernel_rfl))
  f49 := ⟨Tryz.f171.name, by decide, Tryz.func171.trans (congrArg some (by kernel_rfl))⟩
  f50 := ⟨Tryz.f172.name, by decide, Tryz.func172.trans (congrArg some (by kernel_rfl))⟩
  f57 := ⟨Tryz.f181.name, by decide, Tryz.func181.trans (congrArg some (by kernel_rfl))⟩
  t0 := Tryz.underlying0
  a0 := Tryz.isAgg0
  z0 := Tryz.sizeOf0
  v0 := Tryz.zeroValue0
  t3 := Tryz.underlying3
  a3 := Tryz.isAgg3
  z3 := Tryz.sizeOf3
  v3 := Tryz.zeroValue3
  t4 := Tryz.underlying4
  a4 := Tryz.isAgg4
  z4 := Tryz.sizeOf4
  v4 := Tryz.zeroValue4
  t5 := Tryz.underlying5
  a5 := Tryz.isAgg5
  z5 := Tryz.sizeOf5
  v5 := Tryz.zeroValue5
  t9 := Tryz.underlying9
  a9 := Tryz.isAgg9
  z9 := Tryz.sizeOf9
  v9 := Tryz.zeroValue9
  t22 := Tryz.underlying150
  a22 := Tryz.isAgg150
  z22 := Tryz.sizeOf150
  v22 := Tryz.zeroValue150
  t25 := Tryz.underlying155
  a25 := Tryz.isAgg155
  z25 := Tryz.sizeOf155
  v25 := Tryz.zeroValue155
  t39 := Tryz.underlying138
  a39 := Tryz.isAgg138
  z39 := Tryz.sizeOf138
  v39 := Tryz.zeroValue138
  t45 := Tryz.underlying239
  a45 := Tryz.isAgg239
  z45 := Tryz.sizeOf239
  v45 := Tryz.zeroValue239
  t46 := Tryz.underlying240
  a46 := Tryz.isAgg240
  z46 := Tryz.sizeOf240
  v46 := Tryz.zeroValue240
  t50 := Tryz.underlying244
  a50 := Tryz.isAgg244
  z50 := Tryz.sizeOf244
  v50 := Tryz.zeroValue244
  t53 := Tryz.underlying187
  a53 := Tryz.isAgg187
  z53 := Tryz.sizeOf187
  v53 := Tryz.zeroValue187
  t55 := Tryz.underlying39
  a55 := Tryz.isAgg39
  z55 := Tryz.sizeOf39
  v55 := Tryz.zeroValue39
  t66 := Tryz.underlying259
  a66 := Tryz.isAgg259
  z66 := Tryz.sizeOf259
  v66 := Tryz.zeroValue259
  t70 := Tryz.underlying263
  a70 := Tryz.isAgg263
  z70 := Tryz.sizeOf263
  v70 := Tryz.zeroValue263
  t76 := Tryz.underlying277
  a76 := Tryz.isAgg277
  z76 := Tryz.sizeOf277
  v76 := Tryz.zeroValue277
  t77 := Tryz.underlying206
  a77 := Tryz.isAgg206
  z77 := Tryz.sizeOf206
  v77 := Tryz.zeroValue206
}
def Tryz.mulLay_ren : Go.Shelf.Ren := ⟨fun | 212 => 71 | 263 => 104 | 264 => 105 | n => n, fun | 46 => 138 | 51 => 187 | 146 => 188 | 53 => 39 | 148 => 190 | n => n, fun  | n => n⟩
theorem Tryz.mulLay : Lays.n212 Tryz.prog Tryz.mulLay_ren := {
  mixed := by kernel_rfl
  f212 := Tryz.func71.trans (congrArg some (by kernel_rfl))
  f263 := Tryz.func104.trans (congrArg some (by kernel_rfl))
  f264 := Tryz.func105.trans (congrArg some (by kernel_rfl))
  t46 := Tryz.underlying138
  a46 := Tryz.isAgg138
  z46 := Tryz.sizeOf138
  v46 := Tryz.zeroValue138
  t51 := Tryz.underlying187
  a51 := Tryz.isAgg187
  z51 := Tryz.sizeOf187
  v51 := Tryz.zeroValue187
  t53 := Tryz.underlying39
  a53 := Tryz.isAgg39
  z53 := Tryz.sizeOf39
  v53 := Tryz.zeroValue39
  t146 := Tryz.underlying188
  a146 := Tryz.isAgg188
  z146 := Tryz.sizeOf188
  v146 := Tryz.zeroValue188
  t148 := Tryz.underlying190
  a148 := Tryz.isAgg190
  z148 := Tryz.sizeOf190
  v148 := Tryz.zeroValue190
}
end Go.Proofs
namespace Go.Proofs.YthbmknpbcgnabaaGreatDoor.Mr
open Go.RowKit Go.Shelf Go.Lib Go.Sort
attribute [local go_sem] Oper.semAt_some
theorem enters_byLevel (args : Array Value) (w : World) : (callFunc 77 args).run Tryz.prog w = .ok (.enter 77 args) w := enters_of Tryz.func77 (by kernel_rfl) rfl args w
theorem enters_keys1 (args : Array Value) (w : World) : (callFunc 108 args).run Tryz.prog w = .ok (.enter 108 args) w := enters_of Tryz.func108 (by kernel_rfl) rfl args w
set_option maxHeartbeats 2000000 in
theorem insertion_none (p : Option Addr) (cap : Nat) (fv : Value) (w : World) : Calls Tryz.prog 150 #[.slice p 0 cap, .int .i64 0, .int .i64 0, fv] w fun e w' => e = .returned (.tuple #[]) ∧ w' = w := by
  go_enter Tryz.func150, Tryz.ntmps150
  go_wp2
  refine wp_loop_rounds 1 ?_
  rw [rounds_succ]
  go_wp2
  go_end0
  exact ⟨rfl, rfl⟩
set_option maxHeartbeats 2000000 in
theorem pdq_none (p : Option Addr) (cap : Nat) (lim : Int) (fv : Value) (w : World) : Calls Tryz.prog 130 #[.slice p 0 cap, .int .i64 0, .int .i64 0, .int .i64 lim, fv] w fun e w' => e = .returned (.tuple #[]) ∧ w' = w := by
  have hi := fun W => insertion_none p cap fv W
  go_enter Tryz.func130, Tryz.ntmps130
  go_wp2
  refine wp_loop_rounds 1 ?_
  rw [rounds_succ]
  go_wp2_with (go_at_call 150; refine (hi _).mono ?_; rintro e w' ⟨rfl, rfl⟩)
  (try simp only [Exit.inBlock, Exit.then]); refine bodyPost_ret (results_none rfl _ _ _) rfl ?_
  exact ⟨rfl, rfl⟩
set_option maxHeartbeats 2000000 in
theorem sort_none (p : Option Addr) (cap : Nat) (fv : Value) (w : World) : Calls Tryz.prog 107 #[.slice p 0 cap, fv] w fun e w' => e = .returned (.tuple #[]) ∧ w' = w := by
  have hp := fun lim W => pdq_none p cap lim fv W
  have hl : ∀ W, Calls Tryz.prog 131 #[.int .u64 0] W fun e w' => e = .returned (.int .i64 (Lib.bitLen 0 : Nat)) ∧ w' = W := fun W => by
    have h := Any.bits_Len (SlLaysF0.n15.bits (P := Tryz.prog) (ρ := Tryz.sortLay_ren) { Tryz.sortLay with }) 0 W (by omega) (by omega)
    exact h
  go_enter Tryz.func107, Tryz.ntmps107
  go_wp2_with (first | (go_at_call 131; refine (hl _).mono ?_; rintro e w' ⟨rfl, rfl⟩) | (go_at_call 130; refine (hp _ _).mono ?_; rintro e w' ⟨rfl, rfl⟩))
  go_end0
  exact ⟨rfl, rfl⟩
def Asc (ss : List Nd) : Prop := ∀ (i j : Nat) (x y : Nd), i < j → ss[i]? = some x → ss[j]? = some y → ¬ (y.1 < x.1 ∨ (y.1 = x.1 ∧ y.2 < x.2))
def Nds (w : World) (g : Nat) (ss : List Nd) : Prop := ∀ (i : Nat) (x : Nd), ss[i]? = some x → w.cell? ⟨g, i * 2, none⟩ = some (I64 x.1) ∧ w.cell? ⟨g, i * 2 + 1, none⟩ = some (I64 x.2)
theorem flat_get (ss : List Nd) : ∀ t, t < ss.length * 2 → (ss.flatMap cN)[t]? = some ((cN (ss.toArray[t / 2]!))[t % 2]!) := by
  intro t ht
  induction ss generalizing t with
  | nil => simp at ht
  | cons a r ih =>
    match t with
    | 0 => simp [cN]
    | 1 => simp [cN]
    | t + 2 =>
      have h2 : t < r.length * 2 := by simp at ht; omega
      have := ih t h2
      rw [List.flatMap_cons, show cN a = [I64 a.1, I64 a.2] from rfl]
      have e1 : (t + 2) / 2 = t / 2 + 1 := by omega
      have e2 : (t + 2) % 2 = t % 2 := by omega
      rw [e1, e2]
      simpa using this
theorem holds_of_own {w : World} {g : Nat} {cur : Array Value} {ss : List Nd} (hg : w.heap[g]? = some (.cells cur 148 (0, 0))) (ht : cur.toList.take (ss.length * 2) = ss.flatMap cN) : HoldsK cN 2 w g 0 ss.toArray := by
  intro j hj
  rw [size_flatK] at hj
  have hj' : j < ss.length * 2 := by simpa using hj
  rw [Nat.zero_add]
  refine ⟨?_, by simp [World.frozen?, hg]⟩
  have h1 : (cur.toList.take (ss.length * 2))[j]? = (ss.flatMap cN)[j]? := by rw [ht]
  rw [List.getElem?_take_of_lt hj', flat_get ss j hj'] at h1
  rw [get_flatK _ _ _ _ hj]
  simp only [World.cell?, hg]
  simp only [Option.isSome_none, Bool.false_eq_true, if_false]
  rw [← Array.getElem?_toList, h1]
  rfl
theorem nds_of_holds {w : World} {g : Nat} {d : Array Nd} (h : HoldsK cN 2 w g 0 d) : Nds w g d.toList := by
  intro i x hx
  have hi : i < d.size := by
    rw [Array.getElem?_toList] at hx
    exact (Array.getElem?_eq_some_iff.1 hx).1
  have hxe : d[i]! = x := by
    rw [Array.getElem?_toList] at hx
    rw [getElem!_def, hx]
  have h0 := (HoldsK.cell h hi (c := 0) (by omega)).1
  have h1 := (HoldsK.cell h hi (c := 1) (by omega)).1
  rw [Nat.zero_add, hxe] at h0 h1
  exact ⟨h0, h1⟩
theorem by_sorted (w : World) (g n : Nat) (d : Array Nd) (os : Array Obj) : w.grownBy (sortWorldK cN 2 w g 0 n d os) (some g) := by
  unfold sortWorldK putRowK
  refine ⟨rfl, rfl, rfl, by simp, fun k hk hne => ?_⟩
  rw [heap_grow_old _ _ (by simpa using hk)]
  have : g ≠ k := fun e => hne (by rw [e])
  simp [putRow, mapBlock, Sort.ahead, Array.getElem?_modify, this]
theorem sort_some (g cap : Nat) (ss : List Nd) (w : World) (hH : HoldsK cN 2 w g 0 ss.toArray) (hg : g < w.heap.size) (hsz : ss.length ≤ 100000) :
    Calls Tryz.prog 107 #[.slice (some ⟨g, 0, none⟩) ss.length cap, .func (.func 77) #[] #[]] w fun e w' => e = .returned (.tuple #[]) ∧ ∃ ts : List Nd, ts.Perm ss ∧ ts.length = ss.length ∧ Asc ts ∧ Nds w' g ts ∧ g < w'.heap.size ∧ w.grownBy w' (some g) := by
  have h := AnyQ.slices_SortFunc Tryz.sortLay 2 Tryz.isAgg148 Tryz.sizeOf148 cN (fun _ => rfl) (fun x v hv => by simp only [cN, List.mem_cons, List.not_mem_nil, or_false] at hv; rcases hv with rfl | rfl <;> rfl) cf swo_cf 77 #[] g 0 cap ss.toArray w enters_byLevel (lays_byLevel _ _ _ _) hH hg (by simp; omega)
  rw [List.size_toArray] at h
  change Calls Tryz.prog 107 _ _ _ at h
  refine h.mono ?_
  rintro e w' ⟨rfl, d', n, os, hp, hs, rfl⟩
  obtain ⟨p1, _, p3⟩ := hp
  replace p1 : d'.size = ss.length := by simpa using p1
  have e1 : (d'.extract 0 ss.length).toList = d'.toList := by rw [← p1]; simp
  have e2 : (ss.toArray.extract 0 ss.length).toList = ss := by simp
  rw [e1, e2] at p3
  refine ⟨rfl, d'.toList, p3, by rw [Array.length_toList]; exact p1, ?_, nds_of_holds (holdsK_sortWorldK cN 2 w g 0 n ss.toArray d' os hg hH (by rw [p1]; simp)), lt_sortWorldK cN 2 w g 0 n d' os hg, by_sorted w g n d' os⟩
  intro i j x y hij hx hy
  rw [Array.getElem?_toList] at hx hy
  have hj := (Array.getElem?_eq_some_iff.1 hy).1
  have hl := hs i j (Nat.zero_le _) hij (by omega)
  rw [getElem!_def, hy, getElem!_def, hx, lt_cf, decide_eq_false_iff_not] at hl
  exact hl
end Go.Proofs.YthbmknpbcgnabaaGreatDoor.Mr
namespace Go.Proofs.YthbmknpbcgnabaaGreatDoor.Mr
open Go.RowKit Go.Shelf Go.Lib Go.Sort
def Read (w : World) (B : Nat) (v : Value) (ts : List Nd) : Prop := (ts = [] ∧ v = .slice none 0 0) ∨ ∃ g cap, v = .slice (some ⟨g, 0, none⟩) ts.length cap ∧ B ≤ g ∧ g < w.heap.size ∧ Nds w g ts
set_option maxHeartbeats 1000000 in
theorem sorted_any (Bm b : Nat) (ks : List Nd) (w : World) (hBm : Bm < w.heap.size) (hm : w.cell? ⟨Bm, 0, none⟩ = some (.map (some b))) (hown : NodesAt w b ks) (hk : ks.length ≤ 100000) :
    Calls Tryz.prog 75 #[.func (.func 108) #[] #[.pointer (some ⟨Bm, 0, none⟩)], .func (.func 77) #[] #[]] w fun e w' =>
      ∃ (v : Value) (ts : List Nd), e = .returned v ∧ ts.Perm ks ∧ Asc ts ∧ Read w' w.heap.size v ts ∧ Below w.heap.size w w' := by
  have hO := open_wide Tryz.prog
  have hc : ∀ W, Below w.heap.size w W → w.heap.size ≤ W.heap.size → Calls Tryz.prog 106 #[.func (.func 108) #[] #[.pointer (some ⟨Bm, 0, none⟩)]] W fun e w' => ∃ (v : Value) (ss : List Nd), e = .returned v ∧ ss.Perm ks ∧ OwnN w' W.heap.size v ss ∧ (v = .slice none 0 0 ↔ ss = []) ∧ Below W.heap.size W w' := fun W hb hs =>
    callsIn_wide.1 (collect_in Fence.wide 3 hO rfl (by omega) 108 _ enters_keys1 (fun ss => ss.Perm ks) ks.length hk W
      (keys_gives Fence.wide (3 - 1 - 1) hO rfl (by omega) Bm b ks W (by omega) ((hb.cell (p := ⟨Bm, 0, none⟩) hBm).trans hm) (hown.same (hb.block b hown.lt))))
  have hc0 := hc w (Below.refl _ _) (Nat.le_refl _)
  clear hc hown hm
  go_enter Tryz.func75, Tryz.ntmps75
  go_wp2_with (go_at_call 106; refine hc0.mono ?_; rintro e w1 ⟨v, ss, rfl, hp, hrow, hnil, hb⟩)
  have HP : Hid (ss.Perm ks) := hp
  have HB : Hid (Below w.heap.size w w1) := hb
  have hlen := hp.length_eq
  clear hp hb hc0
  rcases hrow.2 with ⟨rfl, hz⟩ | ⟨gb, cap, cur, rfl, hbase, hgb, r1, r2, r3, r4⟩
  · have hss : ss = [] := List.eq_nil_of_length_eq_zero hz
    subst hss
    clear hrow hnil
    go_wp2_with (go_at_call 107; refine (sort_none none 0 _ w1).mono ?_; rintro e w' ⟨rfl, rfl⟩)
    go_ret
    exact ⟨_, [], rfl, HP.out, fun i j x y _ hx => by simp at hx, .inl ⟨rfl, rfl⟩, HB.out⟩
  · have hH : HoldsK cN 2 w1 gb 0 ss.toArray := holds_of_own hgb r4
    have hgl : gb < w1.heap.size := (Array.getElem?_eq_some_iff.1 hgb).1
    have cS := sort_some gb cap ss w1 hH hgl (by omega)
    clear hrow hnil hgb r2 r3 r4 hH
    go_wp2_with (go_at_call 107; refine cS.mono ?_; rintro e w' ⟨rfl, ts, hp2, hl2, ha, hn, hlt, hg⟩)
    go_ret
    refine ⟨_, ts, rfl, hp2.trans HP.out, ha, .inr ⟨gb, cap, by rw [hl2, hlen]; rfl, hbase, hlt, hn⟩, HB.out.grown hg HB.out.size (fun k e => by cases e; exact hbase)⟩
end Go.Proofs.YthbmknpbcgnabaaGreatDoor.Mr
namespace Go.Proofs.YthbmknpbcgnabaaGreatDoor.Mr
namespace Mt
open Mk
def upB (s : List Bool) : List Bool := (List.range ((s.length + 3) / 4)).map fun i => ((s.drop (4 * i)).take 4).any id
def cnt (s : List Bool) : Nat := s.count true
def st : Nat → List Bool → Nat
  | 0, _ => 0
  | h + 1, s => cnt (upB s) + st h (upB s)
theorem upB_length (s : List Bool) : (upB s).length = (s.length + 3) / 4 := by simp [upB]
theorem cnt_le (s : List Bool) : cnt s ≤ s.length := List.count_le_length
theorem st_le (h : Nat) : ∀ (s : List Bool) (n : Nat), s.length ≤ n → st h s ≤ h * (n + 1) := by
  induction h with
  | zero => intro s n _; simp [st]
  | succ h ih =>
    intro s n hs
    have h1 : (upB s).length ≤ n := by rw [upB_length]; omega
    have h2 := cnt_le (upB s)
    have h3 := ih (upB s) n h1
    rw [st, Nat.succ_mul]; omega
theorem any4 (s : List Bool) (a : Nat) : ((s.drop a).take 4).any id = (s.getD a false || s.getD (a + 1) false || s.getD (a + 2) false || s.getD (a + 3) false) := by
  have e : ∀ j, s.getD (a + j) false = (s.drop a).getD j false := fun j => by rw [List.getD_eq_getElem?_getD, List.getD_eq_getElem?_getD, List.getElem?_drop]
  have e0 := e 0
  rw [Nat.add_zero] at e0
  rw [e0, e 1, e 2, e 3]
  generalize s.drop a = t
  match t with
  | [] => rfl
  | [x] => simp
  | [x, y] => simp
  | [x, y, z] => simp [Bool.or_assoc]
  | x :: y :: z :: u :: r => simp [Bool.or_assoc]
theorem upB_get (s : List Bool) (k : Nat) : (upB s).getD k false = (s.getD (4 * k) false || s.getD (4 * k + 1) false || s.getD (4 * k + 2) false || s.getD (4 * k + 3) false) := by
  by_cases hk : k < (s.length + 3) / 4
  · rw [upB, List.getD_eq_getElem?_getD, List.getElem?_map, List.getElem?_range hk, Option.map_some, Option.getD_some, any4]
  · have hz : ∀ j, 4 * k ≤ j → s.getD j false = false := fun j hj => by rw [List.getD_eq_getElem?_getD, List.getElem?_eq_none (by omega)]; rfl
    rw [hz _ (Nat.le_refl _), hz _ (by omega), hz _ (by omega), hz _ (by omega), List.getD_eq_getElem?_getD, List.getElem?_eq_none (by rw [upB_length]; omega)]
    rfl
theorem ext_getD {s t : List Bool} (hl : s.length = t.length) (h : ∀ k, s.getD k false = t.getD k false) : s = t := by
  apply List.ext_getElem hl
  intro i h1 h2
  have := h i
  rwa [List.getD_eq_getElem?_getD, List.getD_eq_getElem?_getD, List.getElem?_eq_getElem h1, List.getElem?_eq_getElem h2] at this
theorem set_getD (s : List Bool) (i k : Nat) (hi : i < s.length) : (s.set i true).getD k false = (decide (k = i) || s.getD k false) := by
  rw [List.getD_eq_getElem?_getD, List.getD_eq_getElem?_getD, List.getElem?_set]
  by_cases h : i = k
  · subst h; simp [hi]
  · rw [if_neg h, decide_eq_false (fun e => h e.symm), Bool.false_or]
theorem upB_set (s : List Bool) (i : Nat) (hi : i < s.length) : upB (s.set i true) = (upB s).set (i / 4) true := by
  apply ext_getD
  · rw [upB_length, List.length_set, List.length_set, upB_length]
  · intro k
    rw [upB_get, set_getD _ _ _ hi, set_getD _ _ _ hi, set_getD _ _ _ hi, set_getD _ _ _ hi, set_getD _ _ _ (by rw [upB_length]; omega), upB_get]
    have hd : decide (k = i / 4) = (decide (4 * k = i) || decide (4 * k + 1 = i) || decide (4 * k + 2 = i) || decide (4 * k + 3 = i)) := by
      rw [Bool.eq_iff_iff]; simp; omega
    rw [hd]
    cases decide (4 * k = i) <;> cases decide (4 * k + 1 = i) <;> cases decide (4 * k + 2 = i) <;> cases decide (4 * k + 3 = i) <;> cases s.getD (4 * k) false <;> cases s.getD (4 * k + 1) false <;> cases s.getD (4 * k + 2) false <;> cases s.getD (4 * k + 3) false <;> rfl
theorem upB_no (n : Nat) : upB (List.replicate n false) = List.replicate ((n + 3) / 4) false := by
  apply ext_getD
  · rw [upB_length, List.length_replicate, List.length_replicate]
  · intro k
    have hz : ∀ m j, (List.replicate m false).getD j false = false := fun m j => by
      rw [List.getD_eq_getElem?_getD, List.getElem?_replicate]; split <;> rfl
    rw [upB_get, hz, hz, hz, hz, hz]; rfl
end Mt
end Go.Proofs.YthbmknpbcgnabaaGreatDoor.Mr
namespace Go.Proofs.YthbmknpbcgnabaaGreatDoor.Mr
namespace Mt
open Mk
def up (n : Nat) : Nat → Nat
  | 0 => n
  | j + 1 => (up n j + 3) / 4
def tv (key : Tg) (l : List Tg) : Nat → Nat → Tg
  | 0, i => l.getD i zero
  | j + 1, i => node key [tv key l j (4 * i), tv key l j (4 * i + 1), tv key l j (4 * i + 2), tv key l j (4 * i + 3)]
theorem tv_32 (key : Tg) (l : List Tg) (h : ∀ t ∈ l, t.length = 32) : ∀ j i, (tv key l j i).length = 32
  | 0, i => by
    rw [tv, List.getD_eq_getElem?_getD]
    by_cases hi : i < l.length
    · rw [List.getElem?_eq_getElem hi]; exact h _ (List.getElem_mem hi)
    · rw [List.getElem?_eq_none (by omega)]; rfl
  | _ + 1, _ => node_length _ _
theorem four_of {α : Type} (d : α) (row : List α) (a : Nat) (h : a + 4 ≤ row.length) : (row.drop a).take 4 = [row.getD a d, row.getD (a + 1) d, row.getD (a + 2) d, row.getD (a + 3) d] := by
  apply List.ext_getElem?
  intro j
  have hlen : ((row.drop a).take 4).length = 4 := by simp; omega
  have e : ∀ k, k < 4 → ((row.drop a).take 4)[k]? = some (row.getD (a + k) d) := fun k hk => by
    rw [List.getElem?_take, if_pos hk, List.getElem?_drop, List.getD_eq_getElem?_getD, List.getElem?_eq_getElem (show a + k < row.length by omega)]; rfl
  match j with
  | 0 => exact e 0 (by omega)
  | 1 => exact e 1 (by omega)
  | 2 => exact e 2 (by omega)
  | 3 => exact e 3 (by omega)
  | j + 4 => rw [List.getElem?_eq_none (by omega), List.getElem?_eq_none (by simp)]
theorem tv_full (key : Tg) (l : List Tg) (h : Nat) (hl : l.length ≤ 4 ^ h) : ∀ j i, j ≤ h → i < 4 ^ (h - j) → (lev key (full l h) j).getD i [] = tv key l j i
  | 0, i, _, hi => by
    rw [Nat.sub_zero] at hi
    rw [lev, tv, full, List.getD_eq_getElem?_getD, List.getD_eq_getElem?_getD]
    by_cases hl2 : i < l.length
    · rw [List.getElem?_append_left hl2, List.getElem?_eq_getElem hl2]; rfl
    · rw [List.getElem?_append_right (by omega), List.getElem?_replicate, if_pos (by omega), List.getElem?_eq_none (by omega)]; rfl
  | j + 1, i, hj, hi => by
    have hp : 4 ^ (h - j) = 4 * 4 ^ (h - (j + 1)) := by rw [show h - j = (h - (j + 1)) + 1 by omega, Nat.pow_succ, Nat.mul_comm]
    have hrow : (lev key (full l h) j).length = 4 * 4 ^ (h - (j + 1)) := by rw [lev_length key _ h (full_length l h hl) j (by omega), hp]
    have e : (ups key (lev key (full l h) j))[i]? = some (node key (((lev key (full l h) j).drop (4 * i)).take 4)) := by
      rw [ups, List.getElem?_map, List.getElem?_range (by omega)]; rfl
    rw [lev, List.getD_eq_getElem?_getD, e, Option.getD_some, four_of [] _ _ (by omega), tv]
    rw [tv_full key l h hl j (4 * i) (by omega) (by omega), tv_full key l h hl j (4 * i + 1) (by omega) (by omega), tv_full key l h hl j (4 * i + 2) (by omega) (by omega), tv_full key l h hl j (4 * i + 3) (by omega) (by omega)]
theorem root_tv (key : Tg) (l : List Tg) (h : Nat) (hh : IsH l.length h) : root key l h = tv key l h 0 := by
  have hl : l.length ≤ 4 ^ h := by have := hh.2.1; rw [← pow_int] at this; omega
  rw [root, tv_full key l h hl h 0 (Nat.le_refl _) (by rw [Nat.sub_self]; exact Nat.one_pos)]
theorem tv_set (key : Tg) (l : List Tg) (i : Nat) (t : Tg) : ∀ j k, k ≠ i / 4 ^ j → tv key (l.set i t) j k = tv key l j k
  | 0, k, hk => by
    rw [Nat.pow_zero, Nat.div_one] at hk
    rw [tv, tv, List.getD_eq_getElem?_getD, List.getD_eq_getElem?_getD, List.getElem?_set_ne (fun e => hk e.symm)]
  | j + 1, k, hk => by
    have hd : i / 4 ^ (j + 1) = i / 4 ^ j / 4 := by rw [Nat.pow_succ, Nat.div_div_eq_div_mul]
    rw [hd] at hk
    rw [tv, tv, tv_set key l i t j (4 * k) (by omega), tv_set key l i t j (4 * k + 1) (by omega), tv_set key l i t j (4 * k + 2) (by omega), tv_set key l i t j (4 * k + 3) (by omega)]
def sl (s : List Bool) : Nat → List Bool
  | 0 => s
  | j + 1 => upB (sl s j)
theorem sl_length (s : List Bool) : ∀ j, (sl s j).length = up s.length j
  | 0 => rfl
  | j + 1 => by rw [sl, upB_length, sl_length s j, up]
theorem sl_up (s : List Bool) : ∀ j, sl (upB s) j = sl s (j + 1)
  | 0 => rfl
  | j + 1 => by show upB (sl (upB s) j) = upB (sl s (j + 1)); rw [sl_up s j]
theorem sl_set (s : List Bool) (i : Nat) (hi : i < s.length) : ∀ j, sl (s.set i true) j = (sl s j).set (i / 4 ^ j) true ∧ i / 4 ^ j < (sl s j).length
  | 0 => by rw [Nat.pow_zero, Nat.div_one]; exact ⟨rfl, hi⟩
  | j + 1 => by
    obtain ⟨h1, h2⟩ := sl_set s i hi j
    have hd : i / 4 ^ (j + 1) = i / 4 ^ j / 4 := by rw [Nat.pow_succ, Nat.div_div_eq_div_mul]
    rw [hd, sl, h1, upB_set _ _ h2]
    exact ⟨rfl, by rw [sl, upB_length]; omega⟩
theorem sl_no (n j k : Nat) : (sl (List.replicate n false) j).getD k false = false := by
  have e : sl (List.replicate n false) j = List.replicate (up n j) false := by
    induction j with
    | zero => rfl
    | succ j ih => rw [sl, ih, upB_no, up]
  rw [e, List.getD_eq_getElem?_getD, List.getElem?_replicate]; split <;> rfl
def isK (h : Nat) (s : List Bool) (p : Nat × Nat) : Prop := 1 ≤ p.1 ∧ p.1 ≤ h ∧ (sl s p.1).getD p.2 false = true
theorem isK_lt {h : Nat} {s : List Bool} {p : Nat × Nat} (hp : isK h s p) : p.2 < up s.length p.1 := by
  rw [← sl_length]
  rcases Nat.lt_or_ge p.2 (sl s p.1).length with h1 | h1
  · exact h1
  · have := hp.2.2
    rw [List.getD_eq_getElem?_getD, List.getElem?_eq_none h1] at this
    cases this
theorem isK_set {h : Nat} {s : List Bool} {i : Nat} (hi : i < s.length) (p : Nat × Nat) : isK h (s.set i true) p ↔ isK h s p ∨ (1 ≤ p.1 ∧ p.1 ≤ h ∧ p.2 = i / 4 ^ p.1) := by
  obtain ⟨h1, h2⟩ := sl_set s i hi p.1
  unfold isK
  rw [h1, set_getD _ _ _ h2, Bool.or_eq_true, decide_eq_true_eq]
  constructor
  · rintro ⟨a, b, c | c⟩
    · exact .inr ⟨a, b, c⟩
    · exact .inl ⟨a, b, c⟩
  · rintro (⟨a, b, c⟩ | ⟨a, b, c⟩)
    · exact ⟨a, b, .inr c⟩
    · exact ⟨a, b, .inl c⟩
theorem isK_no (h n : Nat) (p : Nat × Nat) : ¬ isK h (List.replicate n false) p := fun hp => by have := hp.2.2; rw [sl_no] at this; cases this
def trues (s : List Bool) : List Nat := (List.range s.length).filter fun k => s.getD k false
theorem trues_mem (s : List Bool) (k : Nat) : k ∈ trues s ↔ s.getD k false = true := by
  rw [trues, List.mem_filter, List.mem_range]
  constructor
  · exact fun h => h.2
  · intro h
    refine ⟨?_, h⟩
    rcases Nat.lt_or_ge k s.length with h1 | h1
    · exact h1
    · rw [List.getD_eq_getElem?_getD, List.getElem?_eq_none h1] at h; cases h
theorem trues_length (s : List Bool) : (trues s).length = cnt s := by
  have e : s = (List.range s.length).map fun k => s.getD k false := by
    apply List.ext_getElem (by simp)
    intro i h1 h2
    rw [List.getElem_map, List.getElem_range, List.getD_eq_getElem?_getD, List.getElem?_eq_getElem h1]; rfl
  rw [trues, cnt, ← List.countP_eq_length_filter, List.count]
  conv => rhs; rw [e]
  rw [List.countP_map]
  congr 1
  funext k
  simp
def allK (s : List Bool) : Nat → List (Nat × Nat)
  | 0 => []
  | h + 1 => allK s h ++ (trues (sl s (h + 1))).map fun k => (h + 1, k)
theorem allK_mem (s : List Bool) (h : Nat) (p : Nat × Nat) : p ∈ allK s h ↔ isK h s p := by
  induction h with
  | zero =>
    constructor
    · intro hp; cases hp
    · rintro ⟨a, b, _⟩; omega
  | succ h ih =>
    rw [allK, List.mem_append, ih, List.mem_map]
    constructor
    · rintro (⟨a, b, c⟩ | ⟨k, hk, rfl⟩)
      · exact ⟨a, by omega, c⟩
      · exact ⟨by show 1 ≤ h + 1; omega, Nat.le_refl _, (trues_mem _ _).1 hk⟩
    · rintro ⟨a, b, c⟩
      by_cases e : p.1 = h + 1
      · exact .inr ⟨p.2, (trues_mem _ _).2 (by rw [← e]; exact c), by rw [← e]⟩
      · exact .inl ⟨a, by omega, c⟩
theorem allK_nodup (s : List Bool) : ∀ h, (allK s h).Nodup
  | 0 => List.nodup_nil
  | h + 1 => by
    rw [allK, List.nodup_append]
    refine ⟨allK_nodup s h, ?_, ?_⟩
    · refine List.Pairwise.map _ (R := (· ≠ ·)) ?_ ((List.nodup_range).sublist List.filter_sublist)
      intro a b hab e
      injection e with _ e
      exact hab e
    · rintro a ha b hb rfl
      have h1 := ((allK_mem s h a).1 ha).2.1
      obtain ⟨k, _, rfl⟩ := List.mem_map.1 hb
      exact absurd h1 (by show ¬ h + 1 ≤ h; omega)
theorem st_succ (s : List Bool) : ∀ h, st (h + 1) s = st h s + cnt (sl s (h + 1)) := by
  intro h
  induction h generalizing s with
  | zero => simp [st, sl]
  | succ h ih =>
    rw [st, ih (upB s), st, sl_up]; omega
theorem allK_length (s : List Bool) : ∀ h, (allK s h).length = st h s
  | 0 => rfl
  | h + 1 => by rw [allK, List.length_append, List.length_map, trues_length, allK_length s h, st_succ]
theorem isK_count {h : Nat} {s : List Bool} {ks : List (Nat × Nat)} (hn : ks.Nodup) (hm : ∀ p, p ∈ ks ↔ isK h s p) : ks.length = st h s := by
  rw [← allK_length]
  exact ((List.perm_ext_iff_of_nodup hn (allK_nodup s h)).2 fun p => by rw [hm, allK_mem]).length_eq
theorem up_pos (n : Nat) (hn : 1 ≤ n) : ∀ j, 1 ≤ up n j
  | 0 => hn
  | j + 1 => by have := up_pos n hn j; rw [up]; omega
theorem up_le (n m : Nat) : ∀ j, n ≤ 4 ^ (j + m) → up n j ≤ 4 ^ m
  | 0, h => by rwa [Nat.zero_add] at h
  | j + 1, h => by
    have := up_le n (m + 1) j (by rwa [show j + (m + 1) = j + 1 + m by omega])
    rw [Nat.pow_succ] at this
    rw [up]; omega
theorem up_top {n h : Nat} (hn : 1 ≤ n) (hh : IsH n h) : up n h = 1 := by
  have hl : n ≤ 4 ^ h := by have := hh.2.1; rw [← pow_int] at this; omega
  have h1 := up_le n 0 h (by rwa [Nat.add_zero])
  have h2 := up_pos n hn h
  rw [Nat.pow_zero] at h1; omega
theorem up_small (n j : Nat) (hn : n ≤ 100) : up n j ≤ 100 := by
  induction j with
  | zero => exact hn
  | succ j ih => rw [up]; omega
theorem isH_four {n h : Nat} (hn : n ≤ 100) (hh : IsH n h) : 1 ≤ h ∧ h ≤ 4 := by
  refine ⟨hh.1, ?_⟩
  rcases hh.2.2 with e | e
  · omega
  · by_cases h5 : h ≤ 4
    · exact h5
    · have h6 : (4 : Nat) ^ 4 ≤ 4 ^ (h - 1) := Nat.pow_le_pow_right (by omega) (by omega)
      have e2 : (((4 ^ (h - 1) : Nat) : Int)) < n := by rw [pow_int]; exact e
      omega
end Mt
end Go.Proofs.YthbmknpbcgnabaaGreatDoor.Mr
