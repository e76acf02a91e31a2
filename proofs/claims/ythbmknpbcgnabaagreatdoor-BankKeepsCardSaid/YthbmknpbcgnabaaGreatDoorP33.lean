/-
  OF THE WALK: VF, VG, VH, VHA.
-/
import Derived.Test.YthbmknpbcgnabaaGreatDoorP22
import Derived.Test.YthbmknpbcgnabaaGreatDoorP32
namespace Go.Proofs.YthbmknpbcgnabaaGreatDoor
open Go.RowKit Aes Ctr Sl Dsk
abbrev PT (p : Nat) : Value := .pointer (some ⟨p, 0, none⟩)
abbrev IV (x : Nat) : Value := .int .i64 (x : Int)
abbrev wrV (C : Nat) : Value := .func (.func 51) #[PT C] #[]
abbrev flV (C : Nat) : Value := .func (.func 92) #[PT C] #[]
abbrev fiV (C : Nat) : Value := .func (.func 124) #[PT C] #[]
def headB (d : Nat) (ks : List Value) (ep bank : Nat) (root : List UInt8) (T : Nat) (nx : Value) : List Value := PT d :: (ks ++ (regV ep bank root ++ [PT T, nx]))
def commB (P ep bank : Nat) (root : List UInt8) (bv : Value) (wr T : Nat) : List Value := PT P :: (regV ep bank root ++ [bv, IV wr, PT T])
theorem regV_length {ep bank : Nat} {root : List UInt8} (h : root.length = 32) : (regV ep bank root).length = 34 := by
  show (_ :: _ :: root.map V8).length = 34
  rw [List.length_cons, List.length_cons, List.length_map, h]
theorem here_cons {w : World} {b o : Nat} {x : Value} {l : List Value} (h : Here w b o (x :: l)) : Here w b o [x] ∧ Here w b (o + 1) l := by
  have h' : Here w b o ([x] ++ l) := h
  exact ⟨h'.left, h'.right⟩
theorem here_one {w : World} {b o : Nat} {x : Value} (h : Here w b o [x]) : w.cell? ⟨b, o, none⟩ = some x := by have := h.cell (j := 0) rfl; rwa [Nat.add_zero] at this
structure HeadP (w : World) (P d : Nat) (ks : List Value) (ep bank : Nat) (root : List UInt8) (T : Nat) (nx : Value) : Prop where
  c0 : Here w P 0 [PT d]
  ks : Here w P 1 ks
  reg : Here w P 49 (regV ep bank root)
  c83 : Here w P 83 [PT T]
  c84 : Here w P 84 [nx]
structure CommP (w : World) (C P ep bank : Nat) (root : List UInt8) (bv : Value) (wr T : Nat) : Prop where
  c0 : Here w C 0 [PT P]
  reg : Here w C 1 (regV ep bank root)
  c35 : Here w C 35 [bv]
  c36 : Here w C 36 [IV wr]
  c37 : Here w C 37 [PT T]
section
variable {w w' : World} {P d ep bank T C wr : Nat} {ks : List Value} {root : List UInt8} {nx bv : Value} {X : Nat → Nat → Prop}
theorem headP_of (h : Here w P 0 (headB d ks ep bank root T nx)) (hk : ks.length = 48) (hr : root.length = 32) : HeadP w P d ks ep bank root T nx := by
  obtain ⟨h0, h1⟩ := here_cons h
  have h2 := h1.left
  have h3 := h1.right
  rw [hk] at h3
  have h4 := h3.left
  have h5 := h3.right
  rw [regV_length hr] at h5
  obtain ⟨h6, h7⟩ := here_cons h5
  exact ⟨h0, h2, h4, h6, h7⟩
theorem commP_of (h : Here w C 0 (commB P ep bank root bv wr T)) (hr : root.length = 32) : CommP w C P ep bank root bv wr T := by
  obtain ⟨h0, h1⟩ := here_cons h
  have h4 := h1.left
  have h5 := h1.right
  rw [regV_length hr] at h5
  obtain ⟨h6, h7⟩ := here_cons h5
  obtain ⟨h8, h9⟩ := here_cons h7
  exact ⟨h0, h4, h6, h8, h9⟩
theorem HeadP.chg (h : HeadP w P d ks ep bank root T nx) (hc : Chg X w w') (hn : ∀ o, ¬ X P o) : HeadP w' P d ks ep bank root T nx :=
  ⟨h.c0.chg hc fun _ _ => hn _, h.ks.chg hc fun _ _ => hn _, h.reg.chg hc fun _ _ => hn _, h.c83.chg hc fun _ _ => hn _, h.c84.chg hc fun _ _ => hn _⟩
theorem CommP.chg (h : CommP w C P ep bank root bv wr T) (hc : Chg X w w') (hn : ∀ o, ¬ X C o) : CommP w' C P ep bank root bv wr T :=
  ⟨h.c0.chg hc fun _ _ => hn _, h.reg.chg hc fun _ _ => hn _, h.c35.chg hc fun _ _ => hn _, h.c36.chg hc fun _ _ => hn _, h.c37.chg hc fun _ _ => hn _⟩
theorem HeadP.cells (h : HeadP w P d ks ep bank root T nx) : w.cell? ⟨P, 0, none⟩ = some (PT d) ∧ w.cell? ⟨P, 49, none⟩ = some (.int .u64 (ep : Int)) ∧ w.cell? ⟨P, 50, none⟩ = some (IV bank) ∧ w.cell? ⟨P, 83, none⟩ = some (PT T) ∧ w.cell? ⟨P, 84, none⟩ = some nx :=
  ⟨here_one h.c0, h.reg.cell (j := 0) rfl, h.reg.cell (j := 1) rfl, here_one h.c83, here_one h.c84⟩
theorem CommP.cells (h : CommP w C P ep bank root bv wr T) : w.cell? ⟨C, 0, none⟩ = some (PT P) ∧ w.cell? ⟨C, 1, none⟩ = some (.int .u64 (ep : Int)) ∧ w.cell? ⟨C, 2, none⟩ = some (IV bank) ∧ w.cell? ⟨C, 35, none⟩ = some bv ∧ w.cell? ⟨C, 36, none⟩ = some (IV wr) ∧ w.cell? ⟨C, 37, none⟩ = some (PT T) :=
  ⟨here_one h.c0, h.reg.cell (j := 0) rfl, h.reg.cell (j := 1) rfl, here_one h.c35, here_one h.c36, here_one h.c37⟩
theorem HeadP.next (h : HeadP w P d ks ep bank root T nx) (hk : ks.length = 48) (hr : root.length = 32) (v : Value) : HeadP (w.setCell ⟨P, 84, none⟩ v) P d ks ep bank root T v := by
  have off : ∀ {o : Nat} {cs : List Value}, Here w P o cs → o + cs.length ≤ 84 → Here (w.setCell ⟨P, 84, none⟩ v) P o cs := fun h hl => h.setOff [v] (.inr (.inl hl))
  exact ⟨off h.c0 (by simp), off h.ks (by omega), off h.reg (by rw [regV_length hr]; omega), off h.c83 (by simp), h.c84.set [v] rfl⟩
theorem CommP.wrote (h : CommP w C P ep bank root bv wr T) (hr : root.length = 32) (x : Nat) : CommP (w.setCell ⟨C, 36, none⟩ (IV x)) C P ep bank root bv x T := by
  have lo : ∀ {o : Nat} {cs : List Value}, Here w C o cs → o + cs.length ≤ 36 → Here (w.setCell ⟨C, 36, none⟩ (IV x)) C o cs := fun h hl => h.setOff [IV x] (.inr (.inl hl))
  exact ⟨lo h.c0 (by simp), lo h.reg (by rw [regV_length hr]; omega), lo h.c35 (by simp), h.c36.set [IV x] rfl, h.c37.setOff [IV x] (.inr (.inr (by simp)))⟩
theorem CommP.rooted (h : CommP w C P ep bank root bv wr T) (hr : root.length = 32) (rt : List UInt8) (ht : rt.length = 32) : CommP (w.setCells C 3 (rt.map V8)) C P ep bank rt bv wr T := by
  have hi : ∀ {o : Nat} {cs : List Value}, Here w C o cs → 35 ≤ o → Here (w.setCells C 3 (rt.map V8)) C o cs := fun h hl => h.setOff (rt.map V8) (.inr (.inr (by rw [List.length_map, ht]; omega)))
  have hreg : Here w C 1 ([Value.int .u64 (ep : Int), .int .i64 (bank : Int)] ++ root.map V8) := h.reg
  have h1 := hreg.left.setOff (b' := C) (o' := 3) (rt.map V8) (.inr (.inl (by simp)))
  have h2 := (hreg.right).set (rt.map V8) (by rw [List.length_map, List.length_map, hr, ht])
  exact ⟨h.c0.setOff (rt.map V8) (.inr (.inl (by simp))), h1.append h2, hi h.c35 (by omega), hi h.c36 (by omega), hi h.c37 (by omega)⟩
theorem HeadP.regs (h : HeadP w P d ks ep bank root T nx) (hk : ks.length = 48) (hr : root.length = 32) (ep' bank' : Nat) (rt : List UInt8) (ht : rt.length = 32) : HeadP (w.setCells P 49 (regV ep' bank' rt)) P d ks ep' bank' rt T nx := by
  have hl := regV_length (ep := ep') (bank := bank') ht
  have lo : ∀ {o : Nat} {cs : List Value}, Here w P o cs → o + cs.length ≤ 49 → Here (w.setCells P 49 (regV ep' bank' rt)) P o cs := fun h hl => h.setOff _ (.inr (.inl hl))
  have hi : ∀ {o : Nat} {cs : List Value}, Here w P o cs → 83 ≤ o → Here (w.setCells P 49 (regV ep' bank' rt)) P o cs := fun h hl' => h.setOff _ (.inr (.inr (by rw [hl]; omega)))
  exact ⟨lo h.c0 (by simp), lo h.ks (by omega), h.reg.set _ (by rw [hl, regV_length hr]), hi h.c83 (by omega), hi h.c84 (by omega)⟩
theorem HeadP.treed (h : HeadP w P d ks ep bank root T nx) (hk : ks.length = 48) (hr : root.length = 32) (T' : Nat) : HeadP (w.setCell ⟨P, 83, none⟩ (PT T')) P d ks ep bank root T' nx := by
  have lo : ∀ {o : Nat} {cs : List Value}, Here w P o cs → o + cs.length ≤ 83 → Here (w.setCell ⟨P, 83, none⟩ (PT T')) P o cs := fun h hl => h.setOff [PT T'] (.inr (.inl hl))
  exact ⟨lo h.c0 (by simp), lo h.ks (by omega), lo h.reg (by rw [regV_length hr]; omega), h.c83.set [PT T'] rfl, h.c84.setOff [PT T'] (.inr (.inr (by simp)))⟩
theorem headP_some (h : HeadP w P d ks ep bank root T nx) : (w.cell? ⟨P, 83, none⟩).isSome = true ∧ (w.cell? ⟨P, 84, none⟩).isSome = true ∧ w.frozen? ⟨P, 83, none⟩ = false ∧ w.frozen? ⟨P, 84, none⟩ = false :=
  ⟨by rw [here_one h.c83]; rfl, by rw [here_one h.c84]; rfl, by have := h.c83.free (j := 0) (by simp); rwa [Nat.add_zero] at this, by have := h.c84.free (j := 0) (by simp); rwa [Nat.add_zero] at this⟩
end
structure HeadL (w : World) (P d : Nat) (ek mk : List UInt8) (s : Bk.Bn) (ks : List Value) (T : Nat) (FT : Nat → Prop) (nx : Value) (S : List Bool) (V : Nat) : Prop where
  at_ : HeadP w P d ks s.ep s.bank s.root T nx
  keys : KeysV ek mk ks
  tree : Mr.T9 w FT T mk s.tags S V
  tl : s.tags.length = s.n
  n8 : 8 ≤ s.n
  r32 : s.root.length = 32
  b1 : s.bank ≤ 1
  PF : ¬ FT P
structure ComL (w : World) (P : Nat) (mk : List UInt8) (s : Bk.Bn) (C T : Nat) (FT KB : Nat → Prop) (rt : List UInt8) (bv : Value) (S : List Bool) : Prop where
  at_ : CommP w C P (s.ep + 1) (1 - s.bank) rt bv (min s.at_ s.n) T
  r32 : rt.length = 32
  tree : Mr.T9 w FT T mk (s.next ++ List.replicate (s.n - s.next.length) Mr.Mk.zero) S 0
  parts : PartsOn w KB bv s.L
  len : s.L.length = s.n
  l64 : ∀ x ∈ s.L, x.length = 64
  atn : s.at_ ≤ s.n + 1
  nlen : s.next.length = min s.at_ s.n
  CF : ¬ FT C
  PF : ¬ FT P
  KF : ∀ k, KB k → ¬ FT k
  KC : ¬ KB C
  KP : ¬ KB P
  CP : C ≠ P
def nextV (s : Bk.Bn) (C : Nat) : Value := if s.at_ < s.n then wrV C else if s.at_ = s.n then flV C else fiV C
section
variable {w w' : World} {P d : Nat} {ek mk : List UInt8} {s : Bk.Bn} {ks : List Value} {T C : Nat} {FT KB : Nat → Prop} {nx : Value} {S : List Bool} {V : Nat} {rt : List UInt8} {bv : Value} {X : Nat → Nat → Prop}
theorem HeadL.kl (h : HeadL w P d ek mk s ks T FT nx S V) : ks.length = 48 := h.keys.vec.len
theorem HeadL.n100 (h : HeadL w P d ek mk s ks T FT nx S V) : s.n ≤ 100 := by rw [← h.tl]; exact (Mr.treeAll.len h.tree).2.2.1
theorem HeadL.chg (h : HeadL w P d ek mk s ks T FT nx S V) (hc : Chg X w w') (hP : ∀ o, ¬ X P o) (hF : ∀ k o, FT k → ¬ X k o) : HeadL w' P d ek mk s ks T FT nx S V :=
  ⟨h.at_.chg hc hP, h.keys, Mr.treeAll.stay h.tree hc hF, h.tl, h.n8, h.r32, h.b1, h.PF⟩
theorem HeadL.below (h : HeadL w P d ek mk s ks T FT nx S V) (hb : Below w.heap.size w w') : HeadL w' P d ek mk s ks T FT nx S V := h.chg (Chg.below hb fun _ _ => False) (fun _ x => x) fun _ _ _ x => x
theorem ComL.chg (h : ComL w P mk s C T FT KB rt bv S) (hc : Chg X w w') (hC : ∀ o, ¬ X C o) (hF : ∀ k o, FT k → ¬ X k o) (hK : ∀ k o, KB k → ¬ X k o) : ComL w' P mk s C T FT KB rt bv S :=
  ⟨h.at_.chg hc hC, h.r32, Mr.treeAll.stay h.tree hc hF, h.parts.chg hc hK, h.len, h.l64, h.atn, h.nlen, h.CF, h.PF, h.KF, h.KC, h.KP, h.CP⟩
theorem ComL.below (h : ComL w P mk s C T FT KB rt bv S) (hb : Below w.heap.size w w') : ComL w' P mk s C T FT KB rt bv S := h.chg (Chg.below hb fun _ _ => False) (fun _ x => x) (fun _ _ _ x => x) fun _ _ _ x => x
end
def BL : BAcc := fun w F P d ek mk s => ∃ ks T FT nx S V, HeadL w P d ek mk s ks T FT nx S V ∧ F P ∧ (∀ k, FT k → F k) ∧ (∀ k, F k → k < w.heap.size) ∧
  ((s.L = [] ∧ nx = .nilFunc) ∨ ∃ C T2 FT2 KB rt bv S2, ComL w P mk s C T2 FT2 KB rt bv S2 ∧ nx = nextV s C ∧ ¬ FT C ∧ (∀ k, FT2 k → ¬ FT k) ∧ F C ∧ (∀ k, FT2 k → F k) ∧ ∀ k, KB k → F k)
theorem BL.stay {w w' : World} {F : Nat → Prop} {P d : Nat} {ek mk : List UInt8} {s : Bk.Bn} {X : Nat → Nat → Prop} (h : BL w F P d ek mk s) (hc : Chg X w w') (hn : ∀ k o, F k → ¬ X k o) : BL w' F P d ek mk s := by
  obtain ⟨ks, T, FT, nx, S, V, hH, hP, hT, hl, hb⟩ := h
  refine ⟨ks, T, FT, nx, S, V, hH.chg hc (fun o => hn P o hP) (fun k o hk => hn k o (hT k hk)), hP, hT, fun k hk => Nat.lt_of_lt_of_le (hl k hk) hc.size, ?_⟩
  rcases hb with hb | ⟨C, T2, FT2, KB, rt, bv, S2, hC, hx, h1, h2, h3, h4, h5⟩
  · exact .inl hb
  · exact .inr ⟨C, T2, FT2, KB, rt, bv, S2, hC.chg hc (fun o => hn C o h3) (fun k o hk => hn k o (h4 k hk)) (fun k o hk => hn k o (h5 k hk)), hx, h1, h2, h3, h4, h5⟩
end Go.Proofs.YthbmknpbcgnabaaGreatDoor
namespace Go.Proofs.YthbmknpbcgnabaaGreatDoor
open Go.RowKit Aes Ctr Sl Dsk
section
variable {w w' : World} {P d : Nat} {ek mk : List UInt8} {s : Bk.Bn} {ks : List Value} {T C : Nat} {F FT KB : Nat → Prop} {nx : Value} {S : List Bool} {V : Nat} {rt : List UInt8} {bv : Value} {X : Nat → Nat → Prop}
theorem Jsize_any (h : HeadL w P d ek mk s ks T FT nx S V) : Calls Tryz.prog 47 #[PT P] w fun e w' => e = .returned (IV s.n) ∧ Below w.heap.size w w' := by
  obtain ⟨c0, c49, c50, c83, c84⟩ := h.at_.cells
  have HP := Lib.hid (Mr.treeAll.places h.tree)
  rw [h.tl] at HP
  clear h c0 c49 c50 c84
  go_enter Tryz.func47, Tryz.ntmps47
  go_wp2_with fail
  refine HP.out.mono ?_
  rintro e w1 ⟨rfl, hb⟩
  go_wp2
  go_ret
  exact ⟨rfl, hb⟩
set_option maxRecDepth 100000 in
theorem neq_nil (w : World) : (binOp BinOp.neq 90 .nilFunc .nilFunc).run Tryz.prog w = .ok (.bool false) w := by kernel_rfl
theorem neq_fn (w : World) (f : Fn) (cs : Array Value) : (binOp BinOp.neq 90 (.func f cs #[]) .nilFunc).run Tryz.prog w = .ok (.bool true) w := by kernel_rfl
set_option maxRecDepth 100000 in
theorem JBusy_nil (h : w.cell? ⟨P, 84, none⟩ = some .nilFunc) : Calls Tryz.prog 29 #[PT P] w fun e w' => e = .returned (.bool false) ∧ w' = w := by
  have hn := neq_nil w
  go_enter Tryz.func29, Tryz.ntmps29
  go_wp2
  go_ret
  exact ⟨rfl, rfl⟩
set_option maxRecDepth 100000 in
theorem JBusy_fn {f : Fn} {cs : Array Value} (h : w.cell? ⟨P, 84, none⟩ = some (.func f cs #[])) : Calls Tryz.prog 29 #[PT P] w fun e w' => e = .returned (.bool true) ∧ w' = w := by
  have hn := neq_fn w f cs
  go_enter Tryz.func29, Tryz.ntmps29
  go_wp2
  go_ret
  exact ⟨rfl, rfl⟩
theorem nextV_fn (s : Bk.Bn) (C : Nat) : ∃ f cs, nextV s C = .func f cs #[] := by
  unfold nextV
  split
  · exact ⟨_, _, rfl⟩
  · split
    · exact ⟨_, _, rfl⟩
    · exact ⟨_, _, rfl⟩
theorem ComL.busy {FT KB : Nat → Prop} {T : Nat} (h : ComL w P mk s C T FT KB rt bv S) (h8 : 8 ≤ s.n) : s.L ≠ [] := fun e => by
  have := h.len
  rw [e] at this
  simp at this
  omega
theorem JBusy_any (h : BL w F P d ek mk s) : Calls Tryz.prog 29 #[PT P] w fun e w' => e = .returned (.bool (decide (s.L ≠ []))) ∧ Below w.heap.size w w' := by
  obtain ⟨ks, T, FT, nx, S, V, hH, hP, hT, hl, hb⟩ := h
  obtain ⟨c0, c49, c50, c83, c84⟩ := hH.at_.cells
  rcases hb with ⟨hb, rfl⟩ | ⟨C, T2, FT2, KB, rt, bv, S2, hC, rfl, _⟩
  · refine (JBusy_nil c84).mono ?_
    rintro e w' ⟨rfl, rfl⟩
    exact ⟨by rw [decide_eq_false (fun h => h hb)], Below.refl _ _⟩
  · obtain ⟨f, cs, e⟩ := nextV_fn s C
    rw [e] at c84
    refine (JBusy_fn c84).mono ?_
    rintro e w' ⟨rfl, rfl⟩
    exact ⟨by rw [decide_eq_true (hC.busy hH.n8)], Below.refl _ _⟩
end
theorem zeroReg (w : World) : (zeroValue 41).run Tryz.prog w = .ok (.agg (regV 0 0 (List.replicate 32 0)).toArray) w := by kernel_rfl
set_option maxRecDepth 100000 in
set_option maxHeartbeats 400000 in
theorem JReg_any {w : World} {P d ep bank T : Nat} {ks : List Value} {root : List UInt8} {nx : Value} (h : HeadP w P d ks ep bank root T nx) (hr : root.length = 32) (rs : List Value) (hrs : Hid (rs = regV ep bank root)) :
    Calls Tryz.prog 24 #[PT P] w fun e w' => e = .returned (.agg rs.toArray) ∧ Below w.heap.size w w' := by
  have hz := zeroReg w
  have hzl : (regV 0 0 (List.replicate 32 0)).length = 34 := rfl
  generalize regV 0 0 (List.replicate 32 0) = Z at hz hzl
  have HZl : Hid (Z.toArray.size = 34) := hzl
  clear hzl
  have Hsz : Hid (rs.toArray.size = 34) := by show _ = _; rw [List.size_toArray, hrs.out, regV_length hr]
  obtain ⟨w0, hw0⟩ : ∃ w0, w0 = w.alloc (.cells Z.toArray 41) := ⟨_, rfl⟩
  have HBL : Hid (Below w.heap.size w w0) := by rw [hw0]; exact (Below.refl _ _).alloc (Nat.le_refl _) _
  have HZ : Hid (Row w0 w.heap.size 41 Z) := by rw [hw0]; exact Row.new w 41 _
  have HG : Hid (w0.rangeAt P 49 rs) := by
    have := (h.chg (Chg.below HBL.out fun _ _ => False) fun _ x => x).reg.1
    rw [← hrs.out] at this
    exact this
  have Hone : Hid (rs.toArray.all (·.oneCell') = true) := by
    show _ = _
    rw [hrs.out, regV]
    simp
    exact ⟨rfl, rfl, fun _ _ => rfl⟩
  clear h hrs hr
  go_enter Tryz.func24, Tryz.ntmps24
  go_wp2_with (first
    | (rw [← hw0]; clear hw0; refine wpList_load_mid rfl 41 (.tmp 8) rfl P 49 rfl rs _ HG.out Tryz.underlying41 rfl (by rw [← List.size_toArray, Hsz.out]; kernel_rfl) ?_)
    | (refine wpList_store_row rfl 41 (.tmp 2) (.tmp 9) rfl w.heap.size rs.toArray rfl rfl 41 _ HZ.out (by rw [Hsz.out]; kernel_rfl) (by rw [Hsz.out, HZl.out]) Hone.out ?_))
  have hlast := HZ.out.whole rs
  have hinfo : (Tryz.prog.info? 41).map (·.size) = some rs.toArray.size := by rw [Hsz.out]; kernel_rfl
  go_wp2
  refine bodyPost_ret (v := .agg rs.toArray) (results_cell_row rfl _ _ w.heap.size 41 rs.toArray (0, 0) _ rfl hlast Tryz.underlying41 rfl hinfo) rfl ?_
  exact ⟨rfl, below_setRow' HBL.out (Nat.le_refl _) _⟩
end Go.Proofs.YthbmknpbcgnabaaGreatDoor
namespace Go.Proofs.YthbmknpbcgnabaaGreatDoor
open Go.RowKit Aes Ctr Sl Dsk
set_option maxRecDepth 100000 in
set_option maxHeartbeats 1000000 in
theorem Jraw_any {w : World} {P d T : Nat} {ek mk : List UInt8} {s : Bk.Bn} {ks : List Value} {FT G : Nat → Prop} {nx : Value} {S : List Bool} {V : Nat} {D : List Blk} (h : HeadL w P d ek mk s ks T FT nx S V) (hD : DiskAt w G d D) (i : Nat) (hi : i < s.n) (hl : D.length = 2 * s.n) :
    Calls Tryz.prog 37 #[PT P, IV i] w fun e w' => ∃ g, e = .returned (.slice (some ⟨g, 0, none⟩) 72 72) ∧ w.heap.size ≤ g ∧ Hid (Here w' g 0 ((Bk.curAt D (s.bank * s.n + i)).map V8)) ∧ Below w.heap.size w w' := by
  have hn100 := h.n100
  have hb1 := h.b1
  obtain ⟨bank, hbank⟩ : ∃ b, b = s.bank := ⟨_, rfl⟩
  obtain ⟨n, hn⟩ : ∃ b, b = s.n := ⟨_, rfl⟩
  have hSz : ∀ W, Below w.heap.size w W → Calls Tryz.prog 47 #[PT P] W fun e w' => e = .returned (IV s.n) ∧ Below W.heap.size W w' := fun W hW => Jsize_any (h.below hW)
  have hcl : ∀ W, Below w.heap.size w W → W.cell? ⟨P, 0, none⟩ = some (PT d) ∧ W.cell? ⟨P, 50, none⟩ = some (IV s.bank) := fun W hW => ⟨(h.below hW).at_.cells.1, (h.below hW).at_.cells.2.2.1⟩
  rw [← hn] at hi hl hn100 hSz
  rw [← hbank] at hb1 hcl
  rw [← hn, ← hbank]
  obtain ⟨k, hk⟩ : ∃ k, k = bank * n + i := ⟨_, rfl⟩
  have hkl : k < D.length := by
    rw [hk, hl]
    rcases (show bank = 0 ∨ bank = 1 by omega) with e | e <;> rw [e] <;> simp <;> omega
  have hbn : bank * n ≤ 100 := Nat.le_trans (Nat.mul_le_mul_right _ hb1) (by omega)
  obtain ⟨raw, hraw⟩ : ∃ r, r = Bk.curAt D k := ⟨_, rfl⟩
  have HRd : Hid (∀ W, Below w.heap.size w W → Calls Tryz.prog 27 #[PT d, IV k] W fun e w' => e = .returned (.tuple #[.slice (some ⟨W.heap.size, 0, none⟩) 72 72, .int .i64 0]) ∧ Here w' W.heap.size 0 (raw.map V8) ∧ Below W.heap.size W w') := fun W hW => by
    have hg : getB D (k : Int) = some (D.getD k Blk.zero) := by rw [getB_ofNat, List.getD_eq_getElem?_getD, List.getElem?_eq_getElem hkl]; rfl
    have := DRead_in (hD.below hW) (k : Int) _ hg
    rw [hraw]
    exact this
  have HSz := Lib.hid hSz
  have HKeep := Lib.hid hcl
  have Hm1 : Hid (IntKind.i64.wrap ((bank : Int) * (n : Int)) = ((bank * n : Nat) : Int)) := by
    show _ = _
    rw [show (bank : Int) * (n : Int) = ((bank * n : Nat) : Int) by simp, IntWalk.i64_in _ (by omega)]
  have Hm2 : Hid (IntKind.i64.wrap (((bank * n : Nat) : Int) + (i : Int)) = (k : Int)) := by show _ = _; rw [IntWalk.i64_in _ (by omega), hk]; simp
  rw [← hk, ← hraw]
  generalize bank * n = bn at *
  clear hk hSz hcl h hD hn hbank hi hl hn100 hb1 hkl hbn hraw
  go_enter Tryz.func37, Tryz.ntmps37
  go_wp2_with fail
  have hC : Below w.heap.size w w.drew := below_drewN (Below.refl _ _) 1
  refine wp_region_held_drew (S := (fun W => W.cell? ⟨P, 0, none⟩ = some (PT d) ∧ W.cell? ⟨P, 50, none⟩ = some (IV bank))) (by kernel_rfl) (HKeep.out _ hC) (fun hHeld => ?_)
  generalize w.drew = wd at *
  refine wpAnyH_take (i := 0) (oi := ⟨some 8, _, _, _, _, _⟩) (v := ?_) rfl (by kernel_rfl) (by kernel_rfl) (by kernel_rfl) (fun _ _ _ h => h) (Or.inl ⟨by rfl, ?_⟩) hHeld ?_
  rotate_left
  · intro w hSw
    go_simp
    with_reducible rfl
  try go_frame
  refine wpAnyH_take (i := 1) (oi := ⟨some 9, _, _, _, _, _⟩) (v := ?_) rfl (by kernel_rfl) (by kernel_rfl) (by kernel_rfl) (fun _ _ _ h => h) (Or.inl ⟨by rfl, ?_⟩) hHeld ?_
  rotate_left
  · intro w hSw
    go_simp
    with_reducible rfl
  try go_frame
  refine wpAnyH_take (i := 2) (oi := ⟨some 10, _, _, _, _, _⟩) (v := ?_) rfl (by kernel_rfl) (by kernel_rfl) (by kernel_rfl) (fun _ _ _ h => h) (Or.inl ⟨by rfl, ?_⟩) hHeld ?_
  rotate_left
  · intro w hSw
    go_simp
    with_reducible rfl
  try go_frame
  refine wpAnyH_take (i := 3) (oi := ⟨some 11, _, _, _, _, _⟩) (v := ?_) rfl (by kernel_rfl) (by kernel_rfl) (by kernel_rfl) (fun _ _ _ h => h) (Or.inl ⟨by rfl, ?_⟩) hHeld ?_
  rotate_left
  · intro w hSw
    have hc := hSw.1
    go_simp
    with_reducible rfl
  try go_frame
  refine wpAnyH_take (i := 4) (oi := ⟨some 12, _, _, _, _, _⟩) (v := ?_) rfl (by kernel_rfl) (by kernel_rfl) (by kernel_rfl) (fun _ _ _ h => h) (Or.inl ⟨by rfl, ?_⟩) hHeld ?_
  rotate_left
  · intro w hSw
    go_simp
    with_reducible rfl
  try go_frame
  refine wpAnyH_take (i := 5) (oi := ⟨some 13, _, _, _, _, _⟩) (v := ?_) rfl (by kernel_rfl) (by kernel_rfl) (by kernel_rfl) (fun _ _ _ h => h) (Or.inl ⟨by rfl, ?_⟩) hHeld ?_
  rotate_left
  · intro w hSw
    go_simp
    with_reducible rfl
  try go_frame
  refine wpAnyH_take (i := 6) (oi := ⟨some 14, _, _, _, _, _⟩) (v := ?_) rfl (by kernel_rfl) (by kernel_rfl) (by kernel_rfl) (fun _ _ _ h => h) (Or.inl ⟨by rfl, ?_⟩) hHeld ?_
  rotate_left
  · intro w hSw
    go_simp
    with_reducible rfl
  try go_frame
  refine wpAnyH_take (i := 7) (oi := ⟨some 15, _, _, _, _, _⟩) (v := ?_) rfl (by kernel_rfl) (by kernel_rfl) (by kernel_rfl) (fun _ _ _ h => h) (Or.inl ⟨by rfl, ?_⟩) hHeld ?_
  rotate_left
  · intro w hSw
    go_simp
    with_reducible rfl
  try go_frame
  refine wpAnyH_take (i := 8) (oi := ⟨some 16, _, _, _, _, _⟩) (v := ?_) rfl (by kernel_rfl) (by kernel_rfl) (by kernel_rfl) (fun _ _ _ h => h) (Or.inl ⟨by rfl, ?_⟩) hHeld ?_
  rotate_left
  · intro w hSw
    have hc := hSw.2
    go_simp
    with_reducible rfl
  try go_frame
  refine wpAnyH_take (i := 9) (oi := ⟨some 17, _, _, _, _, _⟩) (v := ?_) rfl (by kernel_rfl) (by kernel_rfl) (by kernel_rfl) (fun _ _ _ h => h) (Or.inl ⟨by rfl, ?_⟩) hHeld ?_
  rotate_left
  · intro w hSw
    go_simp
    with_reducible rfl
  try go_frame
  refine wpAnyH_take (i := 12) (oi := ⟨some 20, _, _, _, _, _⟩) (v := ?_) rfl (by kernel_rfl) (by kernel_rfl) (by kernel_rfl) (fun _ _ _ h => h) (Or.inl ⟨by rfl, ?_⟩) hHeld ?_
  rotate_left
  · intro w hSw
    go_simp
    with_reducible rfl
  try go_frame
  refine wpAnyH_ready (rs := [10]) (by kernel_rfl) (by simp) ?_
  refine AllReadyH.cons (o := ⟨some 18, _, _, _, _, _⟩) rfl (fun K hK => ?_) AllReadyH.nil
  go_simp
  go_at_call 47
  refine (HSz.out wd hC).mono ?_
  rintro e wd_sz ⟨rfl, hb⟩
  replace hC := hC.trans (hb.mono hC.size)
  refine hK.out _ _ (HKeep.out _ hC) (fun hHeld => ?_)
  clear hK K hb 
  try go_frame
  refine wpAnyH_take (i := 11) (oi := ⟨some 19, _, _, _, _, _⟩) (v := ?_) rfl (by kernel_rfl) (by kernel_rfl) (by kernel_rfl) (fun _ _ _ h => h) (Or.inl ⟨by rfl, ?_⟩) hHeld ?_
  rotate_left
  · intro w hSw
    have hm := Hm1.out
    go_simp
    with_reducible rfl
  try go_frame
  refine wpAnyH_take (i := 13) (oi := ⟨some 21, _, _, _, _, _⟩) (v := ?_) rfl (by kernel_rfl) (by kernel_rfl) (by kernel_rfl) (fun _ _ _ h => h) (Or.inl ⟨by rfl, ?_⟩) hHeld ?_
  rotate_left
  · intro w hSw
    have hm := Hm2.out
    go_simp
    with_reducible rfl
  try go_frame
  refine wpAnyH_ready (rs := [14]) (by kernel_rfl) (by simp) ?_
  refine AllReadyH.cons (o := ⟨some 22, _, _, _, _, _⟩) rfl (fun K hK => ?_) AllReadyH.nil
  go_simp
  go_at_call 27
  obtain ⟨g_rd, Hg_rd⟩ : ∃ g, Hid (g = wd_sz.heap.size) := ⟨_, rfl⟩
  have hg_rd : w.heap.size ≤ g_rd := by rw [Hg_rd.out]; exact hC.size
  refine (HRd.out wd_sz hC).mono ?_
  rintro e wd_sz_rd ⟨rfl, hR_rd, hb⟩
  have R_rd : Hid (Here wd_sz_rd g_rd 0 (raw.map V8)) := Hg_rd.out ▸ hR_rd
  replace hC := hC.trans (hb.mono hC.size)
  refine hK.out _ _ (HKeep.out _ hC) (fun hHeld => ?_)
  clear hK K hb 
  rw [← Hg_rd.out]
  clear Hg_rd hR_rd
  try go_frame
  refine wpAnyH_take (i := 15) (oi := ⟨some 7, _, _, _, _, _⟩) (v := ?_) rfl (by kernel_rfl) (by kernel_rfl) (by kernel_rfl) (fun _ _ _ h => h) (Or.inl ⟨by rfl, ?_⟩) hHeld ?_
  rotate_left
  · intro w hSw
    go_simp
    with_reducible rfl
  try go_frame
  refine wpAnyH_take (i := 16) (oi := ⟨some 23, _, _, _, _, _⟩) (v := ?_) rfl (by kernel_rfl) (by kernel_rfl) (by kernel_rfl) (fun _ _ _ h => h) (Or.inl ⟨by rfl, ?_⟩) hHeld ?_
  rotate_left
  · intro w hSw
    go_simp
    with_reducible rfl
  try go_frame
  refine wpAnyH_take (i := 17) (oi := ⟨some 24, _, _, _, _, _⟩) (v := ?_) rfl (by kernel_rfl) (by kernel_rfl) (by kernel_rfl) (fun _ _ _ h => h) (Or.inl ⟨by rfl, ?_⟩) hHeld ?_
  rotate_left
  · intro w hSw
    go_simp
    with_reducible rfl
  try go_frame
  refine wpAnyH_take (i := 18) (oi := ⟨some 5, _, _, _, _, _⟩) (v := ?_) rfl (by kernel_rfl) (by kernel_rfl) (by kernel_rfl) (fun _ _ _ h => h) (Or.inl ⟨by rfl, ?_⟩) hHeld ?_
  rotate_left
  · intro w hSw
    go_simp
    with_reducible rfl
  try go_frame
  refine wpAnyH_take (i := 19) (oi := ⟨some 6, _, _, _, _, _⟩) (v := ?_) rfl (by kernel_rfl) (by kernel_rfl) (by kernel_rfl) (fun _ _ _ h => h) (Or.inl ⟨by rfl, ?_⟩) hHeld ?_
  rotate_left
  · intro w hSw
    go_simp
    with_reducible rfl
  try go_frame
  refine wpAnyH_done (by kernel_rfl) ?_ _
  clear HKeep hHeld
  have HC := Lib.hid hC
  clear hC
  go_wp2
  go_ret
  exact ⟨g_rd, rfl, hg_rd, R_rd, HC.out⟩
end Go.Proofs.YthbmknpbcgnabaaGreatDoor
namespace Go.Proofs.YthbmknpbcgnabaaGreatDoor
open Go.RowKit Aes Ctr Sl Dsk
set_option maxRecDepth 100000 in
set_option maxHeartbeats 1000000 in
theorem Jfits_any {w : World} {G : Nat → Prop} {d : Nat} {D : List Blk} (hD : DiskAt w G d D) (n : Int) (h1 : -9223372036854775808 ≤ n) (h2 : n ≤ 9223372036854775807) :
    Calls Tryz.prog 32 #[PT d, .int .i64 n] w fun e w' => e = .returned (.bool (decide (8 ≤ n ∧ n ≤ 128 ∧ (D.length : Int) = 2 * n))) ∧ Below w.heap.size w w' := by
  obtain ⟨g, ps, hW⟩ := hD
  have HB := Lib.hid (DBlocks_any hW)
  obtain ⟨l, hl⟩ : ∃ l, l = D.length := ⟨_, rfl⟩
  rw [← hl] at HB ⊢
  clear hW hl
  have hc : (8 ≤ n ∧ n ≤ 128 ∧ (l : Int) = 2 * n ∧ decide (8 ≤ n ∧ n ≤ 128 ∧ (l : Int) = 2 * n) = true) ∨ (8 ≤ n ∧ n ≤ 128 ∧ ((l : Int) == 2 * n) = false ∧ decide (8 ≤ n ∧ n ≤ 128 ∧ (l : Int) = 2 * n) = false) ∨ (8 ≤ n ∧ ¬ n ≤ 128 ∧ decide (8 ≤ n ∧ n ≤ 128 ∧ (l : Int) = 2 * n) = false) ∨ (¬ 8 ≤ n ∧ decide (8 ≤ n ∧ n ≤ 128 ∧ (l : Int) = 2 * n) = false) := by
    by_cases h8 : 8 ≤ n
    · by_cases h128 : n ≤ 128
      · by_cases e : (l : Int) = 2 * n
        · exact .inl ⟨h8, h128, e, decide_eq_true ⟨h8, h128, e⟩⟩
        · exact .inr (.inl ⟨h8, h128, beq_false_of_ne e, decide_eq_false fun h => e h.2.2⟩)
      · exact .inr (.inr (.inl ⟨h8, h128, decide_eq_false fun h => h128 h.2.1⟩))
    · exact .inr (.inr (.inr ⟨h8, decide_eq_false fun h => h8 h.1⟩))
  generalize decide (8 ≤ n ∧ n ≤ 128 ∧ (l : Int) = 2 * n) = r at hc ⊢
  rcases hc with ⟨h8, h128, e, rfl⟩ | ⟨h8, h128, e, rfl⟩ | ⟨h8, h128, rfl⟩ | ⟨h8, rfl⟩
  · have hw : IntKind.i64.wrap (2 * n) = 2 * n := IntWalk.i64_in _ (by omega)
    have he : ((l : Int) == 2 * n) = true := by rw [e]; exact beq_self_eq_true _
    clear e h1 h2
    go_enter Tryz.func32, Tryz.ntmps32
    go_wp2_with fail
    refine HB.out.mono ?_
    rintro e w' ⟨rfl, rfl⟩
    go_wp2
    go_ret
    exact ⟨rfl, Below.refl _ _⟩
  · have hw : IntKind.i64.wrap (2 * n) = 2 * n := IntWalk.i64_in _ (by omega)
    clear h1 h2
    go_enter Tryz.func32, Tryz.ntmps32
    go_wp2_with fail
    refine HB.out.mono ?_
    rintro e w' ⟨rfl, rfl⟩
    go_wp2
    go_ret
    exact ⟨rfl, Below.refl _ _⟩
  · clear HB
    go_enter Tryz.func32, Tryz.ntmps32
    go_wp2
    go_ret
    exact ⟨rfl, Below.refl _ _⟩
  · clear HB
    go_enter Tryz.func32, Tryz.ntmps32
    go_wp2
    go_ret
    exact ⟨rfl, Below.refl _ _⟩
set_option maxRecDepth 100000 in
set_option maxHeartbeats 1000000 in
theorem JnoTags_any (ek mk : List UInt8) (ks : List Value) (hk : KeysV ek mk ks) (n : Nat) (h1 : 1 ≤ n) (h2 : n ≤ 100) (w : World) (hT : Hm.Tab w) :
    Calls Tryz.prog 50 #[.agg ks.toArray, IV n] w fun e w' => ∃ T F, e = .returned (PT T) ∧ Mr.T9 w' F T mk (List.replicate n Mr.Mk.zero) (List.replicate n false) 0 ∧ (∀ k, F k → w.heap.size ≤ k) ∧ Below w.heap.size w w' := by
  have Hzk : Hid (ks.toArray.size = 48) := hk.size
  obtain ⟨w0, hw0⟩ : ∃ w0, w0 = w.alloc (.cells ks.toArray 29) := ⟨_, rfl⟩
  have HBL : Hid (Below w.heap.size w w0) := by rw [hw0]; exact (Below.refl _ _).alloc (Nat.le_refl _) _
  have HX : Hid (Row w0 w.heap.size 29 ks) := by rw [hw0]; exact Row.new w 29 ks
  have HN : Hid (Calls Tryz.prog 89 #[.slice (some ⟨w.heap.size, 16, none⟩) 32 32, IV n] w0 fun e w' => ∃ T F, e = .returned (.tuple #[PT T, .int .i64 0]) ∧ Mr.T9 w' F T mk (List.replicate n Mr.Mk.zero) (List.replicate n false) 0 ∧ (∀ k, F k → w0.heap.size ≤ k) ∧ Below w0.heap.size w0 w') :=
    Mr.treeAll.newOk mk _ n w0 (by rw [hk.2.2]; omega) h1 h2 (hT.below HBL.out) (hk.mac HX.out)
  clear hk hT h1 h2
  go_enter Tryz.func50, Tryz.ntmps50
  go_wp2_with fail
  rw [← hw0]
  clear hw0
  refine HN.out.mono ?_
  rintro e w1 ⟨T, F, rfl, hT, hF, hb⟩
  have HT := Lib.hid hT
  have HF := Lib.hid hF
  have HB := Lib.hid hb
  clear hT hF hb HN
  go_wp2
  go_ret
  exact ⟨T, F, rfl, HT.out, fun k hk => Nat.le_trans HBL.out.size (HF.out k hk), HBL.out.trans (HB.out.mono HBL.out.size)⟩
end Go.Proofs.YthbmknpbcgnabaaGreatDoor
