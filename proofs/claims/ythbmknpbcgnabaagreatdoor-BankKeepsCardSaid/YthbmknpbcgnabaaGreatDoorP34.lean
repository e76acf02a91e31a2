/-
  OF THE WALK: VI, VJ, VK.
-/
import Derived.Test.YthbmknpbcgnabaaGreatDoorP33
namespace Go.Proofs.YthbmknpbcgnabaaGreatDoor
open Go.RowKit Aes Ctr Sl Dsk
theorem fill_at {place : Nat → Option (Nat × Nat)} (a b c l : List Value) {i : Nat} {v : Value} {r : List (Nat × Value)} (hp : place i = some (a.length, l.length)) (hv : v.cells = l.toArray) (hb : b.length = l.length) :
    Instr.fill place (a ++ (b ++ c)).toArray ((i, v) :: r) = Instr.fill place (a ++ (l ++ c)).toArray r := by
  have f := foldl_put l a.length 0 (a ++ (b ++ c)).toArray (by rw [List.size_toArray, List.length_append, List.length_append]; omega)
  rw [Instr.fill, hp]
  dsimp only
  rw [hv]
  refine Eq.trans (if_neg (by simp; omega)) ?_
  have g : l.toArray.zipIdx.foldl (fun (cs : Array Value) (p : Value × Nat) => cs.setIfInBounds (a.length + p.2) p.1) (a ++ (b ++ c)).toArray = (a ++ (l ++ c)).toArray := by
    rw [← Array.foldl_toList, show l.toArray.zipIdx.toList = l.zipIdx by simp, f]
    congr 1
    rw [Nat.add_zero, show (a ++ (b ++ c)).toArray.toList = a ++ (b ++ c) from rfl, List.take_left, List.append_assoc]
    congr 2
    rw [← hb, ← List.append_assoc, List.drop_left' (by rw [List.length_append])]
  rw [g]
theorem yieldsIf_buildN {P : Program} {ops : Array Oper} {S : World → Prop} {op : Oper} {a : Act} (hw : Region.wanted op (yielded ops a.tmps) = true) (t : TypeId) (xs : List (Nat × Operand)) (ho : op.op = .build t xs.toArray) (vs : List (Nat × Value)) (hm : xs.map (fun p => (p.1, a.eval p.2)) = vs) (cells : Array Value)
    (hb : P.built t vs = some cells) : YieldsIf P ops S op (.agg cells) a :=
  .inl ⟨hw, fun w _ => by
    have hp : (xs.toArray.map fun (i, x) => (i, a.eval x)) = vs.toArray := by rw [← hm, List.map_toArray]
    unfold execOp
    simp only [ho, Sem.run_bind, Sem.run_pure, Result.andThen_ok, hp, run_build w t vs.toArray cells hb]⟩
abbrev nP : Value := .pointer none
abbrev nF : Value := .nilFunc
abbrev nS : Value := .slice none 0 0
abbrev zU : Value := .int .u64 0
abbrev zI : Value := .int .i64 0
def Zt32 : List Value := List.replicate 32 (.int .u8 0)
def Zreg : List Value := zU :: zI :: Zt32
theorem built_bank (parts : List (Nat × Value)) : Tryz.prog.built 92 parts = Instr.fill (fun i => (#[(0, 1), (1, 48), (49, 34), (83, 1), (84, 1)] : Array (Nat × Nat))[i]?) ([] ++ ([nP] ++ (Z48 ++ (Zreg ++ ([nP] ++ [nF]))))).toArray parts := by kernel_rfl
theorem built_commit (parts : List (Nat × Value)) : Tryz.prog.built 117 parts = Instr.fill (fun i => (#[(0, 1), (1, 34), (35, 1), (36, 1), (37, 1)] : Array (Nat × Nat))[i]?) ([] ++ ([nP] ++ (Zreg ++ ([nS] ++ ([zI] ++ ([nP] ++ [])))))).toArray parts := by kernel_rfl
theorem built_reg (parts : List (Nat × Value)) : Tryz.prog.built 41 parts = Instr.fill (fun i => (#[(0, 1), (1, 1), (2, 32)] : Array (Nat × Nat))[i]?) ([] ++ ([zU] ++ ([zI] ++ Zt32))).toArray parts := by kernel_rfl
theorem bankOf (d : Nat) (ks rs : List Value) (T : Nat) (hk : ks.length = 48) (hr : rs.length = 34) : Tryz.prog.built 92 [(0, PT d), (1, .agg ks.toArray), (2, .agg rs.toArray), (3, PT T)] = some (PT d :: (ks ++ (rs ++ [PT T, nF]))).toArray := by
  rw [built_bank, fill_at [] [nP] _ [PT d] rfl rfl rfl]
  refine Eq.trans (fill_at ([] ++ [PT d]) Z48 _ ks (by rw [hk]; rfl) rfl (by rw [hk]; rfl)) ?_
  have e1 : ([] ++ [PT d]) ++ (ks ++ (Zreg ++ ([nP] ++ [nF]))) = ([PT d] ++ ks) ++ (Zreg ++ ([nP] ++ [nF])) := by simp
  rw [e1]
  refine Eq.trans (fill_at ([PT d] ++ ks) Zreg _ rs (by rw [hr, List.length_append, hk]; rfl) rfl (by rw [hr]; rfl)) ?_
  have e2 : ([PT d] ++ ks) ++ (rs ++ ([nP] ++ [nF])) = ([PT d] ++ ks ++ rs) ++ ([nP] ++ [nF]) := by simp
  rw [e2]
  refine Eq.trans (fill_at ([PT d] ++ ks ++ rs) [nP] _ [PT T] (by rw [List.length_append, List.length_append, hk, hr]; rfl) rfl rfl) ?_
  rw [Instr.fill]
  simp
theorem regOf (ep bank : Int) : Tryz.prog.built 41 [(0, .int .u64 ep), (1, .int .i64 bank)] = some (.int .u64 ep :: .int .i64 bank :: Zt32).toArray := by
  rw [built_reg, fill_at [] [zU] _ [.int .u64 ep] rfl rfl rfl]
  refine Eq.trans (fill_at [.int .u64 ep] [zI] Zt32 [.int .i64 bank] rfl rfl rfl) ?_
  rw [Instr.fill]
  simp
theorem commitOf (P T : Nat) (rs : List Value) (bv : Value) (hb : bv.cells = #[bv]) (hr : rs.length = 34) : Tryz.prog.built 117 [(0, PT P), (1, .agg rs.toArray), (2, bv), (4, PT T)] = some (PT P :: (rs ++ [bv, zI, PT T])).toArray := by
  rw [built_commit, fill_at [] [nP] _ [PT P] rfl rfl rfl]
  refine Eq.trans (fill_at ([] ++ [PT P]) Zreg _ rs (by rw [hr]; rfl) rfl (by rw [hr]; rfl)) ?_
  have e1 : ([] ++ [PT P]) ++ (rs ++ ([nS] ++ ([zI] ++ ([nP] ++ [])))) = ([PT P] ++ rs) ++ ([nS] ++ ([zI] ++ ([nP] ++ []))) := by simp
  rw [e1]
  refine Eq.trans (fill_at ([PT P] ++ rs) [nS] _ [bv] (by rw [List.length_append, hr]; rfl) hb rfl) ?_
  have e2 : ([PT P] ++ rs) ++ ([bv] ++ ([zI] ++ ([nP] ++ []))) = ([PT P] ++ rs ++ [bv, zI]) ++ ([nP] ++ []) := by simp
  rw [e2]
  refine Eq.trans (fill_at ([PT P] ++ rs ++ [bv, zI]) [nP] _ [PT T] (by rw [List.length_append, List.length_append, hr]; rfl) rfl rfl) ?_
  rw [Instr.fill]
  simp
end Go.Proofs.YthbmknpbcgnabaaGreatDoor
namespace Go.Proofs.YthbmknpbcgnabaaGreatDoor
open Go.RowKit Aes Ctr Sl Dsk
set_option maxRecDepth 100000 in
set_option maxHeartbeats 1000000 in
theorem JnewBank_any (d : Nat) (ek mk : List UInt8) (ks : List Value) (hk : KeysV ek mk ks) (n : Nat) (h8 : 8 ≤ n) (h100 : n ≤ 100) (ep bank : Nat) (hb1 : bank ≤ 1) (root : List UInt8) (hroot : root.length = 32) (rs : List Value) (hrs : Hid (rs = regV ep bank root)) (w : World) (hT : Hm.Tab w) :
    Calls Tryz.prog 33 #[PT d, .agg ks.toArray, IV n, .agg rs.toArray] w fun e w' => ∃ P T FT, e = .returned (PT P) ∧ HeadL w' P d ek mk ⟨n, ep, bank, root, List.replicate n Mr.Mk.zero, [], 0, []⟩ ks T FT .nilFunc (List.replicate n false) 0 ∧ (∀ k, FT k → w.heap.size ≤ k) ∧ w.heap.size ≤ P ∧ P < w'.heap.size ∧ Below w.heap.size w w' := by
  have HKl : Hid (ks.length = 48) := hk.vec.len
  have HRl : Hid (rs.length = 34) := by show _ = _; rw [hrs.out, regV_length hroot]
  obtain ⟨w0, hw0⟩ : ∃ w0, w0 = (w.alloc (.cells ks.toArray 29)).alloc (.cells rs.toArray 41) := ⟨_, rfl⟩
  have HBL : Hid (Below w.heap.size w w0) := by rw [hw0]; exact ((Below.refl _ _).alloc (Nat.le_refl _) _).alloc (by simp) _
  have HX : Hid (Row w0 w.heap.size 29 ks) := by rw [hw0]; exact (Row.new w 29 ks).alloc _
  have HY : Hid (Row w0 (w.heap.size + 1) 41 rs) := by rw [hw0]; exact Row.newAt 41 rs (by simp)
  have HKeep : Hid (∀ W, Below w0.heap.size w0 W → W.rangeAt w.heap.size 0 ks ∧ W.rangeAt (w.heap.size + 1) 0 rs) := fun W hW => ⟨range_row (HX.out.below hW HX.out.lt), range_row (HY.out.below hW HY.out.lt)⟩
  have HNt : Hid (∀ W, Below w0.heap.size w0 W → Calls Tryz.prog 50 #[.agg ks.toArray, IV n] W fun e w' => ∃ T F, e = .returned (PT T) ∧ Mr.T9 w' F T mk (List.replicate n Mr.Mk.zero) (List.replicate n false) 0 ∧ (∀ k, F k → W.heap.size ≤ k) ∧ Below W.heap.size W w') :=
    fun W hW => JnoTags_any ek mk ks hk n (by omega) h100 W ((hT.below HBL.out).below hW)
  have HEnd : Hid (∀ (W : World) (P T : Nat) (FT : Nat → Prop), Row W P 92 (PT d :: (ks ++ (rs ++ [PT T, nF]))) → Mr.T9 W FT T mk (List.replicate n Mr.Mk.zero) (List.replicate n false) 0 → (∀ k, FT k → w0.heap.size ≤ k) → (∀ k, FT k → k < P) → w.heap.size ≤ P → Below w.heap.size w W →
      ∃ P' T' FT', Ending.returned (PT P) = .returned (PT P') ∧ HeadL W P' d ek mk ⟨n, ep, bank, root, List.replicate n Mr.Mk.zero, [], 0, []⟩ ks T' FT' .nilFunc (List.replicate n false) 0 ∧ (∀ k, FT' k → w.heap.size ≤ k) ∧ w.heap.size ≤ P' ∧ P' < W.heap.size ∧ Below w.heap.size w W) := fun W P T FT hR hTr hF hFP hP hB =>
    ⟨P, T, FT, rfl, ⟨headP_of (by rw [hrs.out] at hR; exact hR.here) hk.vec.len hroot, hk, hTr, List.length_replicate, h8, hroot, hb1, fun h => by have := hFP P h; omega⟩, fun k hk => Nat.le_trans HBL.out.size (hF k hk), hP, hR.lt, hB⟩
  have Hs1 : Hid (ks.toArray.size = 48) := hk.size
  have hi1 : (Tryz.prog.info? 29).map (·.size) = some ks.length := by rw [HKl.out]; kernel_rfl
  have hi2 : (Tryz.prog.info? 41).map (·.size) = some rs.length := by rw [HRl.out]; kernel_rfl
  clear hk h8 h100 hb1 hroot hrs hT HX HY
  go_enter Tryz.func33, Tryz.ntmps33
  go_wp2_with fail
  rw [← hw0]
  clear hw0
  have hC : Below w0.heap.size w0 w0.drew := below_drewN (Below.refl _ _) 1
  refine wp_region_held_drew (S := (fun W => W.rangeAt w.heap.size 0 ks ∧ W.rangeAt (w.heap.size + 1) 0 rs)) (by kernel_rfl) (HKeep.out _ hC) (fun hHeld => ?_)
  generalize w0.drew = w0d at *
  refine wpAnyH_take (i := 0) (oi := ⟨some 9, _, _, _, _, _⟩) (v := ?_) rfl (by kernel_rfl) (by kernel_rfl) (by kernel_rfl) (fun _ _ _ h => h) (Or.inl ⟨by rfl, ?_⟩) hHeld ?_
  rotate_left
  · intro w hSw
    go_simp
    with_reducible rfl
  try go_frame
  refine wpAnyH_take (i := 1) (oi := ⟨some 10, _, _, _, _, _⟩) (v := .agg (ks).toArray) rfl (by kernel_rfl) (by kernel_rfl) (by kernel_rfl) (fun _ _ _ h => h) (yieldsIf_load_mid (by rfl) 29 (.tmp 5) rfl (w.heap.size) 0 rfl (ks) _ (fun W h => h.1) Tryz.underlying29 rfl hi1) hHeld ?_
  try go_frame
  refine wpAnyH_take (i := 2) (oi := ⟨some 11, _, _, _, _, _⟩) (v := .agg (rs).toArray) rfl (by kernel_rfl) (by kernel_rfl) (by kernel_rfl) (fun _ _ _ h => h) (yieldsIf_load_mid (by rfl) 41 (.tmp 7) rfl ((w.heap.size + 1)) 0 rfl (rs) _ (fun W h => h.2) Tryz.underlying41 rfl hi2) hHeld ?_
  try go_frame
  refine wpAnyH_take (i := 3) (oi := ⟨some 12, _, _, _, _, _⟩) (v := .agg (ks).toArray) rfl (by kernel_rfl) (by kernel_rfl) (by kernel_rfl) (fun _ _ _ h => h) (yieldsIf_load_mid (by rfl) 29 (.tmp 5) rfl (w.heap.size) 0 rfl (ks) _ (fun W h => h.1) Tryz.underlying29 rfl hi1) hHeld ?_
  try go_frame
  refine wpAnyH_take (i := 4) (oi := ⟨some 13, _, _, _, _, _⟩) (v := ?_) rfl (by kernel_rfl) (by kernel_rfl) (by kernel_rfl) (fun _ _ _ h => h) (Or.inl ⟨by rfl, ?_⟩) hHeld ?_
  rotate_left
  · intro w hSw
    go_simp
    with_reducible rfl
  try go_frame
  refine wpAnyH_ready (rs := [5]) (by kernel_rfl) (by simp) ?_
  refine AllReadyH.cons (o := ⟨some 14, _, _, _, _, _⟩) rfl (fun K hK => ?_) AllReadyH.nil
  go_simp
  go_at_call 50
  have hC0 := hC
  refine (HNt.out w0d hC).mono ?_
  rintro e w0d_nt ⟨T, FT, rfl, hT, hFT, hb⟩
  have F_T : Hid (Mr.T9 w0d_nt FT T mk (List.replicate n Mr.Mk.zero) (List.replicate n false) 0) := hT
  replace hC := hC.trans (hb.mono hC.size)
  refine hK.out _ _ (HKeep.out _ hC) (fun hHeld => ?_)
  clear hK K hb 
  have hFT0 : Hid (∀ k, FT k → w0.heap.size ≤ k) := fun k hk => Nat.le_trans hC0.size (hFT k hk)
  clear hT hFT hC0
  try go_frame
  refine wpAnyH_take (i := 6) (oi := ⟨some 15, _, _, _, _, _⟩) (v := .agg (PT d :: (ks ++ (rs ++ [PT T, nF]))).toArray) rfl (by kernel_rfl) (by kernel_rfl) (by kernel_rfl) (fun _ _ _ h => h) (yieldsIf_buildN (by rfl) 92 [(0, .tmp 9), (1, .tmp 10), (2, .tmp 11), (3, .tmp 14)] rfl [(0, PT d), (1, .agg ks.toArray), (2, .agg rs.toArray), (3, PT T)] (by rfl) _ (bankOf d ks rs T HKl.out HRl.out)) hHeld ?_
  try go_frame
  refine wpAnyH_ready (rs := [7]) (by kernel_rfl) (by simp) ?_
  refine AllReadyH.cons (o := ⟨some 16, _, _, _, _, _⟩) rfl (fun K hK => ?_) AllReadyH.nil
  go_simp
  have hb : Below w0d_nt.heap.size w0d_nt (w0d_nt.alloc (.cells (PT d :: (ks ++ (rs ++ [PT T, nF]))).toArray 92)) := Joins.below_alloc1 _ _
  have hg_bk := hC.size
  obtain ⟨g_bk, Hg_bk⟩ : ∃ g, Hid (g = w0d_nt.heap.size) := ⟨_, rfl⟩
  have R_bk : Hid (Row (w0d_nt.alloc (.cells (PT d :: (ks ++ (rs ++ [PT T, nF]))).toArray 92)) w0d_nt.heap.size 92 (PT d :: (ks ++ (rs ++ [PT T, nF])))) := Row.new w0d_nt 92 _
  have F_TP : Hid (∀ k, FT k → k < w0d_nt.heap.size) := Mr.treeAll.lt F_T.out
  replace hC := hC.trans (hb.mono hC.size)
  replace F_T := Lib.hid (Mr.treeAll.stay F_T.out (Chg.below hb fun _ _ => False) fun _ _ _ x => x)
  refine hK.out _ _ (HKeep.out _ hC) (fun hHeld => ?_)
  clear hK K hb
  generalize (w0d_nt.alloc (.cells (PT d :: (ks ++ (rs ++ [PT T, nF]))).toArray 92)) = w0d_nt_bk at *
  rw [← Hg_bk.out] at hg_bk ⊢
  rw [← Hg_bk.out] at R_bk
  rw [← Hg_bk.out] at F_TP
  clear Hg_bk
  try go_frame
  refine wpAnyH_take (i := 8) (oi := ⟨some 8, _, _, _, _, _⟩) (v := ?_) rfl (by kernel_rfl) (by kernel_rfl) (by kernel_rfl) (fun _ _ _ h => h) (Or.inl ⟨by rfl, ?_⟩) hHeld ?_
  rotate_left
  · intro w hSw
    go_simp
    with_reducible rfl
  try go_frame
  refine wpAnyH_done (by kernel_rfl) ?_ _
  clear HKeep hHeld
  have HC := Lib.hid (HBL.out.trans (hC.mono HBL.out.size))
  have HCs := Lib.hid hC.size
  clear hC
  go_wp2
  go_ret
  exact HEnd.out _ g_bk T FT R_bk.out F_T.out hFT0.out F_TP.out (Nat.le_trans HBL.out.size hg_bk) HC.out
end Go.Proofs.YthbmknpbcgnabaaGreatDoor
namespace Go.Proofs.YthbmknpbcgnabaaGreatDoor
open Go.RowKit Aes Ctr Sl Dsk
set_option maxRecDepth 100000 in
set_option maxHeartbeats 1000000 in
theorem Cclone_any (v : Value) (bs : List UInt8) (w : World) (hk : bs.length ≤ 1000) (hA : Arg w v bs) : Calls Tryz.prog 88 #[v] w fun e w' => ∃ v', e = .returned v' ∧ Hid (Own w' w.heap.size 5 v' (bs.map V8)) ∧ Below w.heap.size w w' := by
  obtain ⟨A, cap, rfl⟩ := hA.form
  cases A with
  | none =>
    have hn : bs = [] := by
      rcases hA with ⟨A, _, h⟩ | ⟨b, o, c, h, _⟩
      · exact h
      · injection h with h; cases h
    subst hn
    clear hA
    have he : ∀ W : World, (binOp .eql 22 (.slice none 0 cap) (.slice none 0 0)).run Tryz.prog W = .ok (.bool true) W := fun _ => rfl
    rw [List.length_nil]
    go_enter Tryz.func88, Tryz.ntmps88
    go_wp2
    go_ret
    exact ⟨_, rfl, Own.nil _ _ _, Below.refl _ _⟩
  | some ad =>
    obtain ⟨w1, hw1⟩ : ∃ W, W = w.alloc (.cells #[] 5) := ⟨_, rfl⟩
    have HFr : Hid (From w1 (.slice (some ad) bs.length cap) (bs.map V8)) := by rw [hw1]; exact (arg_from hA).alloc _
    have HO : Hid (Own w1 w.heap.size 5 (.slice (some ⟨w.heap.size, 0, none⟩) 0 0) []) := by rw [hw1]; exact Own.lit w w.heap.size 5 [] (Nat.le_refl _) (Nat.zero_le _)
    have HB : Hid (Below w.heap.size w w1) := by rw [hw1]; exact (Below.refl _ _).alloc (Nat.le_refl _) _
    have HLn : Hid (([] : List Value).length + (bs.map V8).length ≤ 100000000) := by show _ ≤ _; simp; omega
    have H1 := Lib.hid (oneC8 bs)
    have Hsz : Hid (w.heap.size ≤ w1.heap.size) := HB.out.size
    obtain ⟨n, hn⟩ : ∃ n, n = bs.length := ⟨_, rfl⟩
    rw [← hn] at HFr ⊢
    clear hA hk hn
    have he : ∀ W : World, (binOp .eql 22 (.slice (some ad) n cap) (.slice none 0 0)).run Tryz.prog W = .ok (.bool false) W := fun _ => rfl
    go_enter Tryz.func88, Tryz.ntmps88
    go_wp2_with (at_builtin; rw [← hw1]; refine wpList_app rfl (.tmp 5) (.tmp 6) 22 rfl w.heap.size 5 Tryz.underlying22 info8 rfl (by decide) _ [] rfl HO.out _ (bs.map V8) rfl HFr.out H1.out HLn.out Hsz.out ?_; intro v2 w2 hown2 hg2 _; rw [List.nil_append] at hown2; have HO2 := Lib.hid hown2; have HB2 : Hid (Below w.heap.size w w2) := below_app HB.out HO.out hg2 (Nat.le_refl _) HB.out.size; clear hown2 hg2)
    go_ret
    exact ⟨v2, rfl, HO2.out, HB2.out⟩
theorem Jwhole1_any (A : Option Addr) (n c : Nat) (w : World) : Calls Tryz.prog 86 #[.slice A n c] w fun e w' => e = .returned (.bool (decide (n ≠ 64))) ∧ w' = w := by
  by_cases h : n = 64
  · subst h
    go_enter Tryz.func86, Tryz.ntmps86
    go_wp2
    go_ret
    exact ⟨rfl, rfl⟩
  · have he : ((n : Int) != 64) = true := bne_iff_ne.2 (by omega)
    rw [decide_eq_true h]
    clear h
    go_enter Tryz.func86, Tryz.ntmps86
    go_wp2
    go_ret
    exact ⟨rfl, rfl⟩
theorem PartsOn.at_ {w : World} {K : Nat → Prop} {A : Option Addr} {n cap : Nat} {l : List (List UInt8)} (h : PartsOn w K (.slice A n cap) l) (hn : l.length = n) (hp : 0 < n) :
    ∃ b o, A = some ⟨b, o, none⟩ ∧ b < w.heap.size ∧ K b ∧ ∀ j, j < n → ∃ A' c, w.cell? ⟨b, o + j, none⟩ = some (.slice A' (l.getD j []).length c) ∧ ArgOn w K (.slice A' (l.getD j []).length c) (l.getD j []) := by
  rcases h with ⟨A', c, e, rfl⟩ | ⟨b, o, c, vs, e, hb, hk, hs, hl, ha⟩
  · simp at hn; omega
  · injection e with e1 e2 e3
    refine ⟨b, o, e1, hb, hk, fun j hj => ?_⟩
    have hu := List.getElem?_eq_getElem (show j < vs.length by omega)
    have hq := List.getElem?_eq_getElem (show j < l.length by omega)
    have hx := ha j _ _ hu hq
    have he : l.getD j [] = l[j]'(by omega) := by rw [List.getD_eq_getElem?_getD, hq]; rfl
    obtain ⟨A', c', e'⟩ := hx.arg.form
    rw [e'] at hx hu
    exact ⟨A', c', by rw [he]; exact hs j _ hu, by rw [he]; exact hx⟩
set_option maxRecDepth 100000 in
set_option maxHeartbeats 1000000 in
theorem Jindex_any {w : World} {K : Nat → Prop} {v : Value} {l : List (List UInt8)} (h : PartsOn w K v l) (hl : l.length ≤ 1000) :
    Calls Tryz.prog 120 #[v, .func (.func 86) #[] #[]] w fun e w' => (∃ r : Int, e = .returned (.int .i64 r) ∧ -1 ≤ r ∧ r ≤ 1000 ∧ Hid (0 ≤ r ↔ ¬ ∀ x ∈ l, x.length = 64)) ∧ Below w.heap.size w w' := by
  obtain ⟨A, cap, rfl⟩ := h.form
  obtain ⟨n, hn⟩ : ∃ n, n = l.length := ⟨_, rfl⟩
  rw [← hn] at h hl ⊢
  have HP : Hid (0 < n → _) := fun hp => h.at_ hn.symm hp
  have HN := Lib.hid hn
  clear h hn
  go_enter Tryz.func120, Tryz.ntmps120
  go_wp2
  go_loopw [5, 8] (fun _ i wr => ∃ k : Nat, k ≤ n ∧ i = .int .i64 k ∧ Hid (∀ x ∈ l.take k, x.length = 64) ∧ Hid (Below w.heap.size w wr)) (fun _ i _ => n - (RowKit.intOf i).toNat)
  case atStart => exact ⟨0, by omega, rfl, by show ∀ x ∈ l.take 0, _; simp, Below.refl _ _⟩
  case round =>
    obtain ⟨k, hk, rfl, HT, HB⟩ := hrel
    rename World => w2
    by_cases hlt : k < n
    · obtain ⟨b, o, rfl, hb, _, hat⟩ := HP.out (by omega)
      obtain ⟨A', c', hc, _⟩ := hat k hlt
      have hc2 : w2.cell? ⟨b, o + k, none⟩ = _ := (World.cell?_of_block (w := w) (HB.out.block b hb)).trans hc
      have HS : Hid (l.take (k + 1) = l.take k ++ [l.getD k []]) := by
        show _ = _
        rw [List.take_succ_eq_append_getElem (by rw [← HN.out]; exact hlt), List.getD_eq_getElem?_getD, List.getElem?_eq_getElem (by rw [← HN.out]; exact hlt)]; rfl
      have HM : Hid (l.getD k [] ∈ l) := by
        show _ ∈ _
        rw [List.getD_eq_getElem?_getD, List.getElem?_eq_getElem (by rw [← HN.out]; exact hlt)]; exact List.getElem_mem _
      generalize l.getD k [] = q at *
      by_cases hq : q.length = 64
      · have HW := Lib.hid (Jwhole1_any A' q.length c' w2)
        have hd : decide (q.length ≠ 64) = false := decide_eq_false (fun h => h hq)
        rw [hd] at HW
        have HT2 : Hid (∀ x ∈ l.take (k + 1), x.length = 64) := by
          show ∀ x ∈ _, _
          rw [HS.out]
          intro x hx
          rcases List.mem_append.1 hx with hx | hx
          · exact HT.out x hx
          · rw [List.mem_singleton.1 hx]; exact hq
        generalize q.length = ql at *
        clear hat hc hd hq HT
        go_wp2_with fail
        refine HW.out.mono ?_
        rintro e w3 ⟨rfl, rfl⟩
        clear HW
        go_wp2
        go_roundw
        case rel => exact ⟨k + 1, by omega, by go_num, HT2, HB⟩
        case measure => simp [RowKit.intOf]; omega
      · have HW := Lib.hid (Jwhole1_any A' q.length c' w2)
        have hd : decide (q.length ≠ 64) = true := decide_eq_true hq
        rw [hd] at HW
        have HR : Hid (0 ≤ (k : Int) ↔ ¬ ∀ x ∈ l, x.length = 64) := ⟨fun _ hx => hq (hx q HM.out), fun _ => by omega⟩
        generalize q.length = ql at *
        clear hat hc hd hq HT HS HM
        go_wp2_with fail
        refine HW.out.mono ?_
        rintro e w3 ⟨rfl, rfl⟩
        clear HW
        go_wp2
        go_ret
        exact ⟨⟨k, rfl, by omega, by omega, HR⟩, HB.out⟩
    · obtain rfl : k = n := by omega
      have HR : Hid (0 ≤ (-1 : Int) ↔ ¬ ∀ x ∈ l, x.length = 64) := ⟨fun h => by omega, fun h => absurd (by have := HT.out; rwa [HN.out, List.take_length] at this) h⟩
      clear HT HP
      go_wp2
      go_ret
      exact ⟨⟨-1, rfl, by omega, by omega, HR⟩, HB.out⟩
theorem Jcontains_any {w : World} {K : Nat → Prop} {v : Value} {l : List (List UInt8)} (h : PartsOn w K v l) (hl : l.length ≤ 1000) :
    Calls Tryz.prog 87 #[v, .func (.func 86) #[] #[]] w fun e w' => e = .returned (.bool (decide (¬ ∀ x ∈ l, x.length = 64))) ∧ Below w.heap.size w w' := by
  have HI := Lib.hid (Jindex_any h hl)
  have HD : Hid (∀ r : Int, (0 ≤ r ↔ ¬ ∀ x ∈ l, x.length = 64) → decide (¬ ∀ x ∈ l, x.length = 64) = decide (0 ≤ r)) := fun r hr => by
    by_cases h0 : 0 ≤ r
    · rw [decide_eq_true h0, decide_eq_true (hr.1 h0)]
    · rw [decide_eq_false h0, decide_eq_false (fun h => h0 (hr.2 h))]
  generalize decide (¬ ∀ x ∈ l, x.length = 64) = rr at *
  clear h hl
  go_enter Tryz.func87, Tryz.ntmps87
  go_wp2_with fail
  refine HI.out.mono ?_
  rintro e w' ⟨⟨r, rfl, hr1, hr2, HR⟩, hb⟩
  have HX : Hid (rr = decide (0 ≤ r)) := HD.out r HR.out
  clear HI HR HD
  by_cases h0 : 0 ≤ r
  · rw [decide_eq_true h0] at HX
    go_wp2
    go_ret
    exact ⟨by rw [HX.out]; rfl, hb⟩
  · rw [decide_eq_false h0] at HX
    go_wp2
    go_ret
    exact ⟨by rw [HX.out]; show Ending.returned (.bool (decide (0 ≤ r))) = _; rw [decide_eq_false (by omega)], hb⟩
theorem Jwhole_any {w : World} {K : Nat → Prop} {v : Value} {l : List (List UInt8)} (h : PartsOn w K v l) (hl : l.length ≤ 1000) (m : Nat) :
    Calls Tryz.prog 48 #[v, IV m] w fun e w' => e = .returned (.bool (decide (l.length = m ∧ ∀ x ∈ l, x.length = 64))) ∧ Below w.heap.size w w' := by
  have HC := Lib.hid (Jcontains_any h hl)
  obtain ⟨A, cap, rfl⟩ := h.form
  obtain ⟨n, hn⟩ : ∃ n, n = l.length := ⟨_, rfl⟩
  rw [← hn] at HC ⊢
  clear h hn hl
  by_cases hm : n = m
  · subst hm
    have hd : decide (n = n ∧ ∀ x ∈ l, x.length = 64) = !decide (¬ ∀ x ∈ l, x.length = 64) := by
      by_cases hh : ∀ x ∈ l, x.length = 64
      · rw [decide_eq_true ⟨rfl, hh⟩, decide_eq_false (fun k => k hh)]; rfl
      · rw [decide_eq_false (fun k => hh k.2), decide_eq_true hh]; rfl
    rw [hd]
    generalize decide (¬ ∀ x ∈ l, x.length = 64) = r at *
    go_enter Tryz.func48, Tryz.ntmps48
    go_wp2_with fail
    refine HC.out.mono ?_
    rintro e w' ⟨rfl, hb⟩
    clear HC
    go_wp2
    go_ret
    exact ⟨rfl, hb⟩
  · rw [decide_eq_false (fun h => hm h.1)]
    have he : ((n : Int) == (m : Int)) = false := beq_false_of_ne (by omega)
    clear HC hm
    go_enter Tryz.func48, Tryz.ntmps48
    go_wp2
    go_ret
    exact ⟨rfl, Below.refl _ _⟩
set_option maxRecDepth 100000 in
set_option maxHeartbeats 1000000 in
theorem Jcopied_any {w : World} {K : Nat → Prop} {v : Value} {l : List (List UInt8)} (h : PartsOn w K v l) (hl : l.length ≤ 1000) (h64 : ∀ x ∈ l, x.length = 64) :
    Calls Tryz.prog 49 #[v] w fun e w' => (∃ r, e = .returned r ∧ Hid (Rowed w.heap.size w.heap.size w' r l)) ∧ Below w.heap.size w w' := by
  obtain ⟨A, cap, rfl⟩ := h.form
  obtain ⟨n, hn⟩ : ∃ n, n = l.length := ⟨_, rfl⟩
  rw [← hn] at h hl ⊢
  have HP : Hid (0 < n → _) := fun hp => h.at_ hn.symm hp
  have HN := Lib.hid hn
  have H64 := Lib.hid h64
  clear h hn h64
  go_enter Tryz.func49, Tryz.ntmps49
  go_wp2
  go_loopw [3, 5, 8] (fun x _ i wr => ∃ k : Nat, k ≤ n ∧ i = .int .i64 k ∧ Hid (Rowed w.heap.size w.heap.size wr x (l.take k)) ∧ Hid (Below w.heap.size w wr)) (fun _ _ i _ => n - (RowKit.intOf i).toNat)
  case atStart => exact ⟨0, by omega, rfl, Rowed.nil _ _ _, Below.refl _ _⟩
  case round =>
    obtain ⟨k, hk, rfl, HR, HB⟩ := hrel
    rename World => w2
    by_cases hlt : k < n
    · obtain ⟨b, o, rfl, hb, _, hat⟩ := HP.out (by omega)
      obtain ⟨A', c', hc, harg⟩ := hat k hlt
      have hc2 : w2.cell? ⟨b, o + k, none⟩ = _ := (World.cell?_of_block (w := w) (HB.out.block b hb)).trans hc
      have HS : Hid (l.take k ++ [l.getD k []] = l.take (k + 1)) := by
        show _ = _
        rw [List.take_succ_eq_append_getElem (by rw [← HN.out]; exact hlt), List.getD_eq_getElem?_getD, List.getElem?_eq_getElem (by rw [← HN.out]; exact hlt)]; rfl
      have Hq : Hid ((l.getD k []).length = 64) := H64.out _ (by rw [List.getD_eq_getElem?_getD, List.getElem?_eq_getElem (by rw [← HN.out]; exact hlt)]; exact List.getElem_mem _)
      have HCl := Lib.hid (Cclone_any _ _ w2 (by rw [Hq.out]; omega) (harg.arg.below HB.out))
      have HLk : Hid ((l.take k).length ≤ 1000) := by show _ ≤ _; rw [List.length_take]; omega
      generalize l.getD k [] = q at *
      clear hat hc harg
      go_wp2_with fail
      refine HCl.out.mono ?_
      rintro e w3 ⟨v', rfl, HO, hb3⟩
      obtain ⟨g, gc, hv', hg, hgl, hgc, hgs⟩ := HO.out.form_cap (by rw [List.length_map, Hq.out]; omega)
      rw [List.length_map] at hgc hv'
      subst hv'
      have hsz := HB.out.size
      obtain ⟨w4, hw4⟩ : ∃ W, W = w3.alloc (.cells #[.slice (some ⟨g, 0, none⟩) q.length gc] 22) := ⟨_, rfl⟩
      have hal : Below w3.heap.size w3 w4 := by rw [hw4]; exact (Below.refl _ _).alloc (Nat.le_refl _) _
      have HSe : Hid (Sees w4 w3.heap.size 0 [.slice (some ⟨g, 0, none⟩) q.length gc]) := by rw [hw4]; exact (Row.new w3 22 [.slice (some ⟨g, 0, none⟩) q.length gc]).sees
      have HR4 := Lib.hid ((HR.out.below hb3).below hal)
      have HG4 : Hid (g < w4.heap.size ∧ w.heap.size ≤ g ∧ q.length ≤ gc ∧ Sees w4 g 0 (q.map V8)) := ⟨Nat.lt_of_lt_of_le hgl hal.size, by omega, hgc, hgs.below hal hgl⟩
      have Hne : Hid (u3.ownBlock ≠ some g) := by
        show _ ≠ _
        intro e
        obtain ⟨vs, ho, _⟩ := HR.out
        have := (ho.lt e).2
        omega
      have HB4 : Hid (Below w.heap.size w w4) := HB.out.trans ((hb3.trans (hal.mono hb3.size)).mono hsz)
      have HB4s : Hid (w.heap.size ≤ w4.heap.size) := HB4.out.size
      clear HO hg hgl hgc hgs hb3 hal HR HCl hsz
      go_wp2_with (at_builtin; rw [← hw4]; clear hw4; refine wpList_rowed rfl (.tmp 12) (.tmp 15) rfl w.heap.size w.heap.size _ (l.take k) rfl HR4.out w3.heap.size 1 g 0 gc q rfl HSe.out HG4.out.1 HG4.out.2.1 Hne.out HG4.out.2.2.1 HG4.out.2.2.2 HLk.out HB4s.out ?_; intro v5 w5 HR5 hb5)
      go_roundw
      case rel => exact ⟨k + 1, by omega, by go_num, by have := HR5.out; rw [HS.out] at this; exact this, HB4.out.trans hb5⟩
      case measure => simp [RowKit.intOf]; omega
    · obtain rfl : k = n := by omega
      have hr := HR.out
      rw [HN.out, List.take_length] at hr
      have HR2 := Lib.hid hr
      clear HR HP hr
      go_wp2
      go_ret
      exact ⟨⟨_, rfl, HR2⟩, HB.out⟩
end Go.Proofs.YthbmknpbcgnabaaGreatDoor
