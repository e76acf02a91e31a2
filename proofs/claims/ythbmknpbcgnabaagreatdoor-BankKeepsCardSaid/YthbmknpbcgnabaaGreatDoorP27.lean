/-
  OF THE WALK: MrND, MrNX, MrNY, MrNSA.
-/
import Derived.Test.YthbmknpbcgnabaaGreatDoorP14
import Derived.Test.YthbmknpbcgnabaaGreatDoorP23
import Derived.Test.YthbmknpbcgnabaaGreatDoorP24
import Derived.Test.YthbmknpbcgnabaaGreatDoorP26
namespace Go.Proofs.YthbmknpbcgnabaaGreatDoor.Mr
open Go.RowKit Mk Mt
abbrev Tree := World → (Nat → Prop) → Nat → Tg → List Tg → List Bool → Nat → Prop
def AfterT (T : Tree) (w : World) (F : Nat → Prop) (w' : World) (D : Nat) (key : Tg) (L : List Tg) (S : List Bool) (V : Nat) : Prop :=
  ∃ F', T w' F' D key L S V ∧ (∀ k, F' k → F k ∨ w.heap.size ≤ k) ∧ Chg (fun k _ => F k) w w'
structure TreeC (T : Tree) : Prop where
  lt : ∀ {w F D key L S V}, T w F D key L S V → ∀ k, F k → k < w.heap.size
  len : ∀ {w F D key L S V}, T w F D key L S V → S.length = L.length ∧ 0 < L.length ∧ L.length ≤ 100 ∧ (∀ t ∈ L, t.length = 32)
  stay : ∀ {w F D key L S V w' X}, T w F D key L S V → Chg X w w' → (∀ k o, F k → ¬ X k o) → T w' F D key L S V
  newBad : ∀ (key : Tg) (v : Value) (n : Int) (w : World), key.length ≤ 1000 → (n < 1 ∨ 512 < n) → Hm.Tab w → Arg w v key → Calls Tryz.prog 89 #[v, .int .i64 n] w fun e w' => e = .returned (.tuple #[.pointer none, .int .i64 1]) ∧ Below w.heap.size w w'
  newOk : ∀ (key : Tg) (v : Value) (n : Nat) (w : World), key.length ≤ 1000 → 1 ≤ n → n ≤ 100 → Hm.Tab w → Arg w v key → Calls Tryz.prog 89 #[v, .int .i64 n] w fun e w' =>
    ∃ D F, e = .returned (.tuple #[.pointer (some ⟨D, 0, none⟩), .int .i64 0]) ∧ T w' F D key (List.replicate n zero) (List.replicate n false) 0 ∧ (∀ k, F k → w.heap.size ≤ k) ∧ Below w.heap.size w w'
  setOk : ∀ {w F D key L S V}, T w F D key L S V → ∀ (i : Nat) (t : Tg) (ts : List Value), i < L.length → Vec 32 t ts → Calls Tryz.prog 35 #[.pointer (some ⟨D, 0, none⟩), .int .i64 i, .agg ts.toArray] w fun e w' =>
    e = .returned (.int .i64 0) ∧ AfterT T w F w' D key (L.set i t) (S.set i true) V
  setBad : ∀ {w F D key L S V}, T w F D key L S V → ∀ (d : Int) (t : Tg) (ts : List Value), (d < 0 ∨ (L.length : Int) ≤ d) → Vec 32 t ts → Calls Tryz.prog 35 #[.pointer (some ⟨D, 0, none⟩), .int .i64 d, .agg ts.toArray] w fun e w' =>
    e = .returned (.int .i64 1) ∧ Below w.heap.size w w'
  getOk : ∀ {w F D key L S V}, T w F D key L S V → ∀ (i : Nat), i < L.length → Calls Tryz.prog 52 #[.pointer (some ⟨D, 0, none⟩), .int .i64 i] w fun e w' =>
    (∃ ts : List Value, Hid (Vec 32 (L.getD i []) ts) ∧ e = .returned (.tuple #[.agg ts.toArray, .int .i64 0])) ∧ Below w.heap.size w w'
  getBad : ∀ {w F D key L S V}, T w F D key L S V → ∀ (d : Int), (d < 0 ∨ (L.length : Int) ≤ d) → Calls Tryz.prog 52 #[.pointer (some ⟨D, 0, none⟩), .int .i64 d] w fun e w' =>
    e = .returned (.tuple #[.agg Hm.Z32.toArray, .int .i64 1]) ∧ Below w.heap.size w w'
  places : ∀ {w F D key L S V}, T w F D key L S V → Calls Tryz.prog 74 #[.pointer (some ⟨D, 0, none⟩)] w fun e w' => e = .returned (.int .i64 (L.length : Int)) ∧ Below w.heap.size w w'
  root : ∀ {w F D key L S V}, T w F D key L S V → Hm.Tab w → (∀ k, F k → k ≠ 0) → V ≤ 100000 → ∀ (h : Nat), IsH L.length h → Calls Tryz.prog 38 #[.pointer (some ⟨D, 0, none⟩)] w fun e w' =>
    ∃ rs : List Value, (Hid (Vec 32 (root key L h) rs) ∧ e = .returned (.agg rs.toArray)) ∧ AfterT T w F w' D key L (List.replicate L.length false) (V + st h S)
theorem below_chg {w0 W W' : World} {S : Nat → Nat → Prop} {n : Nat} (hb : Below n w0 W) (hn : n ≤ W.heap.size) (hc : Chg S W W') (hS : ∀ k o, S k o → n ≤ k) : Below n w0 W' :=
  hb.trans ⟨hc.os, hc.tape, hc.output, hc.size, fun k hk => hc.block k (Nat.lt_of_lt_of_le hk hn) fun o ho => by have := hS k o ho; omega⟩
theorem _root_.Go.Proofs.YthbmknpbcgnabaaGreatDoor.Hm.Tab.stay {w w' : World} {n : Nat} (h : Hm.Tab w) (hn : 0 < n) (hb : Below n w w') : Hm.Tab w' := by
  have hs := hb.block _ hn
  have hlt := h.1
  refine ⟨?_, fun j u hu => ?_⟩
  · rw [Array.getElem?_eq_getElem hlt] at hs
    exact (Array.getElem?_eq_some_iff.1 hs).1
  · rw [← h.2 j u hu]
    exact World.cell?_of_block hs
theorem After.below {T : Tree} {w w' : World} {F : Nat → Prop} {D n : Nat} {key : Tg} {L : List Tg} {S : List Bool} {V : Nat} (h : AfterT T w F w' D key L S V) (hF : ∀ k, F k → n ≤ k) (hn : n ≤ w.heap.size) :
    ∃ F', T w' F' D key L S V ∧ (∀ k, F' k → n ≤ k) ∧ Below n w w' := by
  obtain ⟨F', hT, hF', hC⟩ := h
  exact ⟨F', hT, fun k hk => (hF' k hk).elim (hF k) (fun h => Nat.le_trans hn h), below_chg (Below.refl _ _) hn hC fun k _ hk => hF k hk⟩
theorem isH_ex (m : Nat) (hm : m ≤ 100) : ∃ h, IsH m h := by
  rcases Nat.lt_or_ge 4 m with h1 | h1
  · rcases Nat.lt_or_ge 16 m with h2 | h2
    · rcases Nat.lt_or_ge 64 m with h3 | h3
      · exact ⟨4, by omega, by show (m : Int) ≤ 256; omega, .inr (by show (64 : Int) < m; omega)⟩
      · exact ⟨3, by omega, by show (m : Int) ≤ 64; omega, .inr (by show (16 : Int) < m; omega)⟩
    · exact ⟨2, by omega, by show (m : Int) ≤ 16; omega, .inr (by show (4 : Int) < m; omega)⟩
  · exact ⟨1, by omega, by show (m : Int) ≤ 4; omega, .inl rfl⟩
end Go.Proofs.YthbmknpbcgnabaaGreatDoor.Mr
namespace Go.Proofs.YthbmknpbcgnabaaGreatDoor.Mr
open Go.RowKit Mk Mt
def wid (n h j : Nat) : Nat := if j < h then 4 * up n (j + 1) else 1
structure TA (w : World) (F : Nat → Prop) (D : Nat) (key : Tg) (L : List Tg) (S : List Bool) (V : Nat) (h : Nat) (kv : Value) (KB RB rc MB : Nat) (rb : Nat → Nat) (rw : Nat → List Tg) (ks : List Nd) : Prop where
  hh : IsH L.length h
  hS : S.length = L.length
  pos : 0 < L.length
  few : L.length ≤ 100
  h32 : ∀ t ∈ L, t.length = 32
  hk : key.length ≤ 1000
  tree : Row w D 145 [kv, I64 L.length, .slice (some ⟨RB, 0, none⟩) (h + 1) rc, .map (some MB), I64 V]
  akey : ∀ w' : World, w.heap.size ≤ w'.heap.size → w'.heap[KB]? = w.heap[KB]? → Arg w' kv key
  rows : ∀ j, j ≤ h → w.cell? ⟨RB, j, none⟩ = some (.slice (some ⟨rb j, 0, none⟩) (wid L.length h j) (wid L.length h j))
  row : ∀ j, j ≤ h → Row w (rb j) 27 (cells (rw j))
  len : ∀ j, j ≤ h → (rw j).length = wid L.length h j
  r32 : ∀ j, j ≤ h → ∀ t ∈ rw j, t.length = 32
  val : ∀ j i, j ≤ h → i < wid L.length h j → (j = 0 ∨ (j, i) ∉ ks) → (rw j).getD i [] = tv key L j i
  map : NodesAt w MB ks
  mem : ∀ p, p ∈ ks ↔ isK h S p
  inj : ∀ i j, i ≤ h → j ≤ h → rb i = rb j → i = j
  rD : ∀ j, j ≤ h → rb j ≠ D
  rR : ∀ j, j ≤ h → rb j ≠ RB
  rM : ∀ j, j ≤ h → rb j ≠ MB
  rK : ∀ j, j ≤ h → rb j ≠ KB
  DR : D ≠ RB
  DM : D ≠ MB
  DK : D ≠ KB
  MR : MB ≠ RB
  MK : MB ≠ KB
  FD : F D
  FR : F RB
  FM : F MB
  FK : F KB
  Fr : ∀ j, j ≤ h → F (rb j)
  lt : ∀ k, F k → k < w.heap.size
def T9 : Tree := fun w F D key L S V => ∃ h kv KB RB rc MB rb rw ks, TA w F D key L S V h kv KB RB rc MB rb rw ks
section
variable {w w' : World} {F : Nat → Prop} {D : Nat} {key : Tg} {L : List Tg} {S : List Bool} {V h : Nat} {kv : Value} {KB RB rc MB : Nat} {rb : Nat → Nat} {rw : Nat → List Tg} {ks : List Nd}
theorem TA.same (a : TA w F D key L S V h kv KB RB rc MB rb rw ks) (hs : w.heap.size ≤ w'.heap.size) (hb : ∀ k, F k → w'.heap[k]? = w.heap[k]?) : TA w' F D key L S V h kv KB RB rc MB rb rw ks :=
  { a with
    tree := a.tree.same (hb _ a.FD)
    akey := fun w2 h2 hb2 => a.akey w2 (Nat.le_trans hs h2) (hb2.trans (hb _ a.FK))
    rows := fun j hj => (World.cell?_of_block (hb _ a.FR)).trans (a.rows j hj)
    row := fun j hj => (a.row j hj).same (hb _ (a.Fr j hj))
    map := a.map.same (hb _ a.FM)
    lt := fun k hk => Nat.lt_of_lt_of_le (a.lt k hk) hs }
theorem TA.stay {X : Nat → Nat → Prop} (a : TA w F D key L S V h kv KB RB rc MB rb rw ks) (hc : Chg X w w') (hn : ∀ k o, F k → ¬ X k o) : TA w' F D key L S V h kv KB RB rc MB rb rw ks :=
  a.same hc.size fun k hk => hc.block k (a.lt k hk) fun o => hn k o hk
theorem TA.below (a : TA w F D key L S V h kv KB RB rc MB rb rw ks) (hb : Below w.heap.size w w') : TA w' F D key L S V h kv KB RB rc MB rb rw ks := a.same hb.size fun k hk => hb.block k (a.lt k hk)
theorem TA.fits (a : TA w F D key L S V h kv KB RB rc MB rb rw ks) : w.cell? ⟨D, 0, none⟩ = some kv ∧ w.cell? ⟨D, 1, none⟩ = some (I64 L.length) ∧ w.cell? ⟨D, 2, none⟩ = some (.slice (some ⟨RB, 0, none⟩) (h + 1) rc) ∧ w.cell? ⟨D, 3, none⟩ = some (.map (some MB)) ∧ w.cell? ⟨D, 4, none⟩ = some (I64 V) := by
  have h1 := a.tree.cell
  exact ⟨by rw [h1]; rfl, by rw [h1]; rfl, by rw [h1]; rfl, by rw [h1]; rfl, by rw [h1]; rfl⟩
theorem TA.count (a : TA w F D key L S V h kv KB RB rc MB rb rw ks) : ks.length = st h S := isK_count a.map.nodup a.mem
theorem TA.wide (a : TA w F D key L S V h kv KB RB rc MB rb rw ks) : L.length ≤ wid L.length h 0 ∧ 1 ≤ h ∧ h ≤ 4 := by
  have h4 := isH_four a.few a.hh
  refine ⟨?_, h4⟩
  rw [wid, if_pos (by omega), up, up]; omega
theorem T9.lt (a : T9 w F D key L S V) : ∀ k, F k → k < w.heap.size := by
  obtain ⟨_, _, _, _, _, _, _, _, _, a⟩ := a
  exact a.lt
theorem places_any (a : TA w F D key L S V h kv KB RB rc MB rb rw ks) : Calls Tryz.prog 74 #[.pointer (some ⟨D, 0, none⟩)] w fun e w' => e = .returned (I64 L.length) ∧ w' = w := by
  obtain ⟨_, c1, _, _, _⟩ := a.fits
  clear a
  go_enter Tryz.func74, Tryz.ntmps74
  go_wp2
  go_ret
  exact ⟨rfl, rfl⟩
theorem has_any (a : TA w F D key L S V h kv KB RB rc MB rb rw ks) (d : Int) : Calls Tryz.prog 72 #[.pointer (some ⟨D, 0, none⟩), .int .i64 d] w fun e w' => e = .returned (.bool (decide (0 ≤ d ∧ d < (L.length : Int)))) ∧ w' = w := by
  have hp := places_any a
  clear a
  have hc : (0 ≤ d ∧ d < (L.length : Int) ∧ decide (0 ≤ d ∧ d < (L.length : Int)) = true) ∨ (0 ≤ d ∧ ¬ d < (L.length : Int) ∧ decide (0 ≤ d ∧ d < (L.length : Int)) = false) ∨ (¬ 0 ≤ d ∧ decide (0 ≤ d ∧ d < (L.length : Int)) = false) := by
    by_cases h1 : 0 ≤ d
    · by_cases h2 : d < (L.length : Int)
      · exact .inl ⟨h1, h2, decide_eq_true ⟨h1, h2⟩⟩
      · exact .inr (.inl ⟨h1, h2, decide_eq_false fun h => h2 h.2⟩)
    · exact .inr (.inr ⟨h1, decide_eq_false fun h => h1 h.1⟩)
  generalize decide (0 ≤ d ∧ d < (L.length : Int)) = r at hc ⊢
  rcases hc with ⟨h1, h2, rfl⟩ | ⟨h1, h2, rfl⟩ | ⟨h1, rfl⟩
  all_goals
    go_enter Tryz.func72, Tryz.ntmps72
    go_wp2_with (go_at_call 74; refine hp.mono ?_; rintro e w' ⟨rfl, rfl⟩)
    go_ret
    first
    | exact ⟨rfl, rfl⟩
    | exact ⟨congrArg (fun b => Ending.returned (.bool b)) (decide_eq_false (by omega)), rfl⟩
end
end Go.Proofs.YthbmknpbcgnabaaGreatDoor.Mr
namespace Go.Proofs.YthbmknpbcgnabaaGreatDoor.Mr
open Go.RowKit Mk Mt
theorem rowt {w : World} {g : Nat} {t : TypeId} {l : List Tg} (hR : Row w g t (cells l)) (h32 : ∀ t ∈ l, t.length = 32) (i : Nat) (hi : i < l.length) : w.rangeAt g (i * 32) ((l.getD i []).map V8) := by
  have e : (l.drop i).take 1 = [l.getD i []] := by
    rw [List.drop_eq_getElem_cons hi, List.take_succ_cons, List.take_zero, List.getD_eq_getElem?_getD, List.getElem?_eq_getElem hi]; rfl
  have e2 : cells [l.getD i []] = (l.getD i []).map V8 := by simp [cells]
  have h := cells_piece l h32 i 1 (by omega)
  rw [e, e2, Nat.mul_comm] at h
  exact hR.piece (i * 32) _ h
theorem getD_mem {α : Type} {l : List α} {i : Nat} {d : α} (hi : i < l.length) : l.getD i d ∈ l := by
  rw [List.getD_eq_getElem?_getD, List.getElem?_eq_getElem hi]; exact List.getElem_mem hi
section
variable {w w' : World} {F : Nat → Prop} {D : Nat} {key : Tg} {L : List Tg} {S : List Bool} {V h : Nat} {kv : Value} {KB RB rc MB : Nat} {rb : Nat → Nat} {rw : Nat → List Tg} {ks : List Nd}
theorem TA.low (a : TA w F D key L S V h kv KB RB rc MB rb rw ks) (i : Nat) (hi : i < L.length) : (rw 0).getD i [] = L.getD i [] ∧ i < (rw 0).length := by
  have hw := a.wide.1
  refine ⟨?_, by rw [a.len 0 (Nat.zero_le _)]; omega⟩
  rw [a.val 0 i (Nat.zero_le _) (by omega) (.inl rfl), tv, List.getD_eq_getElem?_getD, List.getD_eq_getElem?_getD, List.getElem?_eq_getElem hi]; rfl
theorem get_bad (a : TA w F D key L S V h kv KB RB rc MB rb rw ks) (d : Int) (hd : d < 0 ∨ (L.length : Int) ≤ d) : Calls Tryz.prog 52 #[.pointer (some ⟨D, 0, none⟩), .int .i64 d] w fun e w' =>
    e = .returned (.tuple #[.agg Hm.Z32.toArray, .int .i64 1]) ∧ Below w.heap.size w w' := by
  have hz := Hm.zeroTag
  have hh := fun W (hb : Below w.heap.size w W) => has_any (a.below hb) d
  rw [decide_eq_false (fun h => by omega)] at hh
  have HH := Lib.hid hh
  clear a hh
  go_enter Tryz.func52, Tryz.ntmps52
  go_wp2_with (first
    | (go_at_call 72; refine (HH.out _ ((Below.refl _ _).alloc (Nat.le_refl _) _)).mono ?_; rintro e w' ⟨rfl, rfl⟩)
    | (refine wpList_store_row rfl 27 _ _ rfl w.heap.size Hm.Z32.toArray rfl rfl 27 _ (Row.new w _ Hm.Z32) (by kernel_rfl) (by kernel_rfl) (by kernel_rfl) ?_))
  have hR := (Row.new w 27 Hm.Z32).whole Hm.Z32
  obtain ⟨W3, hW3⟩ : ∃ W3, W3 = (w.alloc (.cells Hm.Z32.toArray 27)).setRow w.heap.size Hm.Z32.toArray := ⟨_, rfl⟩
  have hB : Below w.heap.size w W3 := by rw [hW3]; exact below_setRow' ((Below.refl _ _).alloc (Nat.le_refl _) _) (Nat.le_refl _) _
  rw [← hW3] at hR ⊢
  have hinfo : (Tryz.prog.info? 27).map (·.size) = some Hm.Z32.toArray.size := by kernel_rfl
  refine bodyPost_ret (v := .tuple #[.agg Hm.Z32.toArray, .int .i64 1]) (Hm.results_row_tmp (p := 4) (u := 5) rfl _ _ w.heap.size 27 Hm.Z32.toArray (0, 0) _ rfl hR Tryz.underlying27 rfl hinfo) rfl ?_
  exact ⟨rfl, hB⟩
theorem get_ok (a : TA w F D key L S V h kv KB RB rc MB rb rw ks) (i : Nat) (hi : i < L.length) : Calls Tryz.prog 52 #[.pointer (some ⟨D, 0, none⟩), I64 i] w fun e w' =>
    (∃ ts : List Value, Hid (Vec 32 (L.getD i []) ts) ∧ e = .returned (.tuple #[.agg ts.toArray, .int .i64 0])) ∧ Below w.heap.size w w' := by
  have hz := Hm.zeroTag
  have hh := fun W (hb : Below w.heap.size w W) => has_any (a.below hb) (i : Int)
  rw [decide_eq_true (show 0 ≤ (i : Int) ∧ (i : Int) < (L.length : Int) by omega)] at hh
  have HH := Lib.hid hh
  obtain ⟨_, _, c2, _, _⟩ := a.fits
  have r0 := a.rows 0 (Nat.zero_le _)
  obtain ⟨l1, l2⟩ := a.low i hi
  have hw := a.wide
  have hld := rowt (a.row 0 (Nat.zero_le _)) (a.r32 0 (Nat.zero_le _)) i l2
  rw [l1] at hld
  have h32 := a.h32 _ (getD_mem (d := []) hi)
  obtain ⟨rs, hrs⟩ : ∃ rs, rs = (L.getD i []).map V8 := ⟨_, rfl⟩
  have hv : Vec 32 (L.getD i []) rs := ⟨hrs, h32⟩
  rw [← hrs] at hld
  have hlr := a.lt _ (a.Fr 0 (Nat.zero_le _))
  have hlR := a.lt _ a.FR
  have hlD := a.lt _ a.FD
  obtain ⟨wd, hwd⟩ : ∃ wd, wd = wid L.length h 0 := ⟨_, rfl⟩
  rw [← hwd] at r0 hw
  have hiw : (i : Int) < (wd : Int) := by omega
  have Hv := Lib.hid hv
  have Hld : Hid (∀ W, Below w.heap.size w W → W.rangeAt (rb 0) (i * 32) rs) := fun W hW j v hj => (hW.cell (p := ⟨rb 0, i * 32 + j, none⟩) hlr).trans (hld j v hj)
  have Hlen : Hid (rs.length = 32) := hv.len
  have hl32 := hv.size
  have hB0 : Below w.heap.size w (w.alloc (.cells Hm.Z32.toArray 27)) := (Below.refl _ _).alloc (Nat.le_refl _) _
  replace c2 := (hB0.cell (p := ⟨D, 2, none⟩) hlD).trans c2
  replace r0 := (hB0.cell (p := ⟨RB, 0, none⟩) hlR).trans r0
  have Hr : Hid (∃ h2, h = h2) := ⟨h, rfl⟩
  have HB0 := Lib.hid hB0
  clear a hh l1 l2 hld h32 hv hrs hwd hw hB0 hi
  obtain ⟨w0, hw0⟩ : ∃ w0, w0 = w.alloc (.cells Hm.Z32.toArray 27) := ⟨_, rfl⟩
  have hR0 : Row w0 w.heap.size 27 Hm.Z32 := by rw [hw0]; exact Row.new w _ Hm.Z32
  have HR0 := Lib.hid hR0
  rw [← hw0] at c2 r0 HB0
  clear hR0
  go_enter Tryz.func52, Tryz.ntmps52
  go_wp2_with (first
    | (go_at_call 72; rw [← hw0]; refine (HH.out _ HB0.out).mono ?_; rintro e w' ⟨rfl, rfl⟩; clear hw0)
    | (refine wpList_load_mid rfl 27 (.tmp 18) rfl (rb 0) (i * 32) rfl rs _ (Hld.out _ HB0.out) Tryz.underlying27 rfl (by rw [Hlen.out]; kernel_rfl) ?_)
    | (refine wpList_store_row rfl 27 (.tmp 4) (.tmp 19) rfl w.heap.size rs.toArray rfl rfl 27 _ HR0.out (by rw [Hv.out.size]; kernel_rfl) (by rw [Hv.out.size]; rfl) Hv.out.one ?_))
  have hR := HR0.out.whole rs
  obtain ⟨W3, hW3⟩ : ∃ W3, W3 = w'.setRow w.heap.size rs.toArray := ⟨_, rfl⟩
  have hB : Below w.heap.size w W3 := by rw [hW3]; exact below_setRow' HB0.out (Nat.le_refl _) _
  rw [← hW3] at hR ⊢
  have hinfo : (Tryz.prog.info? 27).map (·.size) = some rs.toArray.size := by rw [Hv.out.size]; kernel_rfl
  refine bodyPost_ret (v := .tuple #[.agg rs.toArray, .int .i64 0]) (Hm.results_row_tmp (p := 4) (u := 5) rfl _ _ w.heap.size 27 rs.toArray (0, 0) _ rfl hR Tryz.underlying27 rfl hinfo) rfl ?_
  exact ⟨⟨rs, Hv, rfl⟩, hB⟩
end
end Go.Proofs.YthbmknpbcgnabaaGreatDoor.Mr
namespace Go.Proofs.YthbmknpbcgnabaaGreatDoor.Mr
open Go.RowKit Mk Mt
section
variable {w w1 w' : World} {F : Nat → Prop} {D : Nat} {key : Tg} {L : List Tg} {S : List Bool} {V h : Nat} {kv : Value} {KB RB rc MB : Nat} {rb : Nat → Nat} {rw : Nat → List Tg} {ks : List Nd}
theorem cells_set (l : List Tg) (h32 : ∀ t ∈ l, t.length = 32) (i : Nat) (hi : i < l.length) (t : Tg) :
    ∃ a b m, cells l = a ++ (m ++ b) ∧ cells (l.set i t) = a ++ (t.map V8 ++ b) ∧ a.length = i * 32 ∧ m.length = 32 := by
  refine ⟨cells (l.take i), cells (l.drop (i + 1)), (l.getD i []).map V8, ?_, ?_, ?_, ?_⟩
  · have e : l = l.take i ++ ([l.getD i []] ++ l.drop (i + 1)) := by
      rw [List.getD_eq_getElem?_getD, List.getElem?_eq_getElem hi, Option.getD_some, List.singleton_append, ← List.drop_eq_getElem_cons hi, List.take_append_drop]
    have e2 : cells l = cells (l.take i) ++ (cells [l.getD i []] ++ cells (l.drop (i + 1))) := by rw [← cells_append, ← cells_append, ← e]
    rw [e2]; simp [cells]
  · have e : l.set i t = l.take i ++ ([t] ++ l.drop (i + 1)) := by rw [List.set_eq_take_append_cons_drop, if_pos hi]; rfl
    rw [e, cells_append, cells_append]; simp [cells]
  · rw [cells_length _ (fun t ht => h32 t (List.mem_of_mem_take ht)), List.length_take]; omega
  · rw [List.length_map, h32 _ (getD_mem hi)]
theorem row_set {g : Nat} {ty : TypeId} {l : List Tg} (hR : Row w g ty (cells l)) (h32 : ∀ t ∈ l, t.length = 32) (i : Nat) (hi : i < l.length) (t : Tg) (ht : t.length = 32) :
    Row (w.setCells g (i * 32) (t.map V8)) g ty (cells (l.set i t)) ∧ w.there g (i * 32) 32 := by
  obtain ⟨a, b, m, e1, e2, e3, e4⟩ := cells_set l h32 i hi t
  rw [e1] at hR
  rw [e2]
  refine ⟨row_mid _ _ _ _ _ _ e3 (by rw [e4, List.length_map, ht]) hR, hR.thereMid _ _ (by rw [List.length_append, List.length_append]; omega)⟩
theorem set_32 {l : List Tg} (h32 : ∀ t ∈ l, t.length = 32) (i : Nat) {t : Tg} (ht : t.length = 32) : ∀ u ∈ l.set i t, u.length = 32 := fun u hu => by
  rcases List.mem_or_eq_of_mem_set hu with h | h
  · exact h32 u h
  · rw [h]; exact ht
theorem getD_set {α : Type} (l : List α) (i k : Nat) (t d : α) (hi : i < l.length) : (l.set i t).getD k d = if k = i then t else l.getD k d := by
  rw [List.getD_eq_getElem?_getD, List.getD_eq_getElem?_getD, List.getElem?_set]
  by_cases e : i = k
  · subst e; simp [hi]
  · rw [if_neg e, if_neg (fun x => e x.symm)]
def rwS (rw : Nat → List Tg) (i : Nat) (t : Tg) (j : Nat) : List Tg := if j = 0 then (rw 0).set i t else rw j
theorem TA.setRow (a : TA w F D key L S V h kv KB RB rc MB rb rw ks) (i : Nat) (hi : i < L.length) (t : Tg) (ht : t.length = 32) (hs : w.heap.size ≤ w'.heap.size) (hb : ∀ k, F k → k ≠ rb 0 → k ≠ MB → w'.heap[k]? = w.heap[k]?)
    (hR : Row w' (rb 0) 27 (cells ((rw 0).set i t))) (ks' : List Nd) (hm : NodesAt w' MB ks') (hk : ∀ p, p ∈ ks' ↔ p ∈ ks ∨ (1 ≤ p.1 ∧ p.1 ≤ h ∧ p.2 = i / 4 ^ p.1)) :
    TA w' F D key (L.set i t) (S.set i true) V h kv KB RB rc MB rb (rwS rw i t) ks' := by
  have hz := Nat.zero_le h
  have hl := a.low i hi
  have hlen : (L.set i t).length = L.length := List.length_set
  refine { hh := by rw [hlen]; exact a.hh, hS := by rw [List.length_set, hlen]; exact a.hS, pos := by rw [hlen]; exact a.pos, few := by rw [hlen]; exact a.few, h32 := set_32 a.h32 i ht, hk := a.hk, tree := ?_, akey := ?_, rows := ?_, row := ?_, len := ?_, r32 := ?_, val := ?_, map := hm, mem := ?_,
           inj := a.inj, rD := a.rD, rR := a.rR, rM := a.rM, rK := a.rK, DR := a.DR, DM := a.DM, DK := a.DK, MR := a.MR, MK := a.MK, FD := a.FD, FR := a.FR, FM := a.FM, FK := a.FK, Fr := a.Fr, lt := fun k hk => Nat.lt_of_lt_of_le (a.lt k hk) hs }
  · rw [hlen]
    exact a.tree.same (hb D a.FD (fun e => a.rD 0 hz e.symm) a.DM)
  · exact fun w2 h2 hb2 => a.akey w2 (Nat.le_trans hs h2) (hb2.trans (hb KB a.FK (fun e => a.rK 0 hz e.symm) (fun e => a.MK e.symm)))
  · intro j hj
    rw [hlen]
    exact (World.cell?_of_block (hb RB a.FR (fun e => a.rR 0 hz e.symm) (fun e => a.MR e.symm))).trans (a.rows j hj)
  · intro j hj
    unfold rwS
    by_cases e : j = 0
    · subst e; rw [if_pos rfl]; exact hR
    · rw [if_neg e]
      exact (a.row j hj).same (hb (rb j) (a.Fr j hj) (fun e2 => e (a.inj j 0 hj hz e2)) (a.rM j hj))
  · intro j hj
    rw [hlen]
    unfold rwS
    by_cases e : j = 0
    · subst e; rw [if_pos rfl, List.length_set]; exact a.len 0 hj
    · rw [if_neg e]; exact a.len j hj
  · intro j hj
    unfold rwS
    by_cases e : j = 0
    · subst e; rw [if_pos rfl]; exact set_32 (a.r32 0 hj) i ht
    · rw [if_neg e]; exact a.r32 j hj
  · intro j i0 hj hi0 hn
    rw [hlen] at hi0
    unfold rwS
    by_cases e : j = 0
    · subst e
      rw [if_pos rfl, getD_set _ _ _ _ _ hl.2, tv, getD_set _ _ _ _ _ hi]
      by_cases e2 : i0 = i
      · rw [if_pos e2, if_pos e2]
      · rw [if_neg e2, if_neg e2, a.val 0 i0 hj hi0 (.inl rfl), tv]
    · rw [if_neg e]
      rcases hn with hn | hn
      · exact absurd hn e
      have h1 : (j, i0) ∉ ks := fun h2 => hn ((hk _).2 (.inl h2))
      have h2 : i0 ≠ i / 4 ^ j := fun h3 => hn ((hk _).2 (.inr ⟨Nat.pos_of_ne_zero e, hj, h3⟩))
      rw [a.val j i0 hj hi0 (.inr h1), tv_set key L i t j i0 h2]
  · intro p
    rw [hk, isK_set (by rw [a.hS]; exact hi), a.mem]
end
end Go.Proofs.YthbmknpbcgnabaaGreatDoor.Mr
