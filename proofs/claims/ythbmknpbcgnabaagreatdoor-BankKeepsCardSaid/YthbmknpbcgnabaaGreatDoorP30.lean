/-
  OF THE WALK: MrNRB.
-/
import Derived.Test.YthbmknpbcgnabaaGreatDoorP29
namespace Go.Proofs.YthbmknpbcgnabaaGreatDoor.Mr
open Go.RowKit Mk Mt
theorem tab_same {w w' : World} (h : Hm.Tab w) (hs : w'.heap[(0 : Nat)]? = w.heap[(0 : Nat)]?) : Hm.Tab w' := by
  have hlt := h.1
  refine ⟨?_, fun j u hu => ?_⟩
  · rw [Array.getElem?_eq_getElem hlt] at hs
    exact (Array.getElem?_eq_some_iff.1 hs).1
  · rw [← h.2 j u hu]
    exact World.cell?_of_block hs
theorem run_clear_op {P : Program} {w w' : World} {a : Act} {o : Oper} {ts : Array TypeId} {x : Operand} {m : Value} (ho : o.op = .call { callee := .builtin .clear, args := #[x], argTypes := ts }) (hx : a.eval x = m) (hr : (Builtin.clear_ ts o.type #[m]).run P w = .ok (.tuple #[]) w') : (execOp a.eval o).run P w = .ok (.value (.tuple #[])) w' := by
  simp only [execOp, ho, resolve, invoke, builtin, Sem.run_bind, Sem.run_pure, Result.andThen_ok, List.map_toArray, List.map_cons, List.map_nil, hx, hr]
section
variable {w0 w w' : World} {F : Nat → Prop} {D : Nat} {key : Tg} {L : List Tg} {S : List Bool} {V V0 V1 h : Nat} {kv : Value} {KB RB rc MB : Nat} {rb : Nat → Nat} {rw rw0 rw1 : Nat → List Tg} {ks todo : List Nd}
theorem TA.done (a : TA w0 F D key L S V0 h kv KB RB rc MB rb rw0 ks) (r : AtR w0 w F D key L h kv RB rc MB rb rw V []) (hs : w.heap.size ≤ w'.heap.size) (hb : ∀ k, F k → k ≠ MB → w'.heap[k]? = w.heap[k]?) (hm : NodesAt w' MB []) :
    TA w' F D key L (List.replicate L.length false) V h kv KB RB rc MB rb rw [] :=
  { a with
    hS := List.length_replicate
    tree := r.tree.same (hb D a.FD a.DM)
    akey := fun w2 h2 hb2 => a.akey w2 (Nat.le_trans r.chg.size (Nat.le_trans hs h2)) (hb2.trans ((hb KB a.FK (fun e => a.MK e.symm)).trans (r.same KB a.FK (fun e => a.DK e.symm) (fun j hj e => a.rK j hj e.symm))))
    rows := fun j hj => (World.cell?_of_block (hb RB a.FR (fun e => a.MR e.symm))).trans (r.slot a j hj)
    row := fun j hj => (r.row j hj).same (hb _ (a.Fr j hj) (a.rM j hj))
    len := r.len
    r32 := r.r32
    val := r.val
    map := hm
    mem := fun p => ⟨fun h => (by cases h), fun h => absurd h (isK_no _ _ _)⟩
    lt := fun k hk => Nat.lt_of_lt_of_le (a.lt k hk) (Nat.le_trans r.chg.size hs) }
structure InT (w0 wr : World) (F : Nat → Prop) (D : Nat) (key : Tg) (L : List Tg) (h : Nat) (kv : Value) (RB rc MB : Nat) (rb : Nat → Nat) (V bt B : Nat) (v : Value) (ts : List Nd) (m : Nat) : Prop where
  at_ : ∃ rw, AtR w0 wr F D key L h kv RB rc MB rb rw (V + m) (ts.drop m)
  res : Row wr bt 27 Hm.Z32
  read : Read wr B v ts
  tab : Hm.Tab wr
  big : B ≤ wr.heap.size
theorem read_same {B : Nat} {v : Value} {ts : List Nd} (hr : Read w B v ts) (hs : w.heap.size ≤ w'.heap.size) (hb : ∀ k, B ≤ k → k < w.heap.size → w'.heap[k]? = w.heap[k]?) : Read w' B v ts := by
  rcases hr with h | ⟨g, cap, e, h1, h2, h3⟩
  · exact .inl h
  · have hb' := hb g h1 h2
    exact .inr ⟨g, cap, e, h1, Nat.lt_of_lt_of_le h2 hs, fun i x hx => ⟨(World.cell?_of_block hb').trans (h3 i x hx).1, (World.cell?_of_block hb').trans (h3 i x hx).2⟩⟩
theorem Read.form {B : Nat} {v : Value} {ts : List Nd} (hr : Read w B v ts) : ∃ A n cap, n = ts.length ∧ v = .slice A n cap := by
  rcases hr with ⟨rfl, rfl⟩ | ⟨g, cap, e, _⟩
  · exact ⟨_, _, _, rfl, rfl⟩
  · exact ⟨_, _, _, rfl, e⟩
set_option maxRecDepth 100000 in
set_option maxHeartbeats 1000000 in
theorem root_any (a : TA w F D key L S V h kv KB RB rc MB rb rw ks) (hT : Hm.Tab w) (hF : ∀ k, F k → k ≠ 0) (hV : V ≤ 100000) : Calls Tryz.prog 38 #[.pointer (some ⟨D, 0, none⟩)] w fun e w' =>
    ∃ rs : List Value, (Hid (Vec 32 (root key L h) rs) ∧ e = .returned (.agg rs.toArray)) ∧ AfterT T9 w F w' D key L (List.replicate L.length false) (V + st h S) := by
  have hz := Hm.zeroTag
  obtain ⟨bt, hbt⟩ : ∃ b, b = w.heap.size := ⟨_, rfl⟩
  obtain ⟨w1, hw1⟩ : ∃ W, W = w.alloc (.cells Hm.Z32.toArray 27) := ⟨_, rfl⟩
  obtain ⟨w2, hw2⟩ : ∃ W, W = w1.alloc (.cells #[.map (some MB)] 143) := ⟨_, rfl⟩
  have hB1 : Below w.heap.size w w1 := by rw [hw1]; exact (Below.refl _ _).alloc (Nat.le_refl _) _
  have hB2 : Below w1.heap.size w1 w2 := by rw [hw2]; exact (Below.refl _ _).alloc (Nat.le_refl _) _
  have hR1 : Row w1 bt 27 Hm.Z32 := by rw [hw1, hbt]; exact Row.new w 27 Hm.Z32
  have hBt : Below w.heap.size w w2 := hB1.trans (hB2.mono hB1.size)
  have a1 := a.below hB1
  have a2 := a.below hBt
  have hp := places_any a1
  have c3 := a1.fits.2.2.2.1
  have hks : ks.length ≤ 100000 := by rw [a.count]; have h1 := st_le h S 100 (by rw [a.hS]; exact a.few); have h2 := a.wide.2.2; have h3 : h * 101 ≤ 4 * 101 := Nat.mul_le_mul_right _ h2; omega
  have hkeys : Calls Tryz.prog 76 #[.map (some MB)] w1 fun e w' => e = .returned (.func (.func 108) #[] #[.pointer (some ⟨w1.heap.size, 0, none⟩)]) ∧ w' = w2 := by
    rw [hw2]; exact callsIn_wide.1 (keys_any Fence.wide 3 (open_wide _) rfl (some MB) w1)
  have hsz2 : w2.heap.size = w1.heap.size + 1 := by rw [hw2]; simp
  have hmc : w2.cell? ⟨w1.heap.size, 0, none⟩ = some (.map (some MB)) := by rw [hw2]; simp
  have hsort := sorted_any w1.heap.size MB ks w2 (by omega) hmc a2.map hks
  have hpos : ¬ ((L.length : Int) = 0) := by have := a.pos; omega
  have HA := Lib.hid a
  have HF := Lib.hid hF
  have HV := Lib.hid hV
  have Hbt := Lib.hid hbt
  have HR2 : Hid (Row w2 bt 27 Hm.Z32) := hR1.below hB2 hR1.lt
  have HT2 : Hid (Hm.Tab w2) := hT.below hBt
  have HA2 : Hid (AtR w w2 F D key L h kv RB rc MB rb rw V ks) := (AtR.begin a).below a hBt
  have Hs1 : Hid (w.heap.size ≤ w1.heap.size ∧ w1.heap.size = w.heap.size + 1) := ⟨hB1.size, by rw [hw1]; simp⟩
  have Hs2 := Lib.hid hsz2
  clear a hT hF hV hbt hw2 hB1 hR1 hB2 hBt a1 a2 hks hsz2 hmc
  go_enter Tryz.func38, Tryz.ntmps38
  go_wp2_with (first
    | (go_at_call 74; rw [← hw1]; clear hw1; refine hp.mono ?_; rintro e w1 ⟨rfl, rfl⟩; clear hp)
    | (go_at_call 76; refine hkeys.mono ?_; rintro e w2 ⟨rfl, rfl⟩; clear hkeys)
    | (go_at_call 75; refine hsort.mono ?_; rintro e w3 ⟨v, ts, rfl, hperm, hasc, hread, hb3⟩
       have HRd := Lib.hid hread
       obtain ⟨A, tn, cap, htn, rfl⟩ := hread.form
       have HP := Lib.hid hperm
       have HAsc := Lib.hid hasc
       have HB3 := Lib.hid hb3
       have Htn := Lib.hid htn
       clear hsort hread hperm hasc hb3 htn))
  rw [← Hbt.out]
  have HI0 : Hid (InT w w3 F D key L h kv RB rc MB rb V bt w2.heap.size (.slice A tn cap) ts 0) :=
    ⟨⟨rw, (HA2.out.below HA.out HB3.out).more fun p hp => HP.out.mem_iff.2 hp⟩, HR2.out.below HB3.out HR2.out.lt, HRd.out, HT2.out.below HB3.out, HB3.out.size⟩
  have Htk : Hid (tn = ks.length ∧ tn ≤ 100000) := by
    have h1 := HA.out.count
    have h2 := st_le h S 100 (by rw [HA.out.hS]; exact HA.out.few)
    have h3 : h * 101 ≤ 4 * 101 := Nat.mul_le_mul_right _ HA.out.wide.2.2
    have h4 := HP.out.length_eq
    have h5 := Htn.out
    show _ ∧ _
    omega
  have HnF : Hid (∀ k, F k → k < w.heap.size) := HA.out.lt
  clear HRd c3 HR2 HT2 HA2
  go_loopw [16] (fun i wr => ∃ m : Nat, m ≤ tn ∧ i = I64 m ∧ Hid (InT w wr F D key L h kv RB rc MB rb V bt w2.heap.size (.slice A tn cap) ts m)) (fun i _ => tn - (RowKit.intOf i).toNat)
  case atStart => exact ⟨0, by omega, rfl, HI0⟩
  case round =>
    obtain ⟨m, hm, rfl, HI⟩ := hrel
    clear HI0
    by_cases hlt : m < tn
    · obtain ⟨x, hx⟩ : ∃ x, ts[m]? = some x := ⟨_, List.getElem?_eq_getElem (by rw [← Htn.out]; exact hlt)⟩
      obtain ⟨g, rfl, hgB, hgl, hnd⟩ : ∃ g, A = some ⟨g, 0, none⟩ ∧ w2.heap.size ≤ g ∧ g < wr.heap.size ∧ Nds wr g ts := by
        rcases HI.out.read with ⟨e, _⟩ | ⟨g, cap', e, h1, h2, h3⟩
        · rw [e] at hx; simp at hx
        · injection e with e1
          exact ⟨g, e1, h1, h2, h3⟩
      obtain ⟨c0, c1⟩ := hnd m x hx
      obtain ⟨rw', r⟩ := HI.out.at_
      have hxk : x ∈ ks := HP.out.mem_iff.1 (List.mem_of_getElem? hx)
      have hK := (HA.out.mem x).1 hxk
      obtain ⟨jm, hjm⟩ : ∃ jm, x.1 = jm + 1 := ⟨x.1 - 1, by have := hK.1; omega⟩
      have hxe : x = (jm + 1, x.2) := Prod.ext hjm rfl
      obtain ⟨wx, hwx⟩ : ∃ wx, wx = wr.alloc (.cells #[I64 x.1, I64 x.2] 148) := ⟨_, rfl⟩
      have hBx : Below wr.heap.size wr wx := by rw [hwx]; exact (Below.refl _ _).alloc (Nat.le_refl _) _
      have hdrop : ts.drop m = x :: ts.drop (m + 1) := by
        have hml := (List.getElem?_eq_some_iff.1 hx).1
        rw [List.drop_eq_getElem_cons hml, (List.getElem?_eq_some_iff.1 hx).2]
      have hcall := compute_any HA.out (r.below HA.out hBx) (HI.out.tab.below hBx) jm x.2 (by rw [← hxe]; exact hxk) (fun p hp => by
        obtain ⟨k, hk⟩ := List.getElem?_of_mem hp
        rw [List.getElem?_drop] at hk
        rcases Nat.eq_zero_or_pos k with h0 | h0
        · subst h0
          rw [Nat.add_zero, hx] at hk
          injection hk with hk
          rw [← hk, hjm]; exact Nat.le_refl _
        · have := HAsc.out m (m + k) x p (by omega) hx hk
          omega) (ts.drop (m + 1)) (fun p hp => by
        rw [hdrop] at hp
        rcases List.mem_cons.1 hp with h1 | h1
        · exact .inl (by rw [h1, ← hxe])
        · exact .inr h1) (by have := HV.out; have := Htk.out; omega) x.1 hjm
      have HN : Hid (∀ w5 rw5, AtR w w5 F D key L h kv RB rc MB rb rw5 (V + m + 1) (ts.drop (m + 1)) → Chg (fun k _ => F k) wx w5 → InT w w5 F D key L h kv RB rc MB rb V bt w2.heap.size (.slice (some ⟨g, 0, none⟩) tn cap) ts (m + 1)) := fun w5 rw5 h5 hc5 => by
        have hs5 : wr.heap.size ≤ w5.heap.size := Nat.le_trans hBx.size hc5.size
        have hkeep : ∀ k, k < wr.heap.size → ¬ F k → w5.heap[k]? = wr.heap[k]? := fun k hk hn => (hc5.block k (Nat.lt_of_lt_of_le hk hBx.size) (fun _ => hn)).trans (hBx.block k hk)
        have hw2 : w.heap.size ≤ w2.heap.size := by have := Hs1.out; have := Hs2.out; omega
        refine ⟨⟨rw5, by rw [show V + (m + 1) = V + m + 1 by omega]; exact h5⟩, HI.out.res.same (hkeep bt HI.out.res.lt (fun hf => by have := HnF.out bt hf; have := Hbt.out; omega)), read_same HI.out.read hs5 (fun k hk hkl => hkeep k hkl (fun hf => by have := HnF.out k hf; omega)), tab_same HI.out.tab (hkeep _ HI.out.tab.1 (fun hf => HF.out _ hf rfl)), Nat.le_trans HI.out.big hs5⟩
      clear hx hgB hgl hnd r hxk hK hxe hBx hdrop hjm
      have hml : (m : Int) < (tn : Int) := by omega
      have htb : (tn : Int) ≤ 100000 := by have := Htk.out.2; omega
      go_wp2_with (go_at_call 78; rw [← hwx]; clear hwx; refine hcall.mono ?_; rintro e w5 ⟨rfl, hr5, hc5⟩; have HI5 := Lib.hid (HN.out _ _ hr5 hc5); clear hcall HN hr5 hc5)
      go_roundw
      case rel => exact ⟨m + 1, by omega, by go_num, HI5⟩
      case measure => rw [show RowKit.intOf (.int .i64 ((m : Int) + 1)) = (m : Int) + 1 from rfl, show RowKit.intOf (.int .i64 (m : Int)) = (m : Int) from rfl]; omega
    · obtain rfl : m = tn := by omega
      obtain ⟨rw', r⟩ := HI.out.at_
      rw [List.drop_of_length_le (by rw [← Htn.out]; exact Nat.le_refl _)] at r
      have hmp := r.map HA.out
      obtain ⟨_, d2, d3, _⟩ := r.fits
      obtain ⟨wb, hrc, hcc, hsc, hmc⟩ := SetAt.clear hmp Tryz.underlying143 #[143] rfl 0
      have hwid : wid L.length h h = 1 := by rw [wid, if_neg (Nat.lt_irrefl _)]
      have hsl := r.slot HA.out h (Nat.le_refl _)
      have hlen1 := r.len h (Nat.le_refl _)
      have hval := r.val h 0 (Nat.le_refl _) (by rw [hwid]; exact Nat.one_pos) (.inr (by simp))
      rw [hwid] at hsl hlen1
      have hld := rowt (r.row h (Nat.le_refl _)) (r.r32 h (Nat.le_refl _)) 0 (by rw [hlen1]; exact Nat.one_pos)
      rw [hval, ← root_tv key L h HA.out.hh, Nat.zero_mul] at hld
      obtain ⟨rt, hrt⟩ : ∃ x, x = rb h := ⟨_, rfl⟩
      obtain ⟨rs, hrs⟩ : ∃ rs, rs = (root key L h).map V8 := ⟨_, rfl⟩
      have Hv : Hid (Vec 32 (root key L h) rs) := ⟨hrs, by rw [root_tv key L h HA.out.hh]; exact tv_32 key L HA.out.h32 _ _⟩
      rw [← hrt, ← hrs] at hld
      rw [← hrt] at hsl
      have hkb : ∀ k, k < wr.heap.size → k ≠ MB → wb.heap[k]? = wr.heap[k]? := fun k hk hn => hcc.block k hk (fun _ e => hn e)
      have hlt1 : ∀ k, F k → k < wr.heap.size := fun k hk => Nat.lt_of_lt_of_le (HnF.out k hk) r.chg.size
      have hbtM : bt ≠ MB := fun e => by have h1 := HnF.out MB HA.out.FM; have := Hbt.out; omega
      have hbtF : ¬ F bt := fun e => by have h1 := HnF.out bt e; have := Hbt.out; omega
      have hRb : Row wb bt 27 Hm.Z32 := HI.out.res.same (hkb bt HI.out.res.lt hbtM)
      have hd2b : wb.cell? ⟨D, 2, none⟩ = some (.slice (some ⟨RB, 0, none⟩) (h + 1) rc) := (World.cell?_of_block (hkb D (hlt1 D HA.out.FD) HA.out.DM)).trans d2
      have hslb : wb.cell? ⟨RB, h, none⟩ = some (.slice (some ⟨rt, 0, none⟩) 1 1) := (World.cell?_of_block (hkb RB (hlt1 RB HA.out.FR) (fun e => HA.out.MR e.symm))).trans hsl
      have hrtF : F rt := by rw [hrt]; exact HA.out.Fr h (Nat.le_refl _)
      have hrtM : rt ≠ MB := by rw [hrt]; exact HA.out.rM h (Nat.le_refl _)
      have hldb : wb.rangeAt rt 0 rs := fun j v hj => (World.cell?_of_block (w := wr) (hkb rt (hlt1 rt hrtF) hrtM)).trans (hld j v hj)
      have hsb : wr.heap.size ≤ wb.heap.size := hcc.size
      have HKeep : Hid (∀ W, Below wb.heap.size wb W → W.cell? ⟨D, 2, none⟩ = some (.slice (some ⟨RB, 0, none⟩) (h + 1) rc) ∧ W.cell? ⟨RB, h, none⟩ = some (.slice (some ⟨rt, 0, none⟩) 1 1) ∧ W.rangeAt rt 0 rs) := fun W hW =>
        ⟨(hW.cell (p := ⟨D, 2, none⟩) (Nat.lt_of_lt_of_le (hlt1 D HA.out.FD) hsb)).trans hd2b, (hW.cell (p := ⟨RB, h, none⟩) (Nat.lt_of_lt_of_le (hlt1 RB HA.out.FR) hsb)).trans hslb,
          fun j v hj => (hW.cell (p := ⟨rt, 0 + j, none⟩) (Nat.lt_of_lt_of_le (hlt1 rt hrtF) hsb)).trans (hldb j v hj)⟩
      have HThere : Hid (∀ W, Below wb.heap.size wb W → W.there bt 0 32) := fun W hW => (hRb.below hW hRb.lt).thereMid 0 32 (Nat.le_refl _)
      have hcount : V + m = V + st h S := by have h1 := HA.out.count; have h2 := Htk.out.1; omega
      have HSt : Hid (∀ W, Below wb.heap.size wb W → Row (W.setCells bt 0 rs) bt 27 rs ∧ TA (W.setCells bt 0 rs) F D key L (List.replicate L.length false) (V + st h S) h kv KB RB rc MB rb rw' [] ∧ Chg (fun k _ => F k) w (W.setCells bt 0 rs)) := fun W hW => by
        have hlen : rs.length = 32 := Hv.out.len
        have h0 : ∀ k, k < wb.heap.size → k ≠ bt → (W.setCells bt 0 rs).heap[k]? = wb.heap[k]? := fun k hk hn => (block_off rs 0 hn).trans (hW.block k hk)
        have hcW : Chg (fun k _ => F k) w (W.setCells bt 0 rs) := ((r.chg.trans hcc (fun b _ _ e => by rw [e]; exact HA.out.FM)).then (Chg.below hW _)).setCells (fun j _ hb => absurd hb (by have := Hbt.out; omega)) (by rw [hlen]; exact HThere.out W hW)
        refine ⟨?_, ?_, hcW⟩
        · have h1 := row_mid (t := 27) [] rs Hm.Z32 [] 0 W rfl (by rw [hlen]; rfl) (by rw [List.append_nil, List.nil_append]; exact hRb.below hW hRb.lt)
          rwa [List.append_nil, List.nil_append] at h1
        · rw [← hcount]
          have hne : ∀ k, F k → k ≠ bt := fun k hk e => hbtF (e ▸ hk)
          refine HA.out.done r (Nat.le_trans hsb (Nat.le_trans hW.size (by rw [size_cells]; exact Nat.le_refl _))) (fun k hk hm => (h0 k (Nat.lt_of_lt_of_le (hlt1 k hk) hsb) (hne k hk)).trans (hkb k (hlt1 k hk) hm)) ?_
          exact MapAt.same hmc (h0 MB (Nat.lt_of_lt_of_le (hlt1 MB HA.out.FM) hsb) (hne MB HA.out.FM))
      have HDb : Hid (D ≠ bt) := fun e => hbtF (e ▸ HA.out.FD)
      have HRb : Hid (RB ≠ bt) := fun e => hbtF (e ▸ HA.out.FR)
      have Hrb : Hid (rt ≠ bt) := fun e => hbtF (e ▸ hrtF)
      have hh4 := HA.out.wide.2
      have Hw1 : Hid (IntKind.i64.wrap (h : Int) = (h : Int)) := by show _ = _; rw [IntKind.wrap_i64]; omega
      have Hlh : Hid (0 ≤ (h : Int) ∧ (h : Int) < (h : Int) + 1) := by show _ ∧ _; omega
      clear hmp hcc hsc hmc hwid hsl hlen1 hval hld hrt hrs hkb hlt1 hbtM hbtF hRb hd2b hslb hrtF hrtM hldb hsb hcount hh4 d2 r hm hlt
      go_wp2_with (refine wpList_val rfl (run_clear_op rfl rfl hrc) ?_)
      clear hrc d3
      have hC : Below wb.heap.size wb wb.drew := below_drewN (Below.refl _ _) 1
      refine wp_region_held_drew (S := (fun W => W.cell? ⟨D, 2, none⟩ = some (.slice (some ⟨RB, 0, none⟩) (h + 1) rc) ∧ W.cell? ⟨RB, h, none⟩ = some (.slice (some ⟨rt, 0, none⟩) 1 1) ∧ W.rangeAt rt 0 rs)) (by kernel_rfl) (HKeep.out _ hC) (fun hHeld => ?_)
      generalize wb.drew = wbd at *
      refine wpAnyH_take (i := 0) (oi := ⟨some 28, _, _, _, _, _⟩) (v := ?_) rfl (by kernel_rfl) (by kernel_rfl) (by kernel_rfl) (fun _ _ _ h => h) (Or.inl ⟨by rfl, ?_⟩) hHeld ?_
      rotate_left
      · intro w hSw
        go_simp
        with_reducible rfl
      try go_frame
      refine wpAnyH_take (i := 1) (oi := ⟨some 29, _, _, _, _, _⟩) (v := ?_) rfl (by kernel_rfl) (by kernel_rfl) (by kernel_rfl) (fun _ _ _ h => h) (Or.inl ⟨by rfl, ?_⟩) hHeld ?_
      rotate_left
      · intro w hSw
        go_simp
        with_reducible rfl
      try go_frame
      refine wpAnyH_take (i := 2) (oi := ⟨some 30, _, _, _, _, _⟩) (v := ?_) rfl (by kernel_rfl) (by kernel_rfl) (by kernel_rfl) (fun _ _ _ h => h) (Or.inl ⟨by rfl, ?_⟩) hHeld ?_
      rotate_left
      · intro w hSw
        go_simp
        with_reducible rfl
      try go_frame
      refine wpAnyH_take (i := 3) (oi := ⟨some 31, _, _, _, _, _⟩) (v := ?_) rfl (by kernel_rfl) (by kernel_rfl) (by kernel_rfl) (fun _ _ _ h => h) (Or.inl ⟨by rfl, ?_⟩) hHeld ?_
      rotate_left
      · intro w hSw
        have s1 := hSw.1
        go_simp
        with_reducible rfl
      try go_frame
      refine wpAnyH_take (i := 4) (oi := ⟨some 32, _, _, _, _, _⟩) (v := ?_) rfl (by kernel_rfl) (by kernel_rfl) (by kernel_rfl) (fun _ _ _ h => h) (Or.inl ⟨by rfl, ?_⟩) hHeld ?_
      rotate_left
      · intro w hSw
        go_simp
        with_reducible rfl
      try go_frame
      refine wpAnyH_take (i := 5) (oi := ⟨some 33, _, _, _, _, _⟩) (v := ?_) rfl (by kernel_rfl) (by kernel_rfl) (by kernel_rfl) (fun _ _ _ h => h) (Or.inl ⟨by rfl, ?_⟩) hHeld ?_
      rotate_left
      · intro w hSw
        go_simp
        with_reducible rfl
      try go_frame
      refine wpAnyH_take (i := 6) (oi := ⟨some 34, _, _, _, _, _⟩) (v := ?_) rfl (by kernel_rfl) (by kernel_rfl) (by kernel_rfl) (fun _ _ _ h => h) (Or.inl ⟨by rfl, ?_⟩) hHeld ?_
      rotate_left
      · intro w hSw
        go_simp
        with_reducible rfl
      try go_frame
      refine wpAnyH_take (i := 7) (oi := ⟨some 35, _, _, _, _, _⟩) (v := ?_) rfl (by kernel_rfl) (by kernel_rfl) (by kernel_rfl) (fun _ _ _ h => h) (Or.inl ⟨by rfl, ?_⟩) hHeld ?_
      rotate_left
      · intro w hSw
        have s1 := hSw.1
        go_simp
        with_reducible rfl
      try go_frame
      refine wpAnyH_take (i := 8) (oi := ⟨some 36, _, _, _, _, _⟩) (v := ?_) rfl (by kernel_rfl) (by kernel_rfl) (by kernel_rfl) (fun _ _ _ h => h) (Or.inl ⟨by rfl, ?_⟩) hHeld ?_
      rotate_left
      · intro w hSw
        go_simp
        with_reducible rfl
      try go_frame
      refine wpAnyH_take (i := 9) (oi := ⟨some 37, _, _, _, _, _⟩) (v := ?_) rfl (by kernel_rfl) (by kernel_rfl) (by kernel_rfl) (fun _ _ _ h => h) (Or.inl ⟨by rfl, ?_⟩) hHeld ?_
      rotate_left
      · intro w hSw
        go_simp
        with_reducible rfl
      try go_frame
      refine wpAnyH_take (i := 10) (oi := ⟨some 38, _, _, _, _, _⟩) (v := ?_) rfl (by kernel_rfl) (by kernel_rfl) (by kernel_rfl) (fun _ _ _ h => h) (Or.inl ⟨by rfl, ?_⟩) hHeld ?_
      rotate_left
      · intro w hSw
        have hw1 := Hw1.out
        have hlh := Hlh.out
        go_simp
        with_reducible rfl
      try go_frame
      refine wpAnyH_take (i := 11) (oi := ⟨some 39, _, _, _, _, _⟩) (v := ?_) rfl (by kernel_rfl) (by kernel_rfl) (by kernel_rfl) (fun _ _ _ h => h) (Or.inl ⟨by rfl, ?_⟩) hHeld ?_
      rotate_left
      · intro w hSw
        have s2 := hSw.2.1
        go_simp
        with_reducible rfl
      try go_frame
      refine wpAnyH_take (i := 12) (oi := ⟨some 40, _, _, _, _, _⟩) (v := ?_) rfl (by kernel_rfl) (by kernel_rfl) (by kernel_rfl) (fun _ _ _ h => h) (Or.inl ⟨by rfl, ?_⟩) hHeld ?_
      rotate_left
      · intro w hSw
        go_simp
        with_reducible rfl
      try go_frame
      refine wpAnyH_take (i := 13) (oi := ⟨some 41, _, _, _, _, _⟩) (v := .agg (rs).toArray) rfl (by kernel_rfl) (by kernel_rfl) (by kernel_rfl) (fun _ _ _ h => h) (yieldsIf_load_mid (by rfl) 27 (.tmp 40) rfl (rt) (0) rfl (rs) _ (fun W h => h.2.2) Tryz.underlying27 rfl (by rw [Hv.out.len]; kernel_rfl)) hHeld ?_
      try go_frame
      refine wpAnyH_ready (rs := [14]) (by kernel_rfl) (by simp) ?_
      refine AllReadyH.cons (o := ⟨none, _, _, _, _, _⟩) rfl (fun K hK => ?_) AllReadyH.nil
      rw [if_pos (by rfl)]
      refine Go.wp_store_mid 27 (.tmp 2) (.tmp 41) rfl (bt) (0) rs.toArray rfl rfl (by rw [Hv.out.size]; exact HThere.out _ hC) (by rw [Hv.out.size]; kernel_rfl) Hv.out.one ?_
      rw [List.toList_toArray]
      have HAf := Lib.hid (HSt.out _ hC)
      have hX := HKeep.out _ hC
      refine hK.out _ _ ⟨(cells_off rs 0 HDb.out).trans hX.1, (cells_off rs 0 HRb.out).trans hX.2.1, fun j v hj => (cells_off rs 0 Hrb.out).trans (hX.2.2 j v hj)⟩ (fun hHeld => ?_)
      clear hK K hX
      generalize (wbd.setCells bt 0 rs) = wz at *
      try go_frame
      refine wpAnyH_done (by kernel_rfl) ?_ _
      clear hC HKeep hHeld HSt HThere
      try go_wp2
      have hinfo : (Tryz.prog.info? 27).map (·.size) = some rs.toArray.size := by rw [Hv.out.size]; kernel_rfl
      refine bodyPost_ret (v := .agg rs.toArray) (results_cell_row rfl _ _ bt 27 rs.toArray (0, 0) _ rfl HAf.out.1 Tryz.underlying27 rfl hinfo) rfl ?_
      exact ⟨rs, ⟨Hv, rfl⟩, F, ⟨h, kv, KB, RB, rc, MB, rb, rw', [], HAf.out.2.1⟩, fun k hk => .inl hk, HAf.out.2.2⟩
end
end Go.Proofs.YthbmknpbcgnabaaGreatDoor.Mr
