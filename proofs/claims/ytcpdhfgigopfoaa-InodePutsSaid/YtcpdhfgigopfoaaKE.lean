/-
  THE WALK of Get (the program's).
-/
import Derived.Test.YtcpdhfgigopfoaaKC
import Derived.Deep.OwnRows
namespace Go.Proofs.Ytcpdhfgigopfoaa
open Go.RowKit Cdc

theorem infoU : (Try.prog.info? 40).map (fun i => (i.zero, i.size, i.bytes)) = some (some (.int .u64 0), 1, 8) := by kernel_rfl
theorem madeU (n : Nat) (hn : n ≤ 1000000) (W : World) : (Instr.makeSlice 41 (.int .i64 (n : Int)) (.int .i64 (n : Int))).run Try.prog W = .ok (.slice (some ⟨W.heap.size, 0, none⟩) n n) (W.alloc (.cells ((List.replicate n 0).map VU).toArray 40)) := by
  have h := run_make_row' (P := Try.prog) 41 40 (.int .u64 0) 8 Try.underlying41 infoU rfl .i64 .i64 n (by omega) (by omega) W
  rw [show madeCells #[Value.int .u64 0] n = ((List.replicate n 0).map VU).toArray from by
    unfold madeCells
    apply Array.ext
    · simp
    · intro i h1 h2
      simp [VU, Nat.mod_one]] at h
  exact h
/-- A row of numbers that is turned place by place: the first k places are new. -/
def updU (new old : List Nat) (k : Nat) : List Nat := new.take k ++ old.drop k
section
variable {new old : List Nat} {k : Nat}
theorem updU_all (h : new.length = k) (h2 : old.length = k) : updU new old k = new := by
  rw [updU, List.take_of_length_le (by omega), List.drop_eq_nil_of_le (by omega), List.append_nil]
theorem updU_set (h : old.length = new.length) (hk : k < new.length) : (updU new old k).set k (new.getD k 0) = updU new old (k + 1) := by
  unfold updU
  rw [List.set_append_right _ _ (by simp; omega), List.take_succ_eq_append_getElem hk, List.append_assoc]
  congr 1
  have h1 : k - (new.take k).length = 0 := by simp; omega
  rw [h1, List.drop_eq_getElem_cons (by omega : k < old.length), List.set_cons_zero, List.getD_eq_getElem?_getD, List.getElem?_eq_getElem hk]
  rfl
theorem updU_old (_ : old.length = new.length) (hk : k < new.length) : (updU new old k).getD k 0 = old.getD k 0 := by
  unfold updU
  rw [List.getD_eq_getElem?_getD, List.getElem?_append_right (by simp; omega), List.getElem?_drop, List.length_take, Nat.min_eq_left (by omega), show k + (k - k) = k by omega, List.getD_eq_getElem?_getD]
theorem updU_length (h : old.length = new.length) : (updU new old k).length = new.length := by simp [updU]; omega
end
theorem updU_cell {w : World} {g : Nat} {t : TypeId} {new old : List Nat} {k : Nat} (h : Row w g t ((updU new old k).map VU)) (hl : old.length = new.length) (hn : k < new.length) : w.cell? ⟨g, k, none⟩ = some (.int .u64 ((old.getD k 0 : Nat) : Int)) := by
  have := h.sees
  have := atU this k (by rw [updU_length hl]; exact hn)
  rw [Nat.zero_add, updU_old hl hn] at this
  exact this
theorem updU_put {w : World} {g : Nat} {t : TypeId} {new old : List Nat} {k : Nat} (h : Row w g t ((updU new old k).map VU)) (hl : old.length = new.length) (hk : k < new.length) {z : Nat} (hz : z = new.getD k 0) :
    Row (w.setCell ⟨g, k, none⟩ (.int .u64 (z : Int))) g t ((updU new old (k + 1)).map VU) := by
  rw [← updU_set hl hk, List.map_set, hz]
  exact h.set k _

/-- A part of bytes. -/
theorem Arg.piece {w : World} {b o c : Nat} {bs : List UInt8} (hb : b < w.heap.size) (hs : Sees w b o (bs.map V8)) (i n : Nat) (h : i + n ≤ bs.length) (hc : bs.length ≤ c) :
    Arg w (.slice (some ⟨b, o + i, none⟩) n (c - i)) ((bs.drop i).take n) := by
  have hl : ((bs.drop i).take n).length = n := by rw [List.length_take, List.length_drop]; omega
  refine .inr ⟨b, o + i, c - i, by rw [hl], hb, by rw [hl]; omega, ?_⟩
  have := hs.piece i n
  rwa [← List.map_drop, ← List.map_take] at this

theorem nums_at (ws : List Int) (b : List UInt8) (k : Nat) (hk : k < ws.length) : (nums ws b).getD k 0 = num 0 ((b.drop (sumw (ws.take k))).take (ws.getD k 0).toNat) := by
  have h1 := nums_append (ws.take k) b (ws.getD k 0)
  rw [← take_snoc ws k hk 0] at h1
  have h2 : nums ws b = nums (ws.take (k + 1)) b ++ nums (ws.drop (k + 1)) (b.drop (sumw (ws.take (k + 1)))) := by
    have : ∀ (a c : List Int) (b : List UInt8), nums (a ++ c) b = nums a b ++ nums c (b.drop (sumw a)) := by
      intro a
      induction a with
      | nil => intro c b; simp [nums, sumw]
      | cons y a ih => intro c b; simp only [List.cons_append, nums, ih, sumw, List.drop_drop]
    have h3 := this (ws.take (k + 1)) (ws.drop (k + 1)) b
    rwa [List.take_append_drop] at h3
  have hl : (nums (ws.take k) b).length = k := by rw [nums_length, List.length_take]; omega
  rw [h2, h1, List.append_assoc, List.getD_eq_getElem?_getD, List.getElem?_append_right (by omega), hl, Nat.sub_self]
  rfl

set_option maxRecDepth 100000 in
set_option maxHeartbeats 400000 in
theorem KGet_any (ws : List Int) (hn : ws.length ≤ 1000000) (b : List UInt8) (v u : Value) (w : World) (h : From w v (ws.map VI)) (hu : Arg w u b) :
    Calls Try.prog 20 #[v, u] w fun e w' => ∃ r, e = .returned (.tuple #[r, .int .i64 (errI (okG ws b))]) ∧ Hid (From w' r ((getL ws b).map VU)) ∧ Below w.heap.size w w' := by
  have HF := Lib.hid h
  have HU := Lib.hid hu
  obtain ⟨A, cap, rfl, hs⟩ := h.parts
  obtain ⟨C, cap2, rfl⟩ := hu.form
  rw [List.length_map] at hs HF ⊢
  obtain ⟨n, hnl⟩ : ∃ n, n = ws.length := ⟨_, rfl⟩
  obtain ⟨m, hml⟩ : ∃ m, m = b.length := ⟨_, rfl⟩
  rw [← hnl] at hs hn HF ⊢
  rw [← hml] at HU ⊢
  have HS := Lib.hid hs
  have HNl := Lib.hid hnl
  have HMl := Lib.hid hml
  clear hs h hu hnl hml
  go_enter Try.func20, Try.ntmps20
  go_wp2_with fail
  refine (KWide_any ws (by rw [← HNl.out]; exact hn) _ w HF.out).mono ?_
  rintro e w1 ⟨rfl, hb1⟩
  by_cases hok : okG ws b = true
  · have Hw : Hid (wide ws = (m : Int)) := by show _ = _; rw [okG_wide.1 hok, HMl.out]
    obtain ⟨zs, hzs⟩ : ∃ zs, zs = (List.replicate n 0).map VU := ⟨_, rfl⟩
    have hmk : ∀ W, (Instr.makeSlice 41 (.int .i64 (n : Int)) (.int .i64 (n : Int))).run Try.prog W = .ok (.slice (some ⟨W.heap.size, 0, none⟩) n n) (W.alloc (.cells zs.toArray 40)) := fun W => by rw [hzs]; exact madeU n (by omega) W
    have HA1 : Hid ((ws.all okw = true) ∧ b.length = sumw ws) := okG_iff.1 hok
    have HOK := Lib.hid hok
    have HLn : Hid ((nums ws b).length = n) := by show _ = _; rw [nums_length, HNl.out]
    have HLz : Hid ((List.replicate n 0).length = (nums ws b).length) := by show _ = _; rw [HLn.out, List.length_replicate]
    have HR0 : Hid (Row (w1.alloc (.cells zs.toArray 40)) w1.heap.size 40 ((updU (nums ws b) (List.replicate n 0) 0).map VU)) := by
      have := Row.new w1 40 zs
      rw [hzs] at this
      show Row _ _ _ _
      rw [show updU (nums ws b) (List.replicate n 0) 0 = List.replicate n 0 by simp [updU], hzs]
      exact this
    have HB0 : Hid (Below w.heap.size w (w1.alloc (.cells zs.toArray 40))) := hb1.alloc hb1.size _
    have hle := hb1.size
    rw [Hw.out]
    clear hb1 hzs hok
    go_wp2
    go_loopw [7, 20] (fun a i wr => ∃ (k : Nat), k ≤ n ∧ i = .int .i64 k ∧ a = .int .i64 ((sumw (ws.take k) : Nat) : Int) ∧ Hid (Row wr w1.heap.size 40 ((updU (nums ws b) (List.replicate n 0) k).map VU)) ∧ Hid (Below w.heap.size w wr)) (fun _ i _ => n - (intOf i).toNat)
    case atStart => exact ⟨0, by omega, rfl, rfl, HR0, HB0⟩
    case round =>
      obtain ⟨k, hk, rfl, rfl, HR, HB⟩ := hrel
      clear HR0 HB0 hmk
      by_cases hlt : k < n
      · obtain ⟨bb, o, rfl, hbb, hsee⟩ := HS.out (by omega)
        have hx := atI (hsee.below HB.out hbb) k (by rw [← HNl.out]; exact hlt)
        have Htk := Lib.hid (take_snoc ws k (by rw [← HNl.out]; exact hlt) 0)
        have hok : okw (ws.getD k 0) = true := by
          refine List.all_eq_true.1 HA1.out.1 _ ?_
          rw [List.getD_eq_getElem?_getD, List.getElem?_eq_getElem (by rw [← HNl.out]; exact hlt)]
          exact List.getElem_mem _
        have Hnum := Lib.hid (nums_at ws b k (by rw [← HNl.out]; exact hlt))
        have hsum : sumw (ws.take k) + (ws.getD k 0).toNat ≤ m := by
          have h1 := congrArg sumw Htk.out
          rw [sumw_append] at h1
          have h2 := sumw_append (ws.take (k + 1)) (ws.drop (k + 1))
          rw [List.take_append_drop, ← HA1.out.2] at h2
          simp only [sumw] at h1
          rw [HMl.out]
          omega
        have hm8 : m ≤ 8000000 := by
          rw [HMl.out, HA1.out.2]
          have := sumw_le ws HA1.out.1
          have := HNl.out
          omega
        rw [okw_iff] at hok
        clear hsee
        have c1 := updU_cell HR.out HLz.out (by rw [HLn.out]; exact hlt)
        have f1 := HR.out.free k
        have Hs1 : Hid (sumw (ws.take (k + 1)) = sumw (ws.take k) + (ws.getD k 0).toNat) := by
          show _ = _
          rw [Htk.out, sumw_append]; rfl
        generalize ((List.replicate n 0).getD k 0) = y at *
        generalize ws.getD k 0 = x at *
        generalize sumw (ws.take k) = a at *
        obtain ⟨h1, h8⟩ := hok
        obtain ⟨j, rfl⟩ : ∃ j : Nat, x = (j : Int) := ⟨x.toNat, by omega⟩
        obtain ⟨q, oc, rfl, hq, hqc, hqs⟩ : ∃ q oc, C = some ⟨q, oc, none⟩ ∧ q < w.heap.size ∧ m ≤ cap2 ∧ Sees w q oc (b.map V8) := by
          rcases HU.out with ⟨A', e, _⟩ | ⟨bb, o, c, e, hbb, hc, hs⟩
          · injection e with _ e2 _; omega
          · injection e with e1 e2 e3; exact ⟨bb, o, e1, hbb, by rw [HMl.out, e3]; exact hc, hs⟩
        have Hpiece : Hid (Arg wr (.slice (some ⟨q, oc + a, none⟩) j (cap2 - a)) ((b.drop a).take j)) := Arg.piece (Nat.lt_of_lt_of_le hq HB.out.size) (hqs.below HB.out hq) a j (by rw [← HMl.out]; omega) (by rw [← HMl.out]; exact hqc)
        clear hqs
        have Hj8 : Hid (((b.drop a).take j).length ≤ 8) := by show _ ≤ _; rw [List.length_take]; omega
        have Hz : Hid (num 0 ((b.drop a).take j) = (nums ws b).getD k 0) := by show _ = _; rw [Hnum.out]; rfl
        have hs1 : sumw (ws.take (k + 1)) = a + j := Hs1.out
        have Hs1' := Lib.hid hs1
        clear hs1 Hs1 Hnum Htk
        go_wp2_with fail
        refine (numOf_any _ Hj8.out _ wr Hpiece.out).mono ?_
        rintro e w2 ⟨rfl, hb2⟩
        have HR2 : Hid (Row w2 w1.heap.size 40 ((updU (nums ws b) (List.replicate n 0) k).map VU)) := HR.out.below hb2 HR.out.lt
        have HB2 : Hid (Below w.heap.size w w2) := HB.out.trans (hb2.mono HB.out.size)
        have c2 := updU_cell HR2.out HLz.out (by rw [HLn.out]; exact hlt)
        generalize ((List.replicate n 0).getD k 0) = y2 at *
        have f2 := HR2.out.free k
        generalize num 0 ((b.drop a).take j) = z at *
        clear HR HB c1 f1 hb2 Hpiece Hj8
        go_wp2
        go_roundw
        case rel =>
          refine ⟨k + 1, by omega, by go_num, by rw [Hs1'.out]; go_num, updU_put HR2.out HLz.out (by rw [HLn.out]; exact hlt) Hz.out, HB2.out.setCell (by show w.heap.size ≤ w1.heap.size; omega) _⟩
        case measure => simp [intOf]; omega
      · obtain rfl : k = n := by omega
        have Hall : Hid (updU (nums ws b) (List.replicate k 0) k = nums ws b) := updU_all HLn.out List.length_replicate
        rw [Hall.out] at HR
        clear Hall
        go_wp2
        go_ret2
        rw [errI_ok HOK.out, getL, if_pos HOK.out]
        refine ⟨_, rfl, .inr ⟨w1.heap.size, 0, k, by rw [List.length_map, HLn.out]; rfl, HR.out.lt, HR.out.sees⟩, HB.out⟩
  · have hne : ¬ wide ws = (m : Int) := fun e => hok (okG_wide.2 (by rw [e, HMl.out]))
    generalize wide ws = z at *
    have HOK := Lib.hid hok
    clear hok HMl HNl HS HU HF
    go_wp2
    go_ret2
    rw [errI_bad HOK.out]
    have hok := HOK.out
    refine ⟨_, rfl, .inl ⟨none, rfl, by rw [getL, if_neg hok]; rfl⟩, hb1⟩
end Go.Proofs.Ytcpdhfgigopfoaa
