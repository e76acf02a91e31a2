/-
  THE WALKS of the program's concatenate and Join.
-/
import Derived.Test.YtcmledlghipcbaaDoorTD
namespace Go.Proofs.YtcmledlghipcbaaDoor
open Go.RowKit Sha

/-- Parts that are few and short. -/
def Small (ps : List (List UInt8)) : Prop := ps.length ≤ 100 ∧ ∀ p ∈ ps, p.length ≤ 1000
theorem Small.part {ps : List (List UInt8)} (h : Small ps) {j : Nat} {p : List UInt8} (hp : ps[j]? = some p) : p.length ≤ 1000 := h.2 p (List.mem_of_getElem? hp)
theorem joined_length_le : ∀ (ps : List (List UInt8)), (∀ p ∈ ps, p.length ≤ 1000) → (joined ps).length ≤ ps.length * 1004
  | [], _ => by simp [joined]
  | p :: r, h => by
    have h1 := joined_length_le r (fun q hq => h q (by simp [hq]))
    have h2 := h p (by simp)
    simp only [joined, List.length_append, lenB, List.length_cons, List.length_nil]
    omega
theorem Small.joined {ps : List (List UInt8)} (h : Small ps) : (joined ps).length ≤ 100400 := by
  have h1 := joined_length_le ps h.2
  have h2 := h.1
  omega
theorem Small.take {ps : List (List UInt8)} (h : Small ps) (j : Nat) : (Go.Proofs.YtcmledlghipcbaaDoor.joined (ps.take j)).length ≤ 100400 := by
  have h1 := joined_length_le (ps.take j) (fun p hp => h.2 p (List.mem_of_mem_take hp))
  have h2 := h.1
  have h3 : (ps.take j).length ≤ ps.length := by rw [List.length_take]; omega
  omega

/-- The first j parts are short. -/
def Short (ps : List (List UInt8)) (m j : Nat) : Prop := ∀ (i : Nat) p, i < j → ps[i]? = some p → p.length ≤ m
theorem Short.zero (ps : List (List UInt8)) (m : Nat) : Short ps m 0 := fun i p h => by omega
theorem Short.more {ps : List (List UInt8)} {m j : Nat} (h : Short ps m j) {p : List UInt8} (hp : ps[j]? = some p) (hm : p.length ≤ m) : Short ps m (j + 1) := fun i q hi hq => by
  rcases Nat.lt_or_ge i j with h1 | h1
  · exact h i q h1 hq
  · obtain rfl : i = j := by omega
    rw [hp] at hq
    cases hq
    exact hm
theorem Short.small {ps : List (List UInt8)} {m j : Nat} (h : Short ps m j) (hj : ps.length = j) (hn : j ≤ 100) (hm : m ≤ 1000) : Small ps := by
  refine ⟨by omega, fun p hp => ?_⟩
  obtain ⟨i, hi, rfl⟩ := List.getElem_of_mem hp
  exact Nat.le_trans (h i _ (by omega) (List.getElem?_eq_getElem hi)) hm

theorem lenB_cells (m : Nat) (h : m ≤ 1000) : [Value.int .u8 ((m : Int) / 16777216), .int .u8 ((m : Int) / 65536), .int .u8 ((m : Int) / 256), .int .u8 ((m : Int) % 256)] = (lenB m).map V8 := by
  simp only [lenB, List.map_cons, List.map_nil, V8, UInt8.toNat_ofNat']
  have e1 : (m : Int) / 16777216 = ((m / 16777216 % 2 ^ 8 : Nat) : Int) := by omega
  have e2 : (m : Int) / 65536 = ((m / 65536 % 2 ^ 8 : Nat) : Int) := by omega
  have e3 : (m : Int) / 256 = ((m / 256 % 2 ^ 8 : Nat) : Int) := by omega
  have e4 : (m : Int) % 256 = ((m % 2 ^ 8 : Nat) : Int) := by omega
  rw [e1, e2, e3, e4]
theorem lenB_length (m : Nat) : (lenB m).length = 4 := rfl

set_option maxRecDepth 100000 in
set_option maxHeartbeats 400000 in
theorem concat_any (A : Option Addr) (n cap : Nat) (ps : List (List UInt8)) (hs : Small ps) (w : World) (h : Parts w (.slice A n cap) ps) :
    Calls Tryd.prog 16 #[.slice A n cap] w fun e w' => ∃ v, e = .returned v ∧ Own w' w.heap.size 5 v ((joined ps).map V8) ∧ Below w.heap.size w w' := by
  have HS := Lib.hid hs
  have HP := Lib.hid h
  have HL := Lib.hid h.len
  have hn : n ≤ 100 := by rw [← h.len]; exact hs.1
  clear hs h
  go_enter Tryd.func16, Tryd.ntmps16
  go_wp2
  go_loop [3, 5, 12] (fun t _ i => ∃ j s : Nat, j ≤ n ∧ s ≤ j * 1004 ∧ i = .int .i64 j ∧ t = .int .i64 s) (fun _ _ i => n - (intOf i).toNat)
  case atStart => exact ⟨0, 0, by omega, by omega, rfl, rfl⟩
  case round =>
    obtain ⟨j, s, hj, hsl, rfl, rfl⟩ := hrel
    by_cases hlt : j < n
    · obtain ⟨b, o, A', c', p, rfl, hbl, hpj, hcell, _⟩ := HP.out.at_ j hlt
      have hpl : p.length ≤ 1000 := HS.out.part hpj
      clear hpj
      generalize p.length = m at *
      go_wp2
      go_round
      case rel => exact ⟨j + 1, s + (4 + m), by omega, by omega, by go_num, by go_num⟩
      case measure => simp [intOf]; omega
    · obtain rfl : j = n := by omega
      obtain ⟨w1, hmk, hown1, hb1⟩ := made8 w s (by omega)
      have HO1 := Lib.hid hown1
      have hsz1 := hb1.size
      clear hown1
      go_wp2
      clear hmk
      go_loopw [6, 8, 9, 26] (fun t _ _ i wr => ∃ k : Nat, k ≤ j ∧ i = .int .i64 k ∧ Own wr w.heap.size 5 t ((joined (ps.take k)).map V8) ∧ Below w.heap.size w wr) (fun _ _ _ i _ => j - (intOf i).toNat)
      case atStart => exact ⟨0, by omega, rfl, HO1.out, hb1⟩
      case round =>
        obtain ⟨k, hk, rfl, hown, hbel⟩ := hrel
        have hszr := hbel.size
        have Hown := Lib.hid hown
        clear hown
        by_cases hlt : k < j
        · obtain ⟨b, o, A', c', p, rfl, hbl, hpj, hcell0, harg⟩ := HP.out.at_ k hlt
          have hcell : wr.cell? ⟨b, o + k, none⟩ = some (.slice A' p.length c') := (World.cell?_of_block (w := w) (hbel.block b hbl)).trans hcell0
          clear hcell0
          have hpl : p.length ≤ 1000 := HS.out.part hpj
          have HT := Lib.hid (joined_take ps k p hpj)
          have HA := Lib.hid harg
          clear hpj harg
          obtain ⟨m, hm⟩ : ∃ m, m = p.length := ⟨_, rfl⟩
          rw [← hm] at hcell hpl HA HT
          have HM := Lib.hid hm
          clear hm
          have HF4 := Lib.hid (lenB_cells m hpl)
          have HL1 : Hid (((joined (ps.take k)).map V8).length + 4 ≤ 100000000) := by show _ ≤ _; rw [List.length_map]; have := HS.out.take k; omega
          have HL2 : Hid (((joined (ps.take k)).map V8 ++ (lenB m).map V8).length + (p.map V8).length ≤ 100000000) := by show _ ≤ _; rw [List.length_append, List.length_map, List.length_map, List.length_map, lenB_length, ← HM.out]; have := HS.out.take k; omega
          have H1 := Lib.hid (oneC8 p)
          go_wp2_with (at_builtin; first
            | (refine wpList_app rfl (.tmp 33) (.tmp 45) 22 rfl w.heap.size 5 Tryd.underlying22 info8 rfl (by decide) _ ((joined (ps.take k)).map V8) rfl (Hown.out.alloc _) _ [.int .u8 ((m : Int) / 16777216), .int .u8 ((m : Int) / 65536), .int .u8 ((m : Int) / 256), .int .u8 ((m : Int) % 256)] rfl (from_new wr 5 [.int .u8 ((m : Int) / 16777216), .int .u8 ((m : Int) / 65536), .int .u8 ((m : Int) / 256), .int .u8 ((m : Int) % 256)]) (by rw [HF4.out]; exact oneC8 _) HL1.out (by simp; omega) ?_; intro v2 w2 hown2 hg2 _; rw [HF4.out] at hown2; have Hown2 := Lib.hid hown2; have hb2 : Below w.heap.size w w2 := below_app (hbel.alloc hszr _) (Hown.out.alloc _) hg2 (Nat.le_refl _) (by simp; omega); have hsz2 := hb2.size; have HF2 : Hid (From w2 (.slice A' m c') (p.map V8)) := arg_from (HA.out.below hb2); clear hown2 hg2)
            | (refine wpList_app rfl (.tmp 47) (.tmp 48) 22 rfl w.heap.size 5 Tryd.underlying22 info8 rfl (by decide) _ ((joined (ps.take k)).map V8 ++ (lenB m).map V8) rfl Hown2.out _ (p.map V8) rfl HF2.out H1.out HL2.out (by omega) ?_; intro v3 w3 hown3 hg3 _))
          go_roundw
          case rel =>
            refine ⟨k + 1, by omega, by go_num, ?_, ?_⟩
            · rw [HT.out, List.map_append, List.map_append, ← List.append_assoc]; exact hown3
            · exact below_app hb2 Hown2.out hg3 (Nat.le_refl _) (by omega)
          case measure => simp [intOf]; omega
        · obtain rfl : k = j := by omega
          have hfin : ps.take k = ps := List.take_of_length_le (by rw [HL.out]; omega)
          rw [hfin] at Hown
          clear hfin
          go_wp2
          go_ret
          exact ⟨_, rfl, Hown.out, hbel⟩

set_option maxRecDepth 100000 in
set_option maxHeartbeats 400000 in
theorem Join_any (v : Value) (key : List UInt8) (hk : key.length ≤ 1000000) (A : Option Addr) (n cap : Nat) (ps : List (List UInt8)) (hs : Small ps) (w : World) (hT : Tab w) (hv : Arg w v key) (h : Parts w (.slice A n cap) ps) :
    Calls Tryd.prog 9 #[v, .slice A n cap] w fun e w' => ∃ rs : List Value, Hid (Vec 32 (mac key (joined ps)) rs) ∧ e = .returned (.agg rs.toArray) ∧ Below w.heap.size w w' := by
  have HB0 : Hid (Below w.heap.size w (w.alloc (.cells Z32.toArray 28))) := (Below.refl _ _).alloc (Nat.le_refl _) _
  have HT := Lib.hid hT
  have HV := Lib.hid hv
  have HP := Lib.hid h
  have HS := Lib.hid hs
  have HK := Lib.hid hk
  clear hT hv h hs hk
  have hz := zeroTag
  go_enter Tryd.func9, Tryd.ntmps9
  go_wp2_with fail
  refine (concat_any A n cap ps HS.out _ (HP.out.below HB0.out)).mono ?_
  rintro e w1 ⟨u, rfl, hown1, hb1⟩
  have HN1 : Hid (Row w1 w.heap.size 28 Z32) := (Row.new w 28 Z32).below hb1 (by simp)
  have HB1 : Hid (Below w.heap.size w w1) := HB0.out.trans (hb1.mono (by simp))
  have HA1 : Hid (Arg w1 u (joined ps)) := hown1.arg
  clear hown1 hb1 hz
  go_wp2_with fail
  refine (HSum_any v u key (joined ps) HK.out (by have := HS.out.joined; omega) w1 (HT.out.below HB1.out) (HV.out.below HB1.out) HA1.out).mono ?_
  rintro e w2 ⟨rs, Hrs, rfl, hb2⟩
  have HN2 : Hid (Row w2 w.heap.size 28 Z32) := HN1.out.below hb2 HN1.out.lt
  have HB2 : Hid (Below w.heap.size w w2) := HB1.out.trans (hb2.mono HB1.out.size)
  have Hsz : Hid (rs.toArray.size = 32) := Hrs.out.size
  have Hone : Hid (rs.toArray.all (·.oneCell') = true) := Hrs.out.one
  clear hb2 HN1 HB1 HA1
  go_wp2_with (refine wpList_store_row rfl 28 (.tmp 4) (.tmp 8) rfl w.heap.size rs.toArray rfl rfl 28 _ HN2.out (by rw [Hsz.out]; kernel_rfl) (by rw [Hsz.out]; rfl) Hone.out ?_)
  have hlast := HN2.out.whole rs
  have hinfo : (Tryd.prog.info? 28).map (·.size) = some rs.toArray.size := by rw [Hsz.out]; kernel_rfl
  refine bodyPost_ret (v := .agg rs.toArray) (results_cell_row rfl _ _ w.heap.size 28 rs.toArray (0, 0) _ rfl hlast Tryd.underlying28 rfl hinfo) rfl ?_
  exact ⟨rs, Hrs, rfl, below_setRow' HB2.out (Nat.le_refl _) _⟩
end Go.Proofs.YtcmledlghipcbaaDoor
