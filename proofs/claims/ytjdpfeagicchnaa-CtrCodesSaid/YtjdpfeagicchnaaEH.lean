/-
  THE WALK of newSubstitution: the table of the substitution.
-/
import Derived.Test.YtjdpfeagicchnaaED
namespace Go.Proofs.Ytjdpfeagicchnaa
open Go.RowKit Aes

def Z256 : List Value := List.replicate 256 (.int .u8 0)
theorem Z256_eq : Z256 = (List.replicate 256 (0 : UInt8)).map V8 := by unfold Z256; rw [List.map_replicate]; rfl
theorem zero256 (w : World) : (zeroValue 51).run Try.prog w = .ok (.agg Z256.toArray) w := by kernel_rfl
theorem zeroSub (w : World) : (zeroValue 52).run Try.prog w = .ok (.agg Z256.toArray) w := by kernel_rfl

/-- The powers of 3, and the table, under plain names. -/
def pwK (k : Nat) : UInt8 := pw k
def pows (k : Nat) : List UInt8 := (List.range k).map pw
def tabK (k : Nat) : List UInt8 := tab k
theorem pwK_zero : pwK 0 = 1 := rfl
theorem pwK_succ (k : Nat) : pwK (k + 1) = tpl (pwK k) := rfl
theorem pows_length (k : Nat) : (pows k).length = k := by simp [pows]
theorem pows_succ (k : Nat) : pows (k + 1) = pows k ++ [pwK k] := by simp [pows, List.range_succ]; rfl
theorem pows_at (j : Nat) (h : j < 256) : (pows 256).getD j 0 = pwK j := by simp [pows, List.getD_eq_getElem?_getD, h]; rfl
theorem tabK_zero : tabK 0 = (List.replicate 256 0).set 0 (spr 0) := rfl
theorem tabK_succ (k : Nat) : tabK (k + 1) = (tabK k).set (pwK k).toNat (spr (pwK (255 - k))) := rfl
theorem tabK_all : tabK 256 = SBL := tab_eq
theorem tabK_length (k : Nat) : (tabK k).length = 256 := tab_length k
theorem pad_pows (k : Nat) (h : k < 256) : (pad8 256 (pows k)).set k (pwK k) = pad8 256 (pows (k + 1)) := by
  have := pad8_set 256 (pows k) (pwK k) (by rw [pows_length]; exact h)
  rw [pows_length] at this
  rw [this, pows_succ]

theorem spread_zero (w : World) : Calls Try.prog 30 #[.int .u8 0] w fun e w' => e = .returned (.int .u8 (spr 0).toNat) ∧ w = w' := spread_any 0 w

set_option maxRecDepth 100000 in
set_option maxHeartbeats 1000000 in
theorem newSub_any (w : World) :
    Calls Try.prog 21 #[] w fun e w' => ∃ ts : List Value, Hid (Vec 256 SBL ts) ∧ e = .returned (.agg ts.toArray) ∧ Below w.heap.size w w' := by
  have hz := zero256
  have hz2 := zeroSub
  go_enter Try.func21, Try.ntmps21
  go_wp2
  clear hz
  go_loopw [2, 3, 7] (fun p _ i wr => ∃ (k : Nat) (x : UInt8), k ≤ 256 ∧ i = .int .i64 k ∧ p = .int .u8 x.toNat ∧ Hid (x = pwK k) ∧ Row wr w.heap.size 52 Z256 ∧ Row wr (w.heap.size + 1) 51 ((pad8 256 (pows k)).map V8) ∧ Below w.heap.size w wr) (fun _ _ i _ => 256 - (intOf i).toNat)
  case atStart =>
    refine ⟨0, 1, by omega, rfl, rfl, pwK_zero.symm, (Row.new w 52 Z256).alloc _, ?_, ((Below.refl _ _).alloc (Nat.le_refl _) _).alloc (by simp) _⟩
    have e : (pad8 256 (pows 0)).map V8 = Z256 := by rw [Z256_eq]; rfl
    rw [e]
    exact Row.newAt _ Z256 (by simp)
  case round =>
    obtain ⟨k, x, hk, rfl, rfl, Hx, hr0, hrow, hbel⟩ := hrel
    by_cases hlt : k < 256
    · have hc := cell8 hrow k hlt
      have hf : wr.frozen? ⟨w.heap.size + 1, k, none⟩ = false := hrow.free k
      generalize (pows k).getD k 0 = y at *
      have HP := Lib.hid (pad_pows k hlt)
      rw [← Hx.out] at HP
      have HP2 := Lib.hid (pwK_succ k)
      rw [← Hx.out] at HP2
      have Hrow := Lib.hid hrow
      clear hrow hz2
      go_wp2_with (go_at_call 29; refine (triple_any _ _).mono ?_; rintro e w' ⟨rfl, rfl⟩)
      go_roundw
      case rel =>
        refine ⟨k + 1, _, by omega, by go_num, rfl, HP2.out.symm, hr0.apart (by show w.heap.size ≠ w.heap.size + 1; omega) _, ?_, hbel.setCell (by show w.heap.size ≤ w.heap.size + 1; omega) _⟩
        rw [← HP.out, List.map_set]
        exact Hrow.out.set k _
      case measure => simp [intOf]; omega
    · obtain rfl : k = 256 := by omega
      rw [show ((256 : Nat) : Int) = 256 from rfl]
      have hfull : pad8 256 (pows 256) = pows 256 := by have := pad8_full (pows 256); rwa [pows_length] at this
      rw [hfull] at hrow
      clear hfull
      obtain ⟨ps, hps⟩ : ∃ ps : List Value, ps = (pows 256).map V8 := ⟨_, rfl⟩
      have HPS : Hid (Vec 256 (pows 256) ps) := ⟨hps, pows_length 256⟩
      rw [← hps] at hrow
      clear hps
      have Hpz : Hid (ps.toArray.size = 256) := HPS.out.size
      have hsz : w.heap.size + 1 < wr.heap.size := hrow.lt
      go_wp2_with fail
      refine (spread_zero _).mono ?_
      rintro e w' ⟨rfl, rfl⟩
      clear hz2
      obtain ⟨S, hS⟩ : ∃ S, S = wr.heap.size := ⟨_, rfl⟩
      rw [← hS]
      have hr0' : Row (wr.alloc (.cells Z256.toArray 52)) w.heap.size 52 Z256 := hr0.alloc _
      have hrow' : Row (wr.alloc (.cells Z256.toArray 52)) (w.heap.size + 1) 51 ps := hrow.alloc _
      have hrs : Row (wr.alloc (.cells Z256.toArray 52)) S 52 Z256 := Row.newAt _ Z256 hS.symm
      have hbel' : Below w.heap.size w (wr.alloc (.cells Z256.toArray 52)) := hbel.alloc (by omega) _
      have hSl : w.heap.size + 1 < S := by omega
      clear hr0 hrow hbel hsz hS
      generalize wr.alloc (.cells Z256.toArray 52) = w2 at *
      have hc0 : w2.cell? ⟨S, 0, none⟩ = some (.int .u8 0) := (hrs.cell 0).trans rfl
      have hf0 : w2.frozen? ⟨S, 0, none⟩ = false := hrs.free 0
      have HR1 : Hid (Row (w2.setCell ⟨S, 0, none⟩ (.int .u8 (spr 0).toNat)) (w.heap.size + 1) 51 ps) := hrow'.apart (by show w.heap.size + 1 ≠ S; omega) _
      have HR2 : Hid (Row (w2.setCell ⟨S, 0, none⟩ (.int .u8 (spr 0).toNat)) S 52 ((tabK 0).map V8)) := by
        rw [tabK_zero, List.map_set, ← Z256_eq]
        exact hrs.set 0 _
      have HR0 : Hid (Row (w2.setCell ⟨S, 0, none⟩ (.int .u8 (spr 0).toNat)) w.heap.size 52 Z256) := hr0'.apart (by show w.heap.size ≠ S; omega) _
      have HB0 : Hid (Below w.heap.size w (w2.setCell ⟨S, 0, none⟩ (.int .u8 (spr 0).toNat))) := hbel'.setCell (by show w.heap.size ≤ S; omega) _
      clear hr0' hrow' hrs hbel'
      go_wp2_with (refine wpList_load_row rfl 51 (.tmp 1) rfl (w.heap.size + 1) rfl 51 ps.toArray (0, 0) _ HR1.out Try.underlying51 rfl (by rw [Hpz.out]; kernel_rfl) ?_)
      clear hc0 hf0
      go_loopw [5, 6, 19] (fun _ _ i wr => ∃ k : Nat, k ≤ 256 ∧ i = .int .i64 k ∧ Row wr w.heap.size 52 Z256 ∧ Row wr (w.heap.size + 1) 51 ps ∧ Row wr S 52 ((tabK k).map V8) ∧ Below w.heap.size w wr) (fun _ _ i _ => 256 - (intOf i).toNat)
      case atStart => exact ⟨0, by omega, rfl, HR0.out, HR1.out, HR2.out, HB0.out⟩
      case round =>
        clear HR0 HR1 HR2 HB0
        obtain ⟨k, hk, rfl, hr0, hrow, hrs, hbel⟩ := hrel
        by_cases hlt : k < 256
        · have hix := run_index8 51 256 Try.underlying51 ps k hlt _ (HPS.out.at_ k hlt)
          have hc : wr.cell? ⟨w.heap.size + 1, 255 - k, none⟩ = some (.int .u8 ((pows 256).getD (255 - k) 0).toNat) := row8 (HPS.out.row hrow) _ (by rw [pows_length]; omega)
          rw [pows_at k hlt] at hix
          rw [pows_at (255 - k) (by omega)] at hc
          have HT := Lib.hid (tabK_succ k)
          generalize pwK k = x at *
          generalize pwK (255 - k) = y at *
          have hx := lt8 x
          have hcs : wr.cell? ⟨S, x.toNat, none⟩ = some (.int .u8 ((tabK k).getD x.toNat 0).toNat) := row8 hrs _ (by rw [tabK_length]; exact hx)
          have hf : wr.frozen? ⟨S, x.toNat, none⟩ = false := hrs.free _
          generalize (tabK k).getD x.toNat 0 = z at *
          have Hrs := Lib.hid hrs
          clear hrs
          go_wp2_with (go_at_call 30; refine (spread_any _ _).mono ?_; rintro e w' ⟨rfl, rfl⟩)
          go_roundw
          case rel =>
            refine ⟨k + 1, by omega, by go_num, hr0.apart (by show w.heap.size ≠ S; omega) _, hrow.apart (by show w.heap.size + 1 ≠ S; omega) _, ?_, hbel.setCell (by show w.heap.size ≤ S; omega) _⟩
            rw [HT.out, List.map_set]
            exact Hrs.out.set _ _
          case measure => simp [intOf]; omega
        · obtain rfl : k = 256 := by omega
          rw [show ((256 : Nat) : Int) = 256 from rfl]
          rw [tabK_all] at hrs
          obtain ⟨ts, hts⟩ : ∃ ts : List Value, ts = SBL.map V8 := ⟨_, rfl⟩
          rw [← hts] at hrs
          have Hts : Hid (Vec 256 SBL ts) := ⟨hts, SBL_length⟩
          have Htz : Hid (ts.toArray.size = 256) := Hts.out.size
          have Hone : Hid (ts.toArray.all (·.oneCell') = true) := Hts.out.one
          clear hts
          go_wp2_with (first
            | (refine wpList_load_row rfl 52 (.tmp 4) rfl S rfl 52 ts.toArray (0, 0) _ hrs Try.underlying52 rfl (by rw [Htz.out]; kernel_rfl) ?_)
            | (refine wpList_store_row rfl 52 (.tmp 0) (.tmp 31) rfl w.heap.size ts.toArray rfl rfl 52 _ hr0 (by rw [Htz.out]; kernel_rfl) (by rw [Htz.out]; rfl) Hone.out ?_))
          have hlast := hr0.whole ts
          have hinfo : (Try.prog.info? 52).map (·.size) = some ts.toArray.size := by rw [Htz.out]; kernel_rfl
          refine bodyPost_ret (v := .agg ts.toArray) (results_cell_row rfl _ _ w.heap.size 52 ts.toArray (0, 0) _ rfl hlast Try.underlying52 rfl hinfo) rfl ?_
          exact ⟨ts, Hts, rfl, below_setRow' hbel (Nat.le_refl _) _⟩
end Go.Proofs.Ytjdpfeagicchnaa
