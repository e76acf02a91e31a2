/-
  PLAIN (no program): names, entries, their bytes.
-/
import Derived.Test.YtaamhdgngnpmoaaO
namespace Go.Proofs.Ytaamhdgngnpmoaa
namespace Dir

/-- An entry: its name, its number. -/
structure En where
  n : List UInt8
  k : Int
deriving DecidableEq
/-- May a name be? The error's number. -/
def nameE (s : List UInt8) : Int := if s = [] ∨ s = [46] ∨ s = [46, 46] ∨ s.any (fun c => c == 0 || c == 47) = true then 1 else if 14 < s.length then 8 else 0
theorem nameE_ok {s : List UInt8} (h : nameE s = 0) : 1 ≤ s.length ∧ s.length ≤ 14 := by
  unfold nameE at h
  split at h
  · cases h
  · next h1 =>
    split at h
    · cases h
    · refine ⟨?_, by omega⟩
      rcases s with _ | ⟨c, s⟩
      · exact absurd (.inl rfl) h1
      · simp
def okE (e : En) : Bool := decide (nameE e.n = 0) && decide (1 ≤ e.k) && decide (e.k ≤ 31)
theorem okE_iff {e : En} : okE e = true ↔ nameE e.n = 0 ∧ 1 ≤ e.k ∧ e.k ≤ 31 := by simp [okE, and_assoc]
def unlike (e f : En) : Bool := !decide (e.n = f.n) && !decide (e.k = f.k)
/-- Are the first m entries fine? -/
def fineN (l : List En) (m : Nat) : Bool := (List.range m).all fun i => okE (l.getD i ⟨[], 0⟩) && (List.range i).all fun j => unlike (l.getD j ⟨[], 0⟩) (l.getD i ⟨[], 0⟩)
def fine (l : List En) : Bool := fineN l l.length
theorem fineN_succ (l : List En) (m : Nat) : fineN l (m + 1) = (fineN l m && (okE (l.getD m ⟨[], 0⟩) && (List.range m).all fun j => unlike (l.getD j ⟨[], 0⟩) (l.getD m ⟨[], 0⟩))) := by
  unfold fineN
  rw [List.range_succ, List.all_append]
  simp
theorem fine_at {l : List En} (h : fine l = true) (i : Nat) (hi : i < l.length) : okE (l.getD i ⟨[], 0⟩) = true ∧ ∀ j, j < i → unlike (l.getD j ⟨[], 0⟩) (l.getD i ⟨[], 0⟩) = true := by
  unfold fine fineN at h
  rw [List.all_eq_true] at h
  have := h i (List.mem_range.2 hi)
  rw [Bool.and_eq_true, List.all_eq_true] at this
  exact ⟨this.1, fun j hj => this.2 j (List.mem_range.2 hj)⟩
theorem fineN_le {l : List En} {m n : Nat} (h : fineN l n = true) (hm : m ≤ n) : fineN l m = true := by
  unfold fineN at *
  rw [List.all_eq_true] at *
  exact fun i hi => h i (List.mem_range.2 (Nat.lt_of_lt_of_le (List.mem_range.1 hi) hm))
theorem fine_mem {l : List En} (h : fine l = true) {e : En} (he : e ∈ l) : okE e = true := by
  obtain ⟨i, hi, rfl⟩ := List.getElem_of_mem he
  have := (fine_at h i hi).1
  rwa [List.getD_eq_getElem?_getD, List.getElem?_eq_getElem hi] at this

/-- An entry's bytes. -/
def encE (e : En) : List UInt8 := UInt8.ofNat e.k.toNat :: UInt8.ofNat e.n.length :: (e.n ++ List.replicate (14 - e.n.length) 0)
theorem encE_length {e : En} (h : e.n.length ≤ 14) : (encE e).length = 16 := by simp [encE]; omega
def encL (l : List En) : List UInt8 := l.flatMap encE
theorem encL_snoc (l : List En) (e : En) : encL (l ++ [e]) = encL l ++ encE e := by simp [encL]
theorem encL_length {l : List En} (h : ∀ e ∈ l, e.n.length ≤ 14) : (encL l).length = 16 * l.length := by
  induction l with
  | nil => rfl
  | cons e l ih =>
    rw [encL, List.flatMap_cons, List.length_append, encE_length (h e (by simp)), List.length_cons]
    have := ih (fun x hx => h x (by simp [hx]))
    rw [encL] at this
    omega
/-- The entry at the beginning of bytes. -/
def decE (c : List UInt8) : En := ⟨(c.drop 2).take (c.getD 1 0).toNat, ((c.getD 0 0).toNat : Int)⟩
theorem dec_enc {e : En} (h : okE e = true) (t : List UInt8) : decE (encE e ++ t) = e := by
  obtain ⟨h1, h2, h3⟩ := okE_iff.1 h
  have hl := nameE_ok h1
  obtain ⟨n, k⟩ := e
  simp only at *
  have e1 : (UInt8.ofNat n.length).toNat = n.length := by rw [UInt8.toNat_ofNat']; omega
  have e2 : (UInt8.ofNat k.toNat).toNat = k.toNat := by rw [UInt8.toNat_ofNat']; omega
  unfold decE encE
  simp only [List.cons_append, List.getD_cons_zero, List.getD_cons_succ, List.drop_succ_cons, List.drop_zero, List.append_assoc]
  rw [e1, e2, List.take_left' rfl]
  congr 1
  omega
/-- Bytes as entries. -/
def ents (b : List UInt8) : List En := (List.range (b.length / 16)).map fun i => decE (b.drop (16 * i))
theorem ents_length (b : List UInt8) : (ents b).length = b.length / 16 := by simp [ents]
def entsN (b : List UInt8) (m : Nat) : List En := (List.range m).map fun i => decE (b.drop (16 * i))
theorem entsN_succ (b : List UInt8) (m : Nat) : entsN b (m + 1) = entsN b m ++ [decE (b.drop (16 * m))] := by
  rw [entsN, List.range_succ, List.map_append]; rfl
/-- Are these the bytes of entries? -/
def okG (b : List UInt8) : Bool := decide (b.length % 16 = 0) && ((List.range (b.length / 16)).all fun i => decide ((b.getD (16 * i + 1) 0).toNat ≤ 14)) && fine (ents b) && decide (encL (ents b) = b)
def getL (b : List UInt8) : List En := if okG b then ents b else []
theorem okG_iff {b : List UInt8} : okG b = true ↔ b.length % 16 = 0 ∧ (∀ i, i < b.length / 16 → (b.getD (16 * i + 1) 0).toNat ≤ 14) ∧ fine (ents b) = true ∧ encL (ents b) = b := by
  simp only [okG, Bool.and_eq_true, decide_eq_true_eq, List.all_eq_true, List.mem_range, and_assoc]
theorem enc_drop {l : List En} (h : ∀ e ∈ l, e.n.length ≤ 14) : ∀ i, i ≤ l.length → (encL l).drop (16 * i) = encL (l.drop i) := by
  induction l with
  | nil => intro i hi; simp at hi; subst hi; rfl
  | cons e l ih =>
    intro i hi
    cases i with
    | zero => rfl
    | succ i =>
      have h16 := encE_length (h e (by simp))
      rw [List.drop_succ_cons, ← ih (fun x hx => h x (by simp [hx])) i (by simpa using hi), encL, List.flatMap_cons, show 16 * (i + 1) = (encE e).length + 16 * i by omega, ← List.drop_drop, List.drop_left' rfl]
      rfl
theorem ents_enc {l : List En} (h : fine l = true) : ents (encL l) = l := by
  have h14 : ∀ e ∈ l, e.n.length ≤ 14 := fun e he => (nameE_ok (okE_iff.1 (fine_mem h he)).1).2
  apply List.ext_getElem?
  intro i
  unfold ents
  rw [encL_length h14, show 16 * l.length / 16 = l.length by omega, List.getElem?_map]
  rcases Nat.lt_or_ge i l.length with hi | hi
  · rw [List.getElem?_range hi, Option.map_some, enc_drop h14 i (by omega), List.drop_eq_getElem_cons hi, encL, List.flatMap_cons, dec_enc (fine_mem h (List.getElem_mem _)), List.getElem?_eq_getElem hi]
  · rw [List.getElem?_eq_none (by simpa using hi), List.getElem?_eq_none hi]; rfl
theorem back_put {l : List En} (h : fine l = true) : okG (encL l) = true ∧ getL (encL l) = l := by
  have h14 : ∀ e ∈ l, e.n.length ≤ 14 := fun e he => (nameE_ok (okE_iff.1 (fine_mem h he)).1).2
  have hg : okG (encL l) = true := by
    refine okG_iff.2 ⟨by rw [encL_length h14]; omega, fun i hi => ?_, by rw [ents_enc h]; exact h, by rw [ents_enc h]⟩
    rw [encL_length h14, show 16 * l.length / 16 = l.length by omega] at hi
    have e1 : (encL l).getD (16 * i + 1) 0 = ((encL l).drop (16 * i)).getD 1 0 := by
      rw [List.getD_eq_getElem?_getD, List.getD_eq_getElem?_getD, List.getElem?_drop]
    have hl := h14 l[i] (List.getElem_mem _)
    rw [e1, enc_drop h14 i (by omega), List.drop_eq_getElem_cons hi, encL, List.flatMap_cons]
    simp only [encE, List.cons_append, List.getD_cons_succ, List.getD_cons_zero]
    rw [UInt8.toNat_ofNat']
    omega
  exact ⟨hg, by rw [getL, if_pos hg, ents_enc h]⟩
theorem back_get {b : List UInt8} (h : okG b = true) : fine (getL b) = true ∧ encL (getL b) = b := by
  obtain ⟨_, _, h3, h4⟩ := okG_iff.1 h
  rw [getL, if_pos h]
  exact ⟨h3, h4⟩

/-- The first entry of a name, or -1. -/
def findE (s : List UInt8) : List En → Int
  | [] => -1
  | e :: l => if e.n = s then 0 else if findE s l < 0 then -1 else findE s l + 1
/-- Entries without one. -/
def dropE (l : List En) (i : Int) : List En := if 0 ≤ i ∧ i < l.length then (l.set i.toNat (l.getD (l.length - 1) ⟨[], 0⟩)).take (l.length - 1) else l
/-- Is x no later than y? -/
def leB (x y : List UInt8) : Bool := Op.bytesLess x y || x == y
/-- A name put where it stands. -/
def insN (out : List (List UInt8)) (s : List UInt8) : List (List UInt8) := out.takeWhile (fun x => leB x s) ++ s :: out.dropWhile (fun x => leB x s)
/-- All names, in order. -/
def namesL (l : List En) : List (List UInt8) := (l.map (fun e => e.n)).foldl insN []
theorem namesL_snoc (l : List En) (e : En) : namesL (l ++ [e]) = insN (namesL l) e.n := by simp [namesL]
theorem namesL_length (l : List En) : (namesL l).length = l.length := by
  have key : ∀ (ss : List (List UInt8)) (a : List (List UInt8)), (ss.foldl insN a).length = a.length + ss.length := by
    intro ss
    induction ss with
    | nil => intro a; simp
    | cons s r ih =>
      intro a
      rw [List.foldl_cons, ih]
      have : (insN a s).length = a.length + 1 := by
        unfold insN
        have h := congrArg List.length (List.takeWhile_append_dropWhile (p := fun x => leB x s) (l := a))
        rw [List.length_append] at h
        rw [List.length_append, List.length_cons]
        omega
      rw [this, List.length_cons]
      omega
  have := key (l.map (fun e => e.n)) []
  simpa [namesL] using this
end Dir
end Go.Proofs.Ytaamhdgngnpmoaa
