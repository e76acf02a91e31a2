/-
  PLAIN (no program): a cache's places, the hand, what each call does (chapter 10).
-/
import Derived.Test.YthcphabfeapjbaaDA
namespace Go.Proofs.Ythcphabfeapjbaa
namespace Ca
/-- What is at a place: the block (below 0: it is free), its bytes, its flag, its pins. -/
structure Ent where
  block : Int
  b : List UInt8
  flag : Bool
  pins : Nat
def Ent.free : Ent := ⟨-1, [], false, 0⟩
structure St where
  L : List Ent
  hands : List Nat
  gets : Nat
  hits : Nat
/-- The first place of a block, from a place on. -/
def atFrom (L : List Ent) (i : Int) : Nat → Option Nat
  | 0 => none
  | n + 1 => if (L.getD (L.length - (n + 1)) Ent.free).block = i then some (L.length - (n + 1)) else atFrom L i n
def find (L : List Ent) (i : Int) : Option Nat := if 0 ≤ i then atFrom L i L.length else none
/-- The first free place of so many, from a place on. -/
def freeFrom (L : List Ent) : Nat → Nat → Option Nat
  | _, 0 => none
  | k, n + 1 => if (L.getD k Ent.free).block < 0 then some k else freeFrom L (k + 1) n
/-- The hand goes on, at most so many steps. -/
def sweep (lo room : Nat) : Nat → List Ent → Nat → List Ent × Nat × Option Nat
  | 0, L, h => (L, h, none)
  | n + 1, L, h =>
    let e := L.getD (lo + h) Ent.free
    let h' := (h + 1) % room
    if 0 < e.pins then sweep lo room n L h'
    else if e.flag = false then (L, h', some (lo + h))
    else sweep lo room n (L.set (lo + h) { e with flag := false }) h'
/-- A place for a new entry of a shard. -/
def place (room : Nat) (s : St) (sh : Nat) : St × Option Nat :=
  match freeFrom s.L (sh * room) room with
  | some k => (s, some k)
  | none =>
    let r := sweep (sh * room) room (2 * room) s.L (s.hands.getD sh 0)
    ({ s with L := r.1, hands := s.hands.set sh r.2.1 }, r.2.2)
def put (shards room : Nat) (s : St) (i : Int) (b : List UInt8) : St × Bool :=
  if i < 0 then (s, false) else
  match find s.L i with
  | some k => ({ s with L := s.L.set k { s.L.getD k Ent.free with b := b, flag := true } }, true)
  | none =>
    let r := place room s (i.toNat % shards)
    match r.2 with
    | some k => ({ r.1 with L := r.1.L.set k ⟨i, b, true, 0⟩ }, true)
    | none => (r.1, false)
def getC (s : St) (i : Int) : St × List UInt8 × Bool :=
  match find s.L i with
  | some k => ({ s with L := s.L.set k { s.L.getD k Ent.free with flag := true }, gets := s.gets + 1, hits := s.hits + 1 }, (s.L.getD k Ent.free).b, true)
  | none => ({ s with gets := s.gets + 1 }, [], false)
def pin (s : St) (i : Int) : St × Bool :=
  match find s.L i with
  | some k => ({ s with L := s.L.set k { s.L.getD k Ent.free with pins := (s.L.getD k Ent.free).pins + 1 } }, true)
  | none => (s, false)
def unpin (s : St) (i : Int) : St × Bool :=
  match find s.L i with
  | some k => if (s.L.getD k Ent.free).pins = 0 then (s, false) else ({ s with L := s.L.set k { s.L.getD k Ent.free with pins := (s.L.getD k Ent.free).pins - 1 } }, true)
  | none => (s, false)
def drop (s : St) (i : Int) : St × Bool :=
  match find s.L i with
  | some k => if 0 < (s.L.getD k Ent.free).pins then (s, false) else ({ s with L := s.L.set k Ent.free }, true)
  | none => (s, false)
/-- A number laid into a row before the first that is not less. -/
def ins (x : Int) : List Int → List Int
  | [] => [x]
  | y :: r => if y < x then y :: ins x r else x :: y :: r
def hasL (L : List Ent) : List Int := L.foldl (fun out e => if e.block < 0 then out else ins e.block out) []
def new (shards room : Nat) : St := ⟨List.replicate (shards * room) Ent.free, List.replicate shards 0, 0, 0⟩

theorem atFrom_spec (L : List Ent) (i : Int) : ∀ n, n ≤ L.length → ∀ k, atFrom L i n = some k → L.length - n ≤ k ∧ k < L.length ∧ (L.getD k Ent.free).block = i
  | 0, _, k, h => by simp [atFrom] at h
  | n + 1, hn, k, h => by
    rw [atFrom] at h
    split at h
    · rename_i e
      injection h with h
      subst h
      exact ⟨Nat.le_refl _, by omega, e⟩
    · obtain ⟨a, b, c⟩ := atFrom_spec L i n (by omega) k h
      exact ⟨by omega, b, c⟩
theorem atFrom_none (L : List Ent) (i : Int) : ∀ n, n ≤ L.length → atFrom L i n = none → ∀ k, L.length - n ≤ k → k < L.length → (L.getD k Ent.free).block ≠ i
  | 0, _, _, k, h1, h2 => by omega
  | n + 1, hn, h, k, h1, h2 => by
    rw [atFrom] at h
    split at h
    · cases h
    · rename_i e
      by_cases hk : k = L.length - (n + 1)
      · subst hk; exact e
      · exact atFrom_none L i n (by omega) h k (by omega) h2
theorem find_some {L : List Ent} {i : Int} {k : Nat} (h : find L i = some k) : 0 ≤ i ∧ k < L.length ∧ (L.getD k Ent.free).block = i := by
  unfold find at h
  split at h
  · rename_i hi
    obtain ⟨_, b, c⟩ := atFrom_spec L i _ (Nat.le_refl _) k h
    exact ⟨hi, b, c⟩
  · cases h
theorem find_none {L : List Ent} {i : Int} (h : find L i = none) : i < 0 ∨ ∀ k, k < L.length → (L.getD k Ent.free).block ≠ i := by
  unfold find at h
  split at h
  · exact .inr fun k hk => atFrom_none L i _ (Nat.le_refl _) h k (by omega) hk
  · exact .inl (by omega)
end Ca
end Go.Proofs.Ythcphabfeapjbaa
