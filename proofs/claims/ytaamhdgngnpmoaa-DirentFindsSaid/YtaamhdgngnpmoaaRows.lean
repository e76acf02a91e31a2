/-
  No cell of these rows narrows 'for every input' (looked for: loops, veiled, ifaces, maps, wideKeys, modest, calm, conditions, laid).
  DERIVED. THE GIVEN ROWS OF THIS SEAT. 3 by the template 'for every input the law returns true; each argument reads behind the call as it read before'; 0 by the template 'total and deterministic' (their statements: YtaamhdgngnpmoaaTotals.lean).
  GIVEN WITH THE SEED: the statements are not yours to turn. If you find one false, say at which input.
  Laid BY PROGRAM, IN A SANDBOX (cutbox-rows.mjs): the forced cells as the released guide's own fill.sh prints them over the translation 6202c20a37cb897e… (all of the seat's roots in one cut). By AI agents, Wed Nov 11 2026. No macro, syntax, notation, axiom, sorry.
-/
import Derived.Test.YtaamhdgngnpmoaaChecked
import GoSem.Claim
import GoSem.ClaimJoined
import GoSem.ClaimMapViews
import Derived.JoinedTies
import Derived.KernelRfl
namespace Go.Proofs.Ytaamhdgngnpmoaa
/- THE CELL 'sum', in the pinned program and in every row, IS THE sha256 OF THE DUMP (.gsa) THAT YtaamhdgngnpmoaaProg.lean LOADS. Nothing in Lean hashes anything: it is a label: what it is worth is what the hold of that sum in a sandbox is worth. -/
noncomputable def Try.pinned : Pinned := { name := "ytaamhdgngnpmoaa", sum := "6202c20a37cb897e5d16a3f864491c5b3eef32301f16cfabc96e7e7f9a9fd592", checked := Try.checked }
namespace Rows
def none {H : Type} : Left H := { results := [], args := [] }

/-- 'padlocklaw15.DirentEntries': WHATEVER THE INPUT: true; the input reads as it did. -/
def direntEntriesSpec : ChangeSpec := { name := "direntEntries", fn := fun _ => fun
  | [d1, d2, d3] => { results := [.lit (.bool true)], args := [d1, d2, d3] }
  | _ => none }
def direntEntriesRow : OpenClaim := { program := "ytaamhdgngnpmoaa", sum := "6202c20a37cb897e5d16a3f864491c5b3eef32301f16cfabc96e7e7f9a9fd592", func := "padlock/padlocklaw15.DirentEntries", spec := "direntEntries", inPlace := ["internal/bytealg.IndexByteString", "internal/bytealg.IndexString"], unfollowed := true, recurses := true, named := ["internal/bytealg.MaxLen"], apart := false }
def DirentEntriesSaid : Prop := direntEntriesRow.holds Try.pinned (OpenSpec.ofChange direntEntriesSpec)

/-- ITS FALSE NEIGHBOUR: 'it returns false'. Refute it at one input. -/
def direntEntriesWrong : ChangeSpec := { name := "direntEntries", fn := fun _ => fun
  | [d1, d2, d3] => { results := [.lit (.bool false)], args := [d1, d2, d3] }
  | _ => none }
def DirentEntriesWrongFalsely : Prop := direntEntriesRow.holds Try.pinned (OpenSpec.ofChange direntEntriesWrong)

/-- 'padlocklaw15.DirentBack': WHATEVER THE INPUT: true; the input reads as it did. -/
def direntBackSpec : ChangeSpec := { name := "direntBack", fn := fun _ => fun
  | [d1, d2] => { results := [.lit (.bool true)], args := [d1, d2] }
  | _ => none }
def direntBackRow : OpenClaim := { program := "ytaamhdgngnpmoaa", sum := "6202c20a37cb897e5d16a3f864491c5b3eef32301f16cfabc96e7e7f9a9fd592", func := "padlock/padlocklaw15.DirentBack", spec := "direntBack", inPlace := ["internal/bytealg.IndexByteString", "internal/bytealg.IndexString"], unfollowed := true, recurses := true, named := ["internal/bytealg.MaxLen"], apart := false }
def DirentBackSaid : Prop := direntBackRow.holds Try.pinned (OpenSpec.ofChange direntBackSpec)

/-- ITS FALSE NEIGHBOUR: 'it returns false'. Refute it at one input. -/
def direntBackWrong : ChangeSpec := { name := "direntBack", fn := fun _ => fun
  | [d1, d2] => { results := [.lit (.bool false)], args := [d1, d2] }
  | _ => none }
def DirentBackWrongFalsely : Prop := direntBackRow.holds Try.pinned (OpenSpec.ofChange direntBackWrong)

/-- 'padlocklaw15.DirentFinds': WHATEVER THE INPUT: true; the input reads as it did. -/
def direntFindsSpec : ChangeSpec := { name := "direntFinds", fn := fun _ => fun
  | [d1, d2, d3] => { results := [.lit (.bool true)], args := [d1, d2, d3] }
  | _ => none }
def direntFindsRow : OpenClaim := { program := "ytaamhdgngnpmoaa", sum := "6202c20a37cb897e5d16a3f864491c5b3eef32301f16cfabc96e7e7f9a9fd592", func := "padlock/padlocklaw15.DirentFinds", spec := "direntFinds", inPlace := ["internal/bytealg.IndexByteString", "internal/bytealg.IndexString"], unfollowed := true, recurses := true, named := ["internal/bytealg.MaxLen"], apart := false }
def DirentFindsSaid : Prop := direntFindsRow.holds Try.pinned (OpenSpec.ofChange direntFindsSpec)

/-- ITS FALSE NEIGHBOUR: 'it returns false'. Refute it at one input. -/
def direntFindsWrong : ChangeSpec := { name := "direntFinds", fn := fun _ => fun
  | [d1, d2, d3] => { results := [.lit (.bool false)], args := [d1, d2, d3] }
  | _ => none }
def DirentFindsWrongFalsely : Prop := direntFindsRow.holds Try.pinned (OpenSpec.ofChange direntFindsWrong)

/- THE SECOND FORM. 'bulk': how many values and letters a reading holds, each counted each time it is reached (what is shared counts as often as it is met; a slice's spare places count too). A statement '..UptoSaid' is the law's where the arguments, and the package variables that the reading takes, are together of bulk at most 1048576: NARROWER than '..Said'. Prove '..Said' where nothing that the law and all that it calls make is longer than what came in: it says more and counts as full. Else prove '..UptoSaid'. A law counts once. -/
mutual
def uptoBulk {H : Type} : DataW H → Nat
  | .lit (.string bytes) => bytes.length + 1
  | .lit _ => 1
  | .nil => 1
  | .ptr d => uptoBulk d + 1
  | .slice elems spare => uptoBulkAll elems + uptoBulkAll spare + 1
  | .agg parts => uptoBulkAll parts + 1
  | .iface _ d => uptoBulk d + 1
  | .map entries => uptoBulkEntries entries + 1
  | .held _ => 1
def uptoBulkAll {H : Type} : List (DataW H) → Nat
  | [] => 0
  | d :: r => uptoBulk d + uptoBulkAll r
def uptoBulkEntries {H : Type} : List (Lit × DataW H) → Nat
  | [] => 0
  | x :: r => uptoBulkEntry x + uptoBulkEntries r
def uptoBulkEntry {H : Type} : Lit × DataW H → Nat
  | (.string bytes, d) => bytes.length + uptoBulk d + 1
  | (_, d) => uptoBulk d + 1
 end
def uptoSmall : (H : Type) → List (DataW H) → Bool := fun _ ds => decide (uptoBulkAll ds ≤ 1048576)
def OpenSpec.upto (s : _root_.Go.ChangeSpec) : _root_.Go.OpenSpec := { _root_.Go.OpenSpec.ofChange s with cond := some uptoSmall }

/-- 'padlocklaw15.DirentEntries', WHERE WHAT IT READS IS OF BULK AT MOST 1048576: true; the input reads as it did. -/
def direntEntriesUptoRow : OpenClaim := { program := "ytaamhdgngnpmoaa", sum := "6202c20a37cb897e5d16a3f864491c5b3eef32301f16cfabc96e7e7f9a9fd592", func := "padlock/padlocklaw15.DirentEntries", spec := "direntEntries", inPlace := ["internal/bytealg.IndexByteString", "internal/bytealg.IndexString"], unfollowed := true, recurses := true, named := ["internal/bytealg.MaxLen"], apart := false, narrowed := true }
def DirentEntriesUptoSaid : Prop := direntEntriesUptoRow.holds Try.pinned (OpenSpec.upto direntEntriesSpec)

/-- 'padlocklaw15.DirentBack', WHERE WHAT IT READS IS OF BULK AT MOST 1048576: true; the input reads as it did. -/
def direntBackUptoRow : OpenClaim := { program := "ytaamhdgngnpmoaa", sum := "6202c20a37cb897e5d16a3f864491c5b3eef32301f16cfabc96e7e7f9a9fd592", func := "padlock/padlocklaw15.DirentBack", spec := "direntBack", inPlace := ["internal/bytealg.IndexByteString", "internal/bytealg.IndexString"], unfollowed := true, recurses := true, named := ["internal/bytealg.MaxLen"], apart := false, narrowed := true }
def DirentBackUptoSaid : Prop := direntBackUptoRow.holds Try.pinned (OpenSpec.upto direntBackSpec)

/-- 'padlocklaw15.DirentFinds', WHERE WHAT IT READS IS OF BULK AT MOST 1048576: true; the input reads as it did. -/
def direntFindsUptoRow : OpenClaim := { program := "ytaamhdgngnpmoaa", sum := "6202c20a37cb897e5d16a3f864491c5b3eef32301f16cfabc96e7e7f9a9fd592", func := "padlock/padlocklaw15.DirentFinds", spec := "direntFinds", inPlace := ["internal/bytealg.IndexByteString", "internal/bytealg.IndexString"], unfollowed := true, recurses := true, named := ["internal/bytealg.MaxLen"], apart := false, narrowed := true }
def DirentFindsUptoSaid : Prop := direntFindsUptoRow.holds Try.pinned (OpenSpec.upto direntFindsSpec)

end Rows
end Go.Proofs.Ytaamhdgngnpmoaa
