/-
  DERIVED. GIVEN WITH THE SEED: THE CARDS: each row of YtnlbhbacedbdoaaDoorRows.lean that lists a variable, with what it lists TIED to the program's text (the seventh form; the later family's looks); each row that meets fmt, with fmt's text TOLD by the authors' own Lean function (tested against real Go, not proved from fmt's source: count such statements apart). THE CARD IS WHAT COUNTS. Prove the row's statement (the work); the ties are given (YtnlbhbacedbdoaaDoorTie.lean); close each card by the builder's one call (the guide's Derived/Test/ToyasCard.lean, 'card_holds'). Laid BY PROGRAM, IN A SANDBOX (cutbox-door.mjs). By AI agents, Wed Nov 11 2026. No macro, syntax, notation, axiom, sorry.
-/
import Derived.Test.YtnlbhbacedbdoaaDoorRows
import GoSem.ClaimSeven
namespace Go.Proofs.YtnlbhbacedbdoaaDoor
namespace Rows

/-- THE TIED CARD OF 'padlocklaw08.MerkleRoots'. -/
def merkleRootsCard : Claim7 := { stood := { row := merkleRootsRow, standIns := [], harness := (true, "af09ef9439897e42735d2b8a19d48491bbdec568cb68ca63c75a1da4488fb200"), looks := false }, kinds := [], alts := [], laidByText := true, laidKinds := [.data], laidTests := true, laidLooks := .later }
def MerkleRootsCardSaid : Prop := Claim7.holds Tryd.pinned (.plain (OpenSpec.ofChange merkleRootsSpec)) merkleRootsCard

/-- THE TIED CARD OF 'padlocklaw08.MerkleChecks'. -/
def merkleChecksCard : Claim7 := { stood := { row := merkleChecksRow, standIns := [], harness := (true, "af09ef9439897e42735d2b8a19d48491bbdec568cb68ca63c75a1da4488fb200"), looks := false }, kinds := [], alts := [], laidByText := true, laidKinds := [.data], laidTests := true, laidLooks := .later }
def MerkleChecksCardSaid : Prop := Claim7.holds Tryd.pinned (.plain (OpenSpec.ofChange merkleChecksSpec)) merkleChecksCard

/-- THE TIED CARD OF 'padlocklaw08.MerkleWays'. -/
def merkleWaysCard : Claim7 := { stood := { row := merkleWaysRow, standIns := [], harness := (true, "af09ef9439897e42735d2b8a19d48491bbdec568cb68ca63c75a1da4488fb200"), looks := false }, kinds := [], alts := [], laidByText := true, laidKinds := [.data], laidTests := true, laidLooks := .later }
def MerkleWaysCardSaid : Prop := Claim7.holds Tryd.pinned (.plain (OpenSpec.ofChange merkleWaysSpec)) merkleWaysCard

/-- THE SECOND FORM's CARD OF 'padlocklaw08.MerkleRoots'. -/
def merkleRootsUptoCard : Claim7 := { stood := { row := merkleRootsUptoRow, standIns := [], harness := (true, "af09ef9439897e42735d2b8a19d48491bbdec568cb68ca63c75a1da4488fb200"), looks := false }, kinds := [], alts := [], laidByText := true, laidKinds := [.data], laidTests := true, laidLooks := .later }
def MerkleRootsUptoCardSaid : Prop := Claim7.holds Tryd.pinned (.plain (OpenSpec.upto merkleRootsSpec)) merkleRootsUptoCard

/-- THE SECOND FORM's CARD OF 'padlocklaw08.MerkleChecks'. -/
def merkleChecksUptoCard : Claim7 := { stood := { row := merkleChecksUptoRow, standIns := [], harness := (true, "af09ef9439897e42735d2b8a19d48491bbdec568cb68ca63c75a1da4488fb200"), looks := false }, kinds := [], alts := [], laidByText := true, laidKinds := [.data], laidTests := true, laidLooks := .later }
def MerkleChecksUptoCardSaid : Prop := Claim7.holds Tryd.pinned (.plain (OpenSpec.upto merkleChecksSpec)) merkleChecksUptoCard

/-- THE SECOND FORM's CARD OF 'padlocklaw08.MerkleWays'. -/
def merkleWaysUptoCard : Claim7 := { stood := { row := merkleWaysUptoRow, standIns := [], harness := (true, "af09ef9439897e42735d2b8a19d48491bbdec568cb68ca63c75a1da4488fb200"), looks := false }, kinds := [], alts := [], laidByText := true, laidKinds := [.data], laidTests := true, laidLooks := .later }
def MerkleWaysUptoCardSaid : Prop := Claim7.holds Tryd.pinned (.plain (OpenSpec.upto merkleWaysSpec)) merkleWaysUptoCard
end Rows
end Go.Proofs.YtnlbhbacedbdoaaDoor
