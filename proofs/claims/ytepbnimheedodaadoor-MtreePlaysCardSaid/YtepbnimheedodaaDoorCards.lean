/-
  DERIVED. GIVEN WITH THE SEED: THE CARDS: each row of YtepbnimheedodaaDoorRows.lean that lists a variable, with what it lists TIED to the program's text (the seventh form; the later family's looks); each row that meets fmt, with fmt's text TOLD by the authors' own Lean function (tested against real Go, not proved from fmt's source: count such statements apart). THE CARD IS WHAT COUNTS. Prove the row's statement (the work); the ties are given (YtepbnimheedodaaDoorTie.lean); close each card by the builder's one call (the guide's Derived/Test/ToyasCard.lean, 'card_holds'). Laid BY PROGRAM, IN A SANDBOX (cutbox-door.mjs). By AI agents, Wed Nov 11 2026. No macro, syntax, notation, axiom, sorry.
-/
import Derived.Test.YtepbnimheedodaaDoorRows
import GoSem.ClaimSeven
namespace Go.Proofs.YtepbnimheedodaaDoor
namespace Rows

/-- THE TIED CARD OF 'padlocklaw09.MtreePlays'. -/
def mtreePlaysCard : Claim7 := { stood := { row := mtreePlaysRow, standIns := [], harness := (true, "cedd70cef38b89e96ecd328efbc1636fda0207bb16f1edd8b8becc61ef217c62"), looks := false }, kinds := [], alts := [], laidByText := true, laidKinds := [.data], laidTests := true, laidLooks := .later }
def MtreePlaysCardSaid : Prop := Claim7.holds Tryd.pinned (.plain (OpenSpec.ofChange mtreePlaysSpec)) mtreePlaysCard

/-- THE TIED CARD OF 'padlocklaw09.MtreeSame'. -/
def mtreeSameCard : Claim7 := { stood := { row := mtreeSameRow, standIns := [], harness := (true, "cedd70cef38b89e96ecd328efbc1636fda0207bb16f1edd8b8becc61ef217c62"), looks := false }, kinds := [], alts := [], laidByText := true, laidKinds := [.data], laidTests := true, laidLooks := .later }
def MtreeSameCardSaid : Prop := Claim7.holds Tryd.pinned (.plain (OpenSpec.ofChange mtreeSameSpec)) mtreeSameCard

/-- THE SECOND FORM's CARD OF 'padlocklaw09.MtreePlays'. -/
def mtreePlaysUptoCard : Claim7 := { stood := { row := mtreePlaysUptoRow, standIns := [], harness := (true, "cedd70cef38b89e96ecd328efbc1636fda0207bb16f1edd8b8becc61ef217c62"), looks := false }, kinds := [], alts := [], laidByText := true, laidKinds := [.data], laidTests := true, laidLooks := .later }
def MtreePlaysUptoCardSaid : Prop := Claim7.holds Tryd.pinned (.plain (OpenSpec.upto mtreePlaysSpec)) mtreePlaysUptoCard

/-- THE SECOND FORM's CARD OF 'padlocklaw09.MtreeSame'. -/
def mtreeSameUptoCard : Claim7 := { stood := { row := mtreeSameUptoRow, standIns := [], harness := (true, "cedd70cef38b89e96ecd328efbc1636fda0207bb16f1edd8b8becc61ef217c62"), looks := false }, kinds := [], alts := [], laidByText := true, laidKinds := [.data], laidTests := true, laidLooks := .later }
def MtreeSameUptoCardSaid : Prop := Claim7.holds Tryd.pinned (.plain (OpenSpec.upto mtreeSameSpec)) mtreeSameUptoCard
end Rows
end Go.Proofs.YtepbnimheedodaaDoor
