/-
  DERIVED. GIVEN WITH THE SEED: THE CARDS: each row of YtdeipadgaifncaaDoorRows.lean that lists a variable, with what it lists TIED to the program's text (the seventh form; the later family's looks); each row that meets fmt, with fmt's text TOLD by the authors' own Lean function (tested against real Go, not proved from fmt's source: count such statements apart). THE CARD IS WHAT COUNTS. Prove the row's statement (the work); the ties are given (YtdeipadgaifncaaDoorTie.lean); close each card by the builder's one call (the guide's Derived/Test/ToyasCard.lean, 'card_holds'). Laid BY PROGRAM, IN A SANDBOX (cutbox-door.mjs). By AI agents, Wed Nov 11 2026. No macro, syntax, notation, axiom, sorry.
-/
import Derived.Test.YtdeipadgaifncaaDoorRows
import GoSem.ClaimSeven
namespace Go.Proofs.YtdeipadgaifncaaDoor
namespace Rows

/-- THE TIED CARD OF 'padlocklaw01.Sha256Sums'. -/
def sha256SumsCard : Claim7 := { stood := { row := sha256SumsRow, standIns := [], harness := (true, "9272f41fc7d4232e22406a6bf07c610479f3e59112178f9bc20310690fb7b87d"), looks := false }, kinds := [], alts := [], laidByText := true, laidKinds := [.data], laidTests := true, laidLooks := .later }
def Sha256SumsCardSaid : Prop := Claim7.holds Tryd.pinned (.plain (OpenSpec.ofChange sha256SumsSpec)) sha256SumsCard

/-- THE TIED CARD OF 'padlocklaw01.Sha256Blocks'. -/
def sha256BlocksCard : Claim7 := { stood := { row := sha256BlocksRow, standIns := [], harness := (true, "9272f41fc7d4232e22406a6bf07c610479f3e59112178f9bc20310690fb7b87d"), looks := false }, kinds := [], alts := [], laidByText := true, laidKinds := [.data], laidTests := true, laidLooks := .later }
def Sha256BlocksCardSaid : Prop := Claim7.holds Tryd.pinned (.plain (OpenSpec.ofChange sha256BlocksSpec)) sha256BlocksCard

/-- THE SECOND FORM's CARD OF 'padlocklaw01.Sha256Sums'. -/
def sha256SumsUptoCard : Claim7 := { stood := { row := sha256SumsUptoRow, standIns := [], harness := (true, "9272f41fc7d4232e22406a6bf07c610479f3e59112178f9bc20310690fb7b87d"), looks := false }, kinds := [], alts := [], laidByText := true, laidKinds := [.data], laidTests := true, laidLooks := .later }
def Sha256SumsUptoCardSaid : Prop := Claim7.holds Tryd.pinned (.plain (OpenSpec.upto sha256SumsSpec)) sha256SumsUptoCard

/-- THE SECOND FORM's CARD OF 'padlocklaw01.Sha256Blocks'. -/
def sha256BlocksUptoCard : Claim7 := { stood := { row := sha256BlocksUptoRow, standIns := [], harness := (true, "9272f41fc7d4232e22406a6bf07c610479f3e59112178f9bc20310690fb7b87d"), looks := false }, kinds := [], alts := [], laidByText := true, laidKinds := [.data], laidTests := true, laidLooks := .later }
def Sha256BlocksUptoCardSaid : Prop := Claim7.holds Tryd.pinned (.plain (OpenSpec.upto sha256BlocksSpec)) sha256BlocksUptoCard
end Rows
end Go.Proofs.YtdeipadgaifncaaDoor
