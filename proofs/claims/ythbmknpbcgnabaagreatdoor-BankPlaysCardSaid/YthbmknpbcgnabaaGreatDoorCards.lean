/-
  DERIVED. GIVEN WITH THE SEED: THE CARDS: each row of YthbmknpbcgnabaaGreatDoorRows.lean that lists a variable, with what it lists TIED to the program's text (the seventh form; the later family's looks); each row that meets fmt, with fmt's text TOLD by the authors' own Lean function (tested against real Go, not proved from fmt's source: count such statements apart). THE CARD IS WHAT COUNTS. Prove the row's statement (the work); the ties are given (YthbmknpbcgnabaaGreatDoorTie.lean); close each card by the builder's one call (the guide's Derived/Test/ToyasCard.lean, 'card_holds'). Laid BY PROGRAM, IN A SANDBOX (cutbox-door.mjs). By AI agents, Wed Nov 11 2026. No macro, syntax, notation, axiom, sorry.
-/
import Derived.Test.YthbmknpbcgnabaaGreatDoorRows
import GoSem.ClaimSeven
namespace Go.Proofs.YthbmknpbcgnabaaGreatDoor
namespace Rows

/-- THE TIED CARD OF 'padlocklaw11.BankPlays'. -/
def bankPlaysCard : Claim7 := { stood := { row := bankPlaysRow, standIns := [], harness := (true, "0394b882490edb5a862a6c76eaf172e845cf6293053d090ad5c100b21ae047ee"), looks := false }, kinds := [], alts := [], laidByText := true, laidKinds := [.data], laidTests := true, laidLooks := .later }
def BankPlaysCardSaid : Prop := Claim7.holds Tryz.pinned (.plain (OpenSpec.ofChange bankPlaysSpec)) bankPlaysCard

/-- THE TIED CARD OF 'padlocklaw11.BankBegins'. -/
def bankBeginsCard : Claim7 := { stood := { row := bankBeginsRow, standIns := [], harness := (true, "0394b882490edb5a862a6c76eaf172e845cf6293053d090ad5c100b21ae047ee"), looks := false }, kinds := [], alts := [], laidByText := true, laidKinds := [.data], laidTests := true, laidLooks := .later }
def BankBeginsCardSaid : Prop := Claim7.holds Tryz.pinned (.plain (OpenSpec.ofChange bankBeginsSpec)) bankBeginsCard

/-- THE TIED CARD OF 'padlocklaw11.BankKeeps'. -/
def bankKeepsCard : Claim7 := { stood := { row := bankKeepsRow, standIns := [], harness := (true, "0394b882490edb5a862a6c76eaf172e845cf6293053d090ad5c100b21ae047ee"), looks := false }, kinds := [], alts := [], laidByText := true, laidKinds := [.data], laidTests := true, laidLooks := .later }
def BankKeepsCardSaid : Prop := Claim7.holds Tryz.pinned (.plain (OpenSpec.ofChange bankKeepsSpec)) bankKeepsCard

/-- THE SECOND FORM's CARD OF 'padlocklaw11.BankPlays'. -/
def bankPlaysUptoCard : Claim7 := { stood := { row := bankPlaysUptoRow, standIns := [], harness := (true, "0394b882490edb5a862a6c76eaf172e845cf6293053d090ad5c100b21ae047ee"), looks := false }, kinds := [], alts := [], laidByText := true, laidKinds := [.data], laidTests := true, laidLooks := .later }
def BankPlaysUptoCardSaid : Prop := Claim7.holds Tryz.pinned (.plain (OpenSpec.upto bankPlaysSpec)) bankPlaysUptoCard

/-- THE SECOND FORM's CARD OF 'padlocklaw11.BankBegins'. -/
def bankBeginsUptoCard : Claim7 := { stood := { row := bankBeginsUptoRow, standIns := [], harness := (true, "0394b882490edb5a862a6c76eaf172e845cf6293053d090ad5c100b21ae047ee"), looks := false }, kinds := [], alts := [], laidByText := true, laidKinds := [.data], laidTests := true, laidLooks := .later }
def BankBeginsUptoCardSaid : Prop := Claim7.holds Tryz.pinned (.plain (OpenSpec.upto bankBeginsSpec)) bankBeginsUptoCard

/-- THE SECOND FORM's CARD OF 'padlocklaw11.BankKeeps'. -/
def bankKeepsUptoCard : Claim7 := { stood := { row := bankKeepsUptoRow, standIns := [], harness := (true, "0394b882490edb5a862a6c76eaf172e845cf6293053d090ad5c100b21ae047ee"), looks := false }, kinds := [], alts := [], laidByText := true, laidKinds := [.data], laidTests := true, laidLooks := .later }
def BankKeepsUptoCardSaid : Prop := Claim7.holds Tryz.pinned (.plain (OpenSpec.upto bankKeepsSpec)) bankKeepsUptoCard
end Rows
end Go.Proofs.YthbmknpbcgnabaaGreatDoor
