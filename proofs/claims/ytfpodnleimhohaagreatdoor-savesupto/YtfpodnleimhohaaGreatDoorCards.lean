/-
  DERIVED. GIVEN WITH THE SEED: THE CARDS: each row of YtfpodnleimhohaaGreatDoorRows.lean that lists a variable, with what it lists TIED to the program's text (the seventh form; the later family's looks); each row that meets fmt, with fmt's text TOLD by the authors' own Lean function (tested against real Go, not proved from fmt's source: count such statements apart). THE CARD IS WHAT COUNTS. Prove the row's statement (the work); the ties are given (YtfpodnleimhohaaGreatDoorTie.lean); close each card by the builder's one call (the guide's Derived/Test/ToyasCard.lean, 'card_holds'). Laid BY PROGRAM, IN A SANDBOX (cutbox-door.mjs). By AI agents, Wed Nov 11 2026. No macro, syntax, notation, axiom, sorry.
-/
import Derived.Test.YtfpodnleimhohaaGreatDoorRows
import GoSem.ClaimSeven
namespace Go.Proofs.YtfpodnleimhohaaGreatDoor
namespace Rows

/-- THE TIED CARD OF 'drilllaw.Runs'. -/
def runsCard : Claim7 := { stood := { row := runsRow, standIns := [], harness := (true, "63aca7e778f76e7f6b9a5140d0ec122890e6a31122404ee2a4d28e69c2972abf"), looks := false }, kinds := [], alts := [], laidByText := true, laidKinds := [.data], laidTests := true, laidLooks := .later }
def RunsCardSaid : Prop := Claim7.holds Tryz.pinned (.plain (OpenSpec.ofChange runsSpec)) runsCard

/-- THE TIED CARD OF 'drilllaw.Saves'. -/
def savesCard : Claim7 := { stood := { row := savesRow, standIns := [], harness := (true, "63aca7e778f76e7f6b9a5140d0ec122890e6a31122404ee2a4d28e69c2972abf"), looks := false }, kinds := [], alts := [], laidByText := true, laidKinds := [.data], laidTests := true, laidLooks := .later }
def SavesCardSaid : Prop := Claim7.holds Tryz.pinned (.plain (OpenSpec.ofChange savesSpec)) savesCard

/-- THE SECOND FORM's CARD OF 'drilllaw.Runs'. -/
def runsUptoCard : Claim7 := { stood := { row := runsUptoRow, standIns := [], harness := (true, "63aca7e778f76e7f6b9a5140d0ec122890e6a31122404ee2a4d28e69c2972abf"), looks := false }, kinds := [], alts := [], laidByText := true, laidKinds := [.data], laidTests := true, laidLooks := .later }
def RunsUptoCardSaid : Prop := Claim7.holds Tryz.pinned (.plain (OpenSpec.upto runsSpec)) runsUptoCard

/-- THE SECOND FORM's CARD OF 'drilllaw.Saves'. -/
def savesUptoCard : Claim7 := { stood := { row := savesUptoRow, standIns := [], harness := (true, "63aca7e778f76e7f6b9a5140d0ec122890e6a31122404ee2a4d28e69c2972abf"), looks := false }, kinds := [], alts := [], laidByText := true, laidKinds := [.data], laidTests := true, laidLooks := .later }
def SavesUptoCardSaid : Prop := Claim7.holds Tryz.pinned (.plain (OpenSpec.upto savesSpec)) savesUptoCard
end Rows
end Go.Proofs.YtfpodnleimhohaaGreatDoor
