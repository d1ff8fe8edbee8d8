/-
  DERIVED. GIVEN WITH THE SEED: THE CARDS: each row of YtfpodnleimhohabGreatDoorRows.lean that lists a variable, with what it lists TIED to the program's text (the seventh form; the later family's looks); each row that meets fmt, with fmt's text TOLD by the authors' own Lean function (tested against real Go, not proved from fmt's source: count such statements apart). THE CARD IS WHAT COUNTS. Prove the row's statement (the work); the ties are given (YtfpodnleimhohabGreatDoorTie.lean); close each card by the builder's one call (the guide's Derived/Test/ToyasCard.lean, 'card_holds'). Laid BY PROGRAM, IN A SANDBOX (cutbox-door.mjs). By AI agents, Wed Nov 11 2026. No macro, syntax, notation, axiom, sorry.
-/
import Derived.Test.YtfpodnleimhohabGreatDoorRows
import GoSem.ClaimSeven
namespace Go.Proofs.YtfpodnleimhohabGreatDoor
namespace Rows

/-- THE TIED CARD OF 'drilllaw.All'. -/
def allCard : Claim7 := { stood := { row := allRow, standIns := [], harness := (true, "16c676f555c1a65b8ab961139a6c9ad9fb6af4b4c92a305f01d1c8d37f5abac8"), looks := false }, kinds := [], alts := [], laidByText := true, laidKinds := [.data], laidTests := true, laidLooks := .later }
def AllCardSaid : Prop := Claim7.holds Tryz.pinned (.plain (OpenSpec.ofChange allSpec)) allCard

/-- THE SECOND FORM's CARD OF 'drilllaw.All'. -/
def allUptoCard : Claim7 := { stood := { row := allUptoRow, standIns := [], harness := (true, "16c676f555c1a65b8ab961139a6c9ad9fb6af4b4c92a305f01d1c8d37f5abac8"), looks := false }, kinds := [], alts := [], laidByText := true, laidKinds := [.data], laidTests := true, laidLooks := .later }
def AllUptoCardSaid : Prop := Claim7.holds Tryz.pinned (.plain (OpenSpec.upto allSpec)) allUptoCard
end Rows
end Go.Proofs.YtfpodnleimhohabGreatDoor
