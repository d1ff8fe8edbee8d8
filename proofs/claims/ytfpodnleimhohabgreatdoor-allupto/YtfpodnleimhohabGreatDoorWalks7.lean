/-
  WALKS: what the statements without the document's answer are made of: the fixed frame, a text cut short.
-/
import Derived.Test.YtfpodnleimhohabGreatDoorWalks6
import Derived.Test.YtfpodnleimhohabGreatDoorMath3
namespace Go.Proofs.YtfpodnleimhohabGreatDoor
open Go.RowKit
set_option linter.unusedVariables false

/-- The frame that the document fixes. -/
theorem first_frame : frame 1 [97, 98] = [213, 3, 1, 97, 98, 183, 233, 217, 33] := by decide +kernel

end Go.Proofs.YtfpodnleimhohabGreatDoor
