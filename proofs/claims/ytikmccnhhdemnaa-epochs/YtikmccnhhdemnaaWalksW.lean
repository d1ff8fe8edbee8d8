/-
  WALKS: the document's runes of a text.
-/
import Derived.Test.YtikmccnhhdemnaaWalksV
namespace Go.Proofs.Ytikmccnhhdemnaa
open Go.RowKit
set_option linter.unusedVariables false

/-- The cells of a list of numbers. -/
def intCells (l : List Nat) : List Value := l.map fun x : Nat => .int .i64 (x : Int)
theorem intCells_snoc (l : List Nat) (x : Nat) : intCells (l ++ [x]) = intCells l ++ [.int .i64 (x : Int)] := by simp [intCells]
theorem intCells_get {l : List Nat} {i x : Nat} (h : l[i]? = some x) : (intCells l)[i]? = some (.int .i64 (x : Int)) := by simp [intCells, h]

end Go.Proofs.Ytikmccnhhdemnaa
