/-
  WALKS: the document's Weights, Guess.
-/
import Derived.Test.YtikmccnhhdemnaaWalksAA
namespace Go.Proofs.Ytikmccnhhdemnaa
open Go.RowKit
set_option linter.unusedVariables false

theorem info_i32 : (Try.prog.info? 21).map (fun i => (i.zero, i.size, i.bytes)) = some (some (.int .i32 0), 1, 4) := by kernel_rfl
/-- The cells of the first k weights of a class. -/
def wCells (f : Nat → Int) (k : Nat) : List Value := (List.range k).map fun i => .int .i32 (f i)
theorem wCells_snoc (f : Nat → Int) (k : Nat) : wCells f (k + 1) = wCells f k ++ [.int .i32 (f k)] := by
  unfold wCells; rw [List.range_succ, List.map_append]; rfl

/-- The answer of Guess. -/
def guessAns (t : Tab) (s : List UInt8) : Nat × Int := (bestN (scoreN (countsN s) t) (-1), scoreN (countsN s) t (bestN (scoreN (countsN s) t) (-1)))
end Go.Proofs.Ytikmccnhhdemnaa
