/-
  WALKS: the document's Draw, Status, Weights, Guess.
-/
import Derived.Test.YtikmccnhhdemnaaWalksZ
import Derived.Test.YtikmccnhhdemnaaWalksQ
namespace Go.Proofs.Ytikmccnhhdemnaa
open Go.RowKit
set_option linter.unusedVariables false

/-- The answer of Draw. -/
def drawAns (cf : Cf) (n : Nat) (j : Int) : Nat × Nat := if 0 ≤ j ∧ j ≤ 3200 then (drawN cf n j.toNat, 0) else (0, 3)

/-- The answer of Status. -/
def statusAns (cf : Cf) (n : Nat) (st : St) : List Value := [.int .i64 st.steps, .int .i64 (st.steps * cf.batch / n : Nat), .int .i64 (st.steps * cf.batch % n : Nat)]
end Go.Proofs.Ytikmccnhhdemnaa
