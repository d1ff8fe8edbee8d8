/-
  WALKS: the document's best, scores.
-/
import Derived.Test.YtikmccnhhdemnaaWalksX
namespace Go.Proofs.Ytikmccnhhdemnaa
open Go.RowKit
set_option linter.unusedVariables false

theorem bestF_next_yes {s : Nat → Int} {but : Int} {k : Nat} {o : Int} (h : bestF s but k = o) (h1 : (k : Int) ≠ but) (h2 : o < 0 ∨ s o.toNat < s k) : bestF s but (k + 1) = (k : Int) := by
  simp only [bestF]; rw [h, if_pos ⟨h1, h2⟩]
theorem bestF_next_no {s : Nat → Int} {but : Int} {k : Nat} {o : Int} (h : bestF s but k = o) (h1 : ¬ ((k : Int) ≠ but ∧ (o < 0 ∨ s o.toNat < s k))) : bestF s but (k + 1) = o := by
  simp only [bestF]; rw [h, if_neg h1]

end Go.Proofs.Ytikmccnhhdemnaa
