/-
  WALKS: the document's Place and Back.
-/
import Derived.Test.YtfpodnleimhohabWalksP
namespace Go.Proofs.Ytfpodnleimhohab
open Go.RowKit
set_option linter.unusedVariables false

/-- The answers of Place and Back. -/
def placeAns (seed n i : Nat) : Nat × Nat := if i < n ∧ n ≤ 65536 then (place seed n i, 0) else (0, 3)
def backAns (seed n i : Nat) : Nat × Nat := if i < n ∧ n ≤ 65536 then (back seed n i, 0) else (0, 3)

theorem side_le {h : Nat} (h8 : h ≤ 8) : 2 ^ h ≤ 256 := Nat.pow_le_pow_right (n := 2) (by decide) h8
theorem side_ge {h : Nat} (h1 : 1 ≤ h) : 2 ≤ 2 ^ h := by
  have := Nat.pow_le_pow_right (n := 2) (by decide) h1
  simpa using this
theorem mul_wrap (s : Nat) (hs : s ≤ 256) : IntKind.u64.wrap ((s : Int) * (s : Int)) = ((s * s : Nat) : Int) := by
  have h1 : s * s ≤ 256 * 256 := Nat.mul_le_mul hs hs
  rw [← Int.natCast_mul, wrap64_nat _ (by omega)]
/-- One round more of the way to the first return. -/
theorem Ret.next {f : Nat → Nat} {n x k y j : Nat} (h : Ret f n x k y) (h1 : 1 ≤ j) (hj : j ≤ k) : (n ≤ iter f j x ∧ j < k) ∨ (iter f j x < n ∧ iter f j x = y) := by
  by_cases e : j = k
  · subst e; exact .inr ⟨by rw [h.val]; exact h.low, h.val⟩
  · exact .inl ⟨h.high j h1 (by omega), by omega⟩

end Go.Proofs.Ytfpodnleimhohab
