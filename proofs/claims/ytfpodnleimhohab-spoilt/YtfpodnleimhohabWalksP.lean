/-
  WALKS: the document's Mix, round, Place, Back.
-/
import Derived.Test.YtfpodnleimhohabMathQ
import Derived.Test.YtfpodnleimhohabRows
import Derived.WalkKit
import Derived.WalkSpells
import Derived.WalkLawsBesides
import Derived.Handy
import Derived.Deep.QuietTactic
import Derived.BigQuiet
import Derived.Deep.LoopGhost
namespace Go.Proofs.Ytfpodnleimhohab
open Go.RowKit
set_option linter.unusedVariables false

theorem ret_intP {k : IntKind} {a b : Int} (h : a = b) : Ending.returned (.int k a) = .returned (.int k b) := by rw [h]
theorem wrap64_nat (x : Nat) (h : x < 18446744073709551616) : IntKind.u64.wrap (x : Int) = (x : Int) := by rw [IntKind.wrap_u64]; omega
theorem wrap64_mul (x c : Nat) : IntKind.u64.wrap ((x : Int) * (c : Int)) = ((x * c % 18446744073709551616 : Nat) : Int) := by
  rw [IntKind.wrap_u64, ← Int.natCast_mul]
  generalize x * c = y
  omega
theorem mix_div (x c : Nat) (h : x < 18446744073709551616) : bits BinOp.xor IntKind.u64 (x : Int) (IntKind.u64.wrap ((x : Int) / (c : Int))) = ((x ^^^ x / c : Nat) : Int) := by
  rw [← Int.natCast_ediv, wrap64_nat _ (Nat.lt_of_le_of_lt (Nat.div_le_self _ _) h), u64_xor_nat _ _ h (Nat.lt_of_le_of_lt (Nat.div_le_self _ _) h)]
theorem mix_tdiv (x c : Nat) (h : x < 18446744073709551616) : bits BinOp.xor IntKind.u64 (x : Int) (IntKind.u64.wrap ((x : Int).tdiv (c : Int))) = ((x ^^^ x / c : Nat) : Int) := by
  rw [Int.tdiv_eq_ediv_of_nonneg (by omega)]
  exact mix_div x c h
theorem mix_eq (z : Nat) (hz : z < 18446744073709551616) :
    bits BinOp.xor IntKind.u64
      (IntKind.u64.wrap (bits BinOp.xor IntKind.u64 (IntKind.u64.wrap (bits BinOp.xor IntKind.u64 (z : Int) (IntKind.u64.wrap ((z : Int) / 1073741824)) * 13787848793156543929)) (IntKind.u64.wrap ((IntKind.u64.wrap (bits BinOp.xor IntKind.u64 (z : Int) (IntKind.u64.wrap ((z : Int) / 1073741824)) * 13787848793156543929)).tdiv 134217728)) * 10723151780598845931))
      (IntKind.u64.wrap ((IntKind.u64.wrap (bits BinOp.xor IntKind.u64 (IntKind.u64.wrap (bits BinOp.xor IntKind.u64 (z : Int) (IntKind.u64.wrap ((z : Int) / 1073741824)) * 13787848793156543929)) (IntKind.u64.wrap ((IntKind.u64.wrap (bits BinOp.xor IntKind.u64 (z : Int) (IntKind.u64.wrap ((z : Int) / 1073741824)) * 13787848793156543929)).tdiv 134217728)) * 10723151780598845931)).tdiv 2147483648)) = ((mixN z : Nat) : Int) := by
  have e1 : IntKind.u64.wrap (bits BinOp.xor IntKind.u64 (z : Int) (IntKind.u64.wrap ((z : Int) / 1073741824)) * 13787848793156543929) = ((mixA z : Nat) : Int) := by
    have a := mix_div z 1073741824 hz
    rw [show ((1073741824 : Nat) : Int) = 1073741824 from rfl] at a
    rw [a]
    exact wrap64_mul (z ^^^ z / 1073741824) 13787848793156543929
  rw [e1]
  have e2 : IntKind.u64.wrap (bits BinOp.xor IntKind.u64 ((mixA z : Nat) : Int) (IntKind.u64.wrap (((mixA z : Nat) : Int).tdiv 134217728)) * 10723151780598845931) = ((mixB (mixA z) : Nat) : Int) := by
    have a := mix_tdiv (mixA z) 134217728 (mixA_lt z)
    rw [show ((134217728 : Nat) : Int) = 134217728 from rfl] at a
    rw [a]
    exact wrap64_mul (mixA z ^^^ mixA z / 134217728) 10723151780598845931
  rw [e2]
  have a := mix_tdiv (mixB (mixA z)) 2147483648 (mixB_lt (mixA z))
  rw [show ((2147483648 : Nat) : Int) = 2147483648 from rfl] at a
  rw [a]
  rfl

theorem turn_arg (a b r : Nat) : IntKind.u64.wrap (IntKind.u64.wrap ((a : Int) + IntKind.u64.wrap (((b : Int) + 1) * 11400714819323198485)) + (r : Int)) = (((a + (b + 1) * 11400714819323198485 + r) % 18446744073709551616 : Nat) : Int) := by
  rw [IntKind.wrap_u64, IntKind.wrap_u64, IntKind.wrap_u64]; omega
theorem turn_xor (l m side : Nat) (hl : l < side) (hs : side ≤ 256) : bits BinOp.xor IntKind.u64 (l : Int) ((m : Int) % (side : Int)) = ((l ^^^ m % side : Nat) : Int) := by
  have hm : m % side < side := Nat.mod_lt _ (by omega)
  rw [← Int.natCast_emod, u64_xor_nat _ _ (by omega) (by omega)]
/-- The pair after so many turns. -/
def turnsTo (seed side x : Nat) : Nat → Nat × Nat
  | 0 => split2 side x
  | k + 1 => fs (turnF seed (k + 1)) side (turnsTo seed side x k)
theorem turnsTo_lt (seed h x : Nat) (hx : x < 2 ^ h * 2 ^ h) : ∀ k, (turnsTo seed (2 ^ h) x k).1 < 2 ^ h ∧ (turnsTo seed (2 ^ h) x k).2 < 2 ^ h
  | 0 => split_lt (Nat.two_pow_pos h) hx
  | k + 1 => fs_lt _ h (turnsTo_lt seed h x hx k).1 (turnsTo_lt seed h x hx k).2

theorem round_end (L R side : Nat) (hL : L < side) (hR : R < side) (hs : side ≤ 256) : IntKind.u64.wrap (IntKind.u64.wrap ((L : Int) * (side : Int)) + (R : Int)) = ((join2 side (L, R) : Nat) : Int) := by
  have h1 : L * side ≤ 256 * 256 := Nat.mul_le_mul (by omega) hs
  rw [← Int.natCast_mul, wrap64_nat _ (by omega), ← Int.natCast_add, wrap64_nat _ (by omega)]; rfl

end Go.Proofs.Ytfpodnleimhohab
