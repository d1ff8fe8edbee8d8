/-
  WALKS: examples out of raw ones; their frames.
-/
import Derived.Test.YtfpodnleimhohabGreatDoorWalks8
namespace Go.Proofs.YtfpodnleimhohabGreatDoor
open Go.RowKit
set_option linter.unusedVariables false

theorem info_ex : (Tryz.prog.info? 97).map (fun i => (i.zero, i.size, i.bytes)) = some (some (.agg #[.int .u8 0, .string ⟨#[]⟩]), 2, 24) := by kernel_rfl

def exCells (x : Int × List UInt8) : List Value := [.int .u8 x.1, .string (bs x.2)]
def exsCells (l : List (Int × List UInt8)) : List Value := l.flatMap exCells
theorem exsCells_snoc (l : List (Int × List UInt8)) (x : Int × List UInt8) : exsCells (l ++ [x]) = exsCells l ++ exCells x := by simp [exsCells]
/-- The first k examples out of raw ones. -/
def exsTo (L : Nat → Int) (T : Nat → ByteArray) : Nat → List (Int × List UInt8)
  | 0 => []
  | k + 1 => exsTo L T k ++ [(L k % 4, (ls (T k)).take 40)]
theorem exsTo_length (L : Nat → Int) (T : Nat → ByteArray) : ∀ k, (exsTo L T k).length = k
  | 0 => rfl
  | k + 1 => by simp [exsTo, exsTo_length L T k]
/-- All of them: one to eight. -/
def exs (len : Nat) (L : Nat → Int) (T : Nat → ByteArray) : List (Int × List UInt8) :=
  if len = 0 then [(1, [97])] else exsTo L T (min len 8)

end Go.Proofs.YtfpodnleimhohabGreatDoor
