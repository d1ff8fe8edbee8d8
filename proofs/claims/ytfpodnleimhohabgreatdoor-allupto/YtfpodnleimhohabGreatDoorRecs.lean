/-
  RECORDS IN MEMORY.
-/
import Derived.Test.YtfpodnleimhohabGreatDoorMath2
import Derived.Test.YtfpodnleimhohabGreatDoorOwn
namespace Go.Proofs.YtfpodnleimhohabGreatDoor
open Go.RowKit
set_option linter.unusedVariables false

def recCells (r : Rc) : List Value := [.int .i64 r.fr, .int .i64 r.to, .int .u8 ((r.bd.headD 0).toNat : Int), .string (bs r.bd.tail)]
def recsCells (rs : List Rc) : List Value := rs.flatMap recCells
def gapCells (g : Nat × Nat) : List Value := [.int .i64 g.1, .int .i64 g.2]
def gapsCells (gs : List (Nat × Nat)) : List Value := gs.flatMap gapCells
theorem recsCells_snoc (rs : List Rc) (r : Rc) : recsCells (rs ++ [r]) = recsCells rs ++ recCells r := by simp [recsCells]
theorem gapsCells_snoc (gs : List (Nat × Nat)) (g : Nat × Nat) : gapsCells (gs ++ [g]) = gapsCells gs ++ gapCells g := by simp [gapsCells]
theorem rec_get {rs : List Rc} {k : Nat} {r : Rc} (h : rs[k]? = some r) : (recsCells rs)[k * 4]? = some (.int .i64 r.fr) ∧ (recsCells rs)[k * 4 + 1]? = some (.int .i64 r.to) ∧ (recsCells rs)[k * 4 + 2]? = some (.int .u8 ((r.bd.headD 0).toNat : Int)) ∧ (recsCells rs)[k * 4 + 3]? = some (.string (bs r.bd.tail)) := by
  have f := flat_get recCells 4 (fun _ => rfl) rs k r h
  exact ⟨f 0 (by omega), f 1 (by omega), f 2 (by omega), f 3 (by omega)⟩
theorem gap_get {gs : List (Nat × Nat)} {k : Nat} {g : Nat × Nat} (h : gs[k]? = some g) : (gapsCells gs)[k * 2]? = some (.int .i64 g.1) ∧ (gapsCells gs)[k * 2 + 1]? = some (.int .i64 g.2) := by
  have f := flat_get gapCells 2 (fun _ => rfl) gs k g h
  exact ⟨f 0 (by omega), f 1 (by omega)⟩
end Go.Proofs.YtfpodnleimhohabGreatDoor
