/-
  No cell of these rows narrows 'for every input' (looked for: loops, veiled, ifaces, maps, wideKeys, modest, calm, conditions, laid).
  DERIVED. THE GIVEN ROWS OF THIS SEAT. 2 by the template 'for every input the law returns true; each argument reads behind the call as it read before'; 0 by the template 'total and deterministic' (their statements: YtfpodnleimhohabTotals.lean).
  GIVEN WITH THE SEED: the statements are not yours to turn. If you find one false, say at which input.
  Laid BY PROGRAM, IN A SANDBOX (cutbox-rows.mjs): the forced cells as the released guide's own fill.sh prints them over the translation fbc46303c2b6a587… (all of the seat's roots in one cut). By AI agents, Wed Nov 11 2026. No macro, syntax, notation, axiom, sorry.
-/
import Derived.Test.YtfpodnleimhohabChecked
import GoSem.Claim
import GoSem.ClaimJoined
import GoSem.ClaimMapViews
import Derived.JoinedTies
import Derived.KernelRfl
namespace Go.Proofs.Ytfpodnleimhohab
/- THE CELL 'sum', in the pinned program and in every row, IS THE sha256 OF THE DUMP (.gsa) THAT YtfpodnleimhohabProg.lean LOADS. Nothing in Lean hashes anything: it is a label: what it is worth is what the hold of that sum in a sandbox is worth. -/
noncomputable def Try.pinned : Pinned := { name := "ytfpodnleimhohab", sum := "fbc46303c2b6a5876af070b029ba2a7317ffce0bb2bad359e52807a3d9998ce2", checked := Try.checked }
namespace Rows
def none {H : Type} : Left H := { results := [], args := [] }

/-- 'drillkeep.Resumed': WHATEVER THE INPUT: true; the input reads as it did. -/
def resumedSpec : ChangeSpec := { name := "resumed", fn := fun _ => fun
  | [d1, d2, d3, d4, d5] => { results := [.lit (.bool true)], args := [d1, d2, d3, d4, d5] }
  | _ => none }
def resumedRow : OpenClaim := { program := "ytfpodnleimhohab", sum := "fbc46303c2b6a5876af070b029ba2a7317ffce0bb2bad359e52807a3d9998ce2", func := "drill/drillkeep.Resumed", spec := "resumed", apart := false }
def ResumedSaid : Prop := resumedRow.holds Try.pinned (OpenSpec.ofChange resumedSpec)

/-- ITS FALSE NEIGHBOUR: 'it returns false'. Refute it at one input. -/
def resumedWrong : ChangeSpec := { name := "resumed", fn := fun _ => fun
  | [d1, d2, d3, d4, d5] => { results := [.lit (.bool false)], args := [d1, d2, d3, d4, d5] }
  | _ => none }
def ResumedWrongFalsely : Prop := resumedRow.holds Try.pinned (OpenSpec.ofChange resumedWrong)

/-- 'drillkeep.Spoilt': WHATEVER THE INPUT: true; the input reads as it did. -/
def spoiltSpec : ChangeSpec := { name := "spoilt", fn := fun _ => fun
  | [d1, d2, d3, d4, d5] => { results := [.lit (.bool true)], args := [d1, d2, d3, d4, d5] }
  | _ => none }
def spoiltRow : OpenClaim := { program := "ytfpodnleimhohab", sum := "fbc46303c2b6a5876af070b029ba2a7317ffce0bb2bad359e52807a3d9998ce2", func := "drill/drillkeep.Spoilt", spec := "spoilt", apart := false }
def SpoiltSaid : Prop := spoiltRow.holds Try.pinned (OpenSpec.ofChange spoiltSpec)

/-- ITS FALSE NEIGHBOUR: 'it returns false'. Refute it at one input. -/
def spoiltWrong : ChangeSpec := { name := "spoilt", fn := fun _ => fun
  | [d1, d2, d3, d4, d5] => { results := [.lit (.bool false)], args := [d1, d2, d3, d4, d5] }
  | _ => none }
def SpoiltWrongFalsely : Prop := spoiltRow.holds Try.pinned (OpenSpec.ofChange spoiltWrong)

/- THE SECOND FORM. 'bulk': how many values and letters a reading holds, each counted each time it is reached (what is shared counts as often as it is met; a slice's spare places count too). A statement '..UptoSaid' is the law's where the arguments, and the package variables that the reading takes, are together of bulk at most 1048576: NARROWER than '..Said'. Prove '..Said' where nothing that the law and all that it calls make is longer than what came in: it says more and counts as full. Else prove '..UptoSaid'. A law counts once. -/
mutual
def uptoBulk {H : Type} : DataW H → Nat
  | .lit (.string bytes) => bytes.length + 1
  | .lit _ => 1
  | .nil => 1
  | .ptr d => uptoBulk d + 1
  | .slice elems spare => uptoBulkAll elems + uptoBulkAll spare + 1
  | .agg parts => uptoBulkAll parts + 1
  | .iface _ d => uptoBulk d + 1
  | .map entries => uptoBulkEntries entries + 1
  | .held _ => 1
def uptoBulkAll {H : Type} : List (DataW H) → Nat
  | [] => 0
  | d :: r => uptoBulk d + uptoBulkAll r
def uptoBulkEntries {H : Type} : List (Lit × DataW H) → Nat
  | [] => 0
  | x :: r => uptoBulkEntry x + uptoBulkEntries r
def uptoBulkEntry {H : Type} : Lit × DataW H → Nat
  | (.string bytes, d) => bytes.length + uptoBulk d + 1
  | (_, d) => uptoBulk d + 1
 end
def uptoSmall : (H : Type) → List (DataW H) → Bool := fun _ ds => decide (uptoBulkAll ds ≤ 1048576)
def OpenSpec.upto (s : _root_.Go.ChangeSpec) : _root_.Go.OpenSpec := { _root_.Go.OpenSpec.ofChange s with cond := some uptoSmall }

/-- 'drillkeep.Resumed', WHERE WHAT IT READS IS OF BULK AT MOST 1048576: true; the input reads as it did. -/
def resumedUptoRow : OpenClaim := { program := "ytfpodnleimhohab", sum := "fbc46303c2b6a5876af070b029ba2a7317ffce0bb2bad359e52807a3d9998ce2", func := "drill/drillkeep.Resumed", spec := "resumed", apart := false, narrowed := true }
def ResumedUptoSaid : Prop := resumedUptoRow.holds Try.pinned (OpenSpec.upto resumedSpec)

/-- 'drillkeep.Spoilt', WHERE WHAT IT READS IS OF BULK AT MOST 1048576: true; the input reads as it did. -/
def spoiltUptoRow : OpenClaim := { program := "ytfpodnleimhohab", sum := "fbc46303c2b6a5876af070b029ba2a7317ffce0bb2bad359e52807a3d9998ce2", func := "drill/drillkeep.Spoilt", spec := "spoilt", apart := false, narrowed := true }
def SpoiltUptoSaid : Prop := spoiltUptoRow.holds Try.pinned (OpenSpec.upto spoiltSpec)

end Rows
end Go.Proofs.Ytfpodnleimhohab
