/-
  No cell of these rows narrows 'for every input' (looked for: loops, veiled, ifaces, maps, wideKeys, modest, calm, conditions, laid).
  DERIVED. THE GIVEN ROWS OF THIS SEAT. 10 by the template 'for every input the law returns true; each argument reads behind the call as it read before'; 0 by the template 'total and deterministic' (their statements: YtfpodnleimhohaaTotals.lean).
  GIVEN WITH THE SEED: the statements are not yours to turn. If you find one false, say at which input.
  Laid BY PROGRAM, IN A SANDBOX (cutbox-rows.mjs): the forced cells as the released guide's own fill.sh prints them over the translation be07c767d614b2f4… (all of the seat's roots in one cut). By AI agents, Wed Nov 11 2026. No macro, syntax, notation, axiom, sorry.
-/
import Derived.Test.YtfpodnleimhohaaChecked
import GoSem.Claim
import GoSem.ClaimJoined
import GoSem.ClaimMapViews
import Derived.JoinedTies
import Derived.KernelRfl
namespace Go.Proofs.Ytfpodnleimhohaa
/- THE CELL 'sum', in the pinned program and in every row, IS THE sha256 OF THE DUMP (.gsa) THAT YtfpodnleimhohaaProg.lean LOADS. Nothing in Lean hashes anything: it is a label: what it is worth is what the hold of that sum in a sandbox is worth. -/
noncomputable def Try.pinned : Pinned := { name := "ytfpodnleimhohaa", sum := "be07c767d614b2f4c872627e1836132870d4c9577efe15b8aac48600375074df", checked := Try.checked }
namespace Rows
def none {H : Type} : Left H := { results := [], args := [] }

/-- 'drilllaw.Frames': WHATEVER THE INPUT: true; the input reads as it did. -/
def framesSpec : ChangeSpec := { name := "frames", fn := fun _ => fun
  | [d] => { results := [.lit (.bool true)], args := [d] }
  | _ => none }
def framesRow : OpenClaim := { program := "ytfpodnleimhohaa", sum := "be07c767d614b2f4c872627e1836132870d4c9577efe15b8aac48600375074df", func := "drill/drilllaw.Frames", spec := "frames", recurses := true, apart := false }
def FramesSaid : Prop := framesRow.holds Try.pinned (OpenSpec.ofChange framesSpec)

/-- ITS FALSE NEIGHBOUR: 'it returns false'. Refute it at one input. -/
def framesWrong : ChangeSpec := { name := "frames", fn := fun _ => fun
  | [d] => { results := [.lit (.bool false)], args := [d] }
  | _ => none }
def FramesWrongFalsely : Prop := framesRow.holds Try.pinned (OpenSpec.ofChange framesWrong)

/-- 'drilllaw.Scans': WHATEVER THE INPUT: true; the input reads as it did. -/
def scansSpec : ChangeSpec := { name := "scans", fn := fun _ => fun
  | [d] => { results := [.lit (.bool true)], args := [d] }
  | _ => none }
def scansRow : OpenClaim := { program := "ytfpodnleimhohaa", sum := "be07c767d614b2f4c872627e1836132870d4c9577efe15b8aac48600375074df", func := "drill/drilllaw.Scans", spec := "scans", recurses := true, apart := false }
def ScansSaid : Prop := scansRow.holds Try.pinned (OpenSpec.ofChange scansSpec)

/-- ITS FALSE NEIGHBOUR: 'it returns false'. Refute it at one input. -/
def scansWrong : ChangeSpec := { name := "scans", fn := fun _ => fun
  | [d] => { results := [.lit (.bool false)], args := [d] }
  | _ => none }
def ScansWrongFalsely : Prop := scansRow.holds Try.pinned (OpenSpec.ofChange scansWrong)

/-- 'drillkeep.Framed': WHATEVER THE INPUT: true; the input reads as it did. -/
def framedSpec : ChangeSpec := { name := "framed", fn := fun _ => fun
  | [d1, d2] => { results := [.lit (.bool true)], args := [d1, d2] }
  | _ => none }
def framedRow : OpenClaim := { program := "ytfpodnleimhohaa", sum := "be07c767d614b2f4c872627e1836132870d4c9577efe15b8aac48600375074df", func := "drill/drillkeep.Framed", spec := "framed", apart := false }
def FramedSaid : Prop := framedRow.holds Try.pinned (OpenSpec.ofChange framedSpec)

/-- ITS FALSE NEIGHBOUR: 'it returns false'. Refute it at one input. -/
def framedWrong : ChangeSpec := { name := "framed", fn := fun _ => fun
  | [d1, d2] => { results := [.lit (.bool false)], args := [d1, d2] }
  | _ => none }
def FramedWrongFalsely : Prop := framedRow.holds Try.pinned (OpenSpec.ofChange framedWrong)

/-- 'drillkeep.Parted': WHATEVER THE INPUT: true; the input reads as it did. -/
def partedSpec : ChangeSpec := { name := "parted", fn := fun _ => fun
  | [d] => { results := [.lit (.bool true)], args := [d] }
  | _ => none }
def partedRow : OpenClaim := { program := "ytfpodnleimhohaa", sum := "be07c767d614b2f4c872627e1836132870d4c9577efe15b8aac48600375074df", func := "drill/drillkeep.Parted", spec := "parted", apart := false }
def PartedSaid : Prop := partedRow.holds Try.pinned (OpenSpec.ofChange partedSpec)

/-- ITS FALSE NEIGHBOUR: 'it returns false'. Refute it at one input. -/
def partedWrong : ChangeSpec := { name := "parted", fn := fun _ => fun
  | [d] => { results := [.lit (.bool false)], args := [d] }
  | _ => none }
def PartedWrongFalsely : Prop := partedRow.holds Try.pinned (OpenSpec.ofChange partedWrong)

/-- 'drilllaw.Places': WHATEVER THE INPUT: true; the input reads as it did. -/
def placesSpec : ChangeSpec := { name := "places", fn := fun _ => fun
  | [d] => { results := [.lit (.bool true)], args := [d] }
  | _ => none }
def placesRow : OpenClaim := { program := "ytfpodnleimhohaa", sum := "be07c767d614b2f4c872627e1836132870d4c9577efe15b8aac48600375074df", func := "drill/drilllaw.Places", spec := "places", apart := false }
def PlacesSaid : Prop := placesRow.holds Try.pinned (OpenSpec.ofChange placesSpec)

/-- ITS FALSE NEIGHBOUR: 'it returns false'. Refute it at one input. -/
def placesWrong : ChangeSpec := { name := "places", fn := fun _ => fun
  | [d] => { results := [.lit (.bool false)], args := [d] }
  | _ => none }
def PlacesWrongFalsely : Prop := placesRow.holds Try.pinned (OpenSpec.ofChange placesWrong)

/-- 'drillkeep.Turned': WHATEVER THE INPUT: true; the input reads as it did. -/
def turnedSpec : ChangeSpec := { name := "turned", fn := fun _ => fun
  | [d1, d2, d3] => { results := [.lit (.bool true)], args := [d1, d2, d3] }
  | _ => none }
def turnedRow : OpenClaim := { program := "ytfpodnleimhohaa", sum := "be07c767d614b2f4c872627e1836132870d4c9577efe15b8aac48600375074df", func := "drill/drillkeep.Turned", spec := "turned", apart := false }
def TurnedSaid : Prop := turnedRow.holds Try.pinned (OpenSpec.ofChange turnedSpec)

/-- ITS FALSE NEIGHBOUR: 'it returns false'. Refute it at one input. -/
def turnedWrong : ChangeSpec := { name := "turned", fn := fun _ => fun
  | [d1, d2, d3] => { results := [.lit (.bool false)], args := [d1, d2, d3] }
  | _ => none }
def TurnedWrongFalsely : Prop := turnedRow.holds Try.pinned (OpenSpec.ofChange turnedWrong)

/-- 'drillkeep.Epochs': WHATEVER THE INPUT: true; the input reads as it did. -/
def epochsSpec : ChangeSpec := { name := "epochs", fn := fun _ => fun
  | [d1, d2, d3] => { results := [.lit (.bool true)], args := [d1, d2, d3] }
  | _ => none }
def epochsRow : OpenClaim := { program := "ytfpodnleimhohaa", sum := "be07c767d614b2f4c872627e1836132870d4c9577efe15b8aac48600375074df", func := "drill/drillkeep.Epochs", spec := "epochs", apart := false }
def EpochsSaid : Prop := epochsRow.holds Try.pinned (OpenSpec.ofChange epochsSpec)

/-- ITS FALSE NEIGHBOUR: 'it returns false'. Refute it at one input. -/
def epochsWrong : ChangeSpec := { name := "epochs", fn := fun _ => fun
  | [d1, d2, d3] => { results := [.lit (.bool false)], args := [d1, d2, d3] }
  | _ => none }
def EpochsWrongFalsely : Prop := epochsRow.holds Try.pinned (OpenSpec.ofChange epochsWrong)

/-- 'drillkeep.Workers': WHATEVER THE INPUT: true; the input reads as it did. -/
def workersSpec : ChangeSpec := { name := "workers", fn := fun _ => fun
  | [d1, d2, d3, d4, d5] => { results := [.lit (.bool true)], args := [d1, d2, d3, d4, d5] }
  | _ => none }
def workersRow : OpenClaim := { program := "ytfpodnleimhohaa", sum := "be07c767d614b2f4c872627e1836132870d4c9577efe15b8aac48600375074df", func := "drill/drillkeep.Workers", spec := "workers", apart := false }
def WorkersSaid : Prop := workersRow.holds Try.pinned (OpenSpec.ofChange workersSpec)

/-- ITS FALSE NEIGHBOUR: 'it returns false'. Refute it at one input. -/
def workersWrong : ChangeSpec := { name := "workers", fn := fun _ => fun
  | [d1, d2, d3, d4, d5] => { results := [.lit (.bool false)], args := [d1, d2, d3, d4, d5] }
  | _ => none }
def WorkersWrongFalsely : Prop := workersRow.holds Try.pinned (OpenSpec.ofChange workersWrong)

/-- 'drillkeep.Noise': WHATEVER THE INPUT: true; the input reads as it did. -/
def noiseSpec : ChangeSpec := { name := "noise", fn := fun _ => fun
  | [d1, d2, d3, d4] => { results := [.lit (.bool true)], args := [d1, d2, d3, d4] }
  | _ => none }
def noiseRow : OpenClaim := { program := "ytfpodnleimhohaa", sum := "be07c767d614b2f4c872627e1836132870d4c9577efe15b8aac48600375074df", func := "drill/drillkeep.Noise", spec := "noise", apart := false }
def NoiseSaid : Prop := noiseRow.holds Try.pinned (OpenSpec.ofChange noiseSpec)

/-- ITS FALSE NEIGHBOUR: 'it returns false'. Refute it at one input. -/
def noiseWrong : ChangeSpec := { name := "noise", fn := fun _ => fun
  | [d1, d2, d3, d4] => { results := [.lit (.bool false)], args := [d1, d2, d3, d4] }
  | _ => none }
def NoiseWrongFalsely : Prop := noiseRow.holds Try.pinned (OpenSpec.ofChange noiseWrong)

/-- 'drillkeep.Held': WHATEVER THE INPUT: true; the input reads as it did. -/
def heldSpec : ChangeSpec := { name := "held", fn := fun _ => fun
  | [d1, d2, d3] => { results := [.lit (.bool true)], args := [d1, d2, d3] }
  | _ => none }
def heldRow : OpenClaim := { program := "ytfpodnleimhohaa", sum := "be07c767d614b2f4c872627e1836132870d4c9577efe15b8aac48600375074df", func := "drill/drillkeep.Held", spec := "held", apart := false }
def HeldSaid : Prop := heldRow.holds Try.pinned (OpenSpec.ofChange heldSpec)

/-- ITS FALSE NEIGHBOUR: 'it returns false'. Refute it at one input. -/
def heldWrong : ChangeSpec := { name := "held", fn := fun _ => fun
  | [d1, d2, d3] => { results := [.lit (.bool false)], args := [d1, d2, d3] }
  | _ => none }
def HeldWrongFalsely : Prop := heldRow.holds Try.pinned (OpenSpec.ofChange heldWrong)

/- THE SECOND FORM. 'bulk': how many values and letters a reading holds, each counted each time it is reached (what is shared counts as often as it is met; a slice's spare places count too). A statement '..UptoSaid' is the law's where the arguments, and the package variables that the reading takes, are together of bulk at most 1048576: NARROWER than '..Said'. Prove '..Said' where nothing that the law and all that it calls make is longer than what came in: it says more and counts as full. Else prove '..UptoSaid'. A law counts once. -/
mutual
def uptoBulk {H : Type} : DataW H → Nat
  | .lit (.string bytes) => bytes.length + 1
  | .lit _ => 1
  | .nil => 1
  | .ptr d => uptoBulk d + 1
  | .slice elems spare => uptoBulkAll elems + uptoBulkAll spare + 1
  | .agg parts => uptoBulkAll parts + 1
  | .iface _ d => uptoBulk d + 1
  | .map entries => uptoBulkEntries entries + 1
  | .held _ => 1
def uptoBulkAll {H : Type} : List (DataW H) → Nat
  | [] => 0
  | d :: r => uptoBulk d + uptoBulkAll r
def uptoBulkEntries {H : Type} : List (Lit × DataW H) → Nat
  | [] => 0
  | x :: r => uptoBulkEntry x + uptoBulkEntries r
def uptoBulkEntry {H : Type} : Lit × DataW H → Nat
  | (.string bytes, d) => bytes.length + uptoBulk d + 1
  | (_, d) => uptoBulk d + 1
 end
def uptoSmall : (H : Type) → List (DataW H) → Bool := fun _ ds => decide (uptoBulkAll ds ≤ 1048576)
def OpenSpec.upto (s : _root_.Go.ChangeSpec) : _root_.Go.OpenSpec := { _root_.Go.OpenSpec.ofChange s with cond := some uptoSmall }

/-- 'drilllaw.Frames', WHERE WHAT IT READS IS OF BULK AT MOST 1048576: true; the input reads as it did. -/
def framesUptoRow : OpenClaim := { program := "ytfpodnleimhohaa", sum := "be07c767d614b2f4c872627e1836132870d4c9577efe15b8aac48600375074df", func := "drill/drilllaw.Frames", spec := "frames", recurses := true, apart := false, narrowed := true }
def FramesUptoSaid : Prop := framesUptoRow.holds Try.pinned (OpenSpec.upto framesSpec)

/-- 'drilllaw.Scans', WHERE WHAT IT READS IS OF BULK AT MOST 1048576: true; the input reads as it did. -/
def scansUptoRow : OpenClaim := { program := "ytfpodnleimhohaa", sum := "be07c767d614b2f4c872627e1836132870d4c9577efe15b8aac48600375074df", func := "drill/drilllaw.Scans", spec := "scans", recurses := true, apart := false, narrowed := true }
def ScansUptoSaid : Prop := scansUptoRow.holds Try.pinned (OpenSpec.upto scansSpec)

/-- 'drillkeep.Framed', WHERE WHAT IT READS IS OF BULK AT MOST 1048576: true; the input reads as it did. -/
def framedUptoRow : OpenClaim := { program := "ytfpodnleimhohaa", sum := "be07c767d614b2f4c872627e1836132870d4c9577efe15b8aac48600375074df", func := "drill/drillkeep.Framed", spec := "framed", apart := false, narrowed := true }
def FramedUptoSaid : Prop := framedUptoRow.holds Try.pinned (OpenSpec.upto framedSpec)

/-- 'drillkeep.Parted', WHERE WHAT IT READS IS OF BULK AT MOST 1048576: true; the input reads as it did. -/
def partedUptoRow : OpenClaim := { program := "ytfpodnleimhohaa", sum := "be07c767d614b2f4c872627e1836132870d4c9577efe15b8aac48600375074df", func := "drill/drillkeep.Parted", spec := "parted", apart := false, narrowed := true }
def PartedUptoSaid : Prop := partedUptoRow.holds Try.pinned (OpenSpec.upto partedSpec)

/-- 'drilllaw.Places', WHERE WHAT IT READS IS OF BULK AT MOST 1048576: true; the input reads as it did. -/
def placesUptoRow : OpenClaim := { program := "ytfpodnleimhohaa", sum := "be07c767d614b2f4c872627e1836132870d4c9577efe15b8aac48600375074df", func := "drill/drilllaw.Places", spec := "places", apart := false, narrowed := true }
def PlacesUptoSaid : Prop := placesUptoRow.holds Try.pinned (OpenSpec.upto placesSpec)

/-- 'drillkeep.Turned', WHERE WHAT IT READS IS OF BULK AT MOST 1048576: true; the input reads as it did. -/
def turnedUptoRow : OpenClaim := { program := "ytfpodnleimhohaa", sum := "be07c767d614b2f4c872627e1836132870d4c9577efe15b8aac48600375074df", func := "drill/drillkeep.Turned", spec := "turned", apart := false, narrowed := true }
def TurnedUptoSaid : Prop := turnedUptoRow.holds Try.pinned (OpenSpec.upto turnedSpec)

/-- 'drillkeep.Epochs', WHERE WHAT IT READS IS OF BULK AT MOST 1048576: true; the input reads as it did. -/
def epochsUptoRow : OpenClaim := { program := "ytfpodnleimhohaa", sum := "be07c767d614b2f4c872627e1836132870d4c9577efe15b8aac48600375074df", func := "drill/drillkeep.Epochs", spec := "epochs", apart := false, narrowed := true }
def EpochsUptoSaid : Prop := epochsUptoRow.holds Try.pinned (OpenSpec.upto epochsSpec)

/-- 'drillkeep.Workers', WHERE WHAT IT READS IS OF BULK AT MOST 1048576: true; the input reads as it did. -/
def workersUptoRow : OpenClaim := { program := "ytfpodnleimhohaa", sum := "be07c767d614b2f4c872627e1836132870d4c9577efe15b8aac48600375074df", func := "drill/drillkeep.Workers", spec := "workers", apart := false, narrowed := true }
def WorkersUptoSaid : Prop := workersUptoRow.holds Try.pinned (OpenSpec.upto workersSpec)

/-- 'drillkeep.Noise', WHERE WHAT IT READS IS OF BULK AT MOST 1048576: true; the input reads as it did. -/
def noiseUptoRow : OpenClaim := { program := "ytfpodnleimhohaa", sum := "be07c767d614b2f4c872627e1836132870d4c9577efe15b8aac48600375074df", func := "drill/drillkeep.Noise", spec := "noise", apart := false, narrowed := true }
def NoiseUptoSaid : Prop := noiseUptoRow.holds Try.pinned (OpenSpec.upto noiseSpec)

/-- 'drillkeep.Held', WHERE WHAT IT READS IS OF BULK AT MOST 1048576: true; the input reads as it did. -/
def heldUptoRow : OpenClaim := { program := "ytfpodnleimhohaa", sum := "be07c767d614b2f4c872627e1836132870d4c9577efe15b8aac48600375074df", func := "drill/drillkeep.Held", spec := "held", apart := false, narrowed := true }
def HeldUptoSaid : Prop := heldUptoRow.holds Try.pinned (OpenSpec.upto heldSpec)

end Rows
end Go.Proofs.Ytfpodnleimhohaa
