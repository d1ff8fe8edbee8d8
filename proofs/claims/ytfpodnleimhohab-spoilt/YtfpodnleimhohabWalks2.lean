/-
  WALKS: the document's sum and varint, the program's varint.
-/
import Derived.Test.YtfpodnleimhohabWalks1
namespace Go.Proofs.Ytfpodnleimhohab
open Go.RowKit

end Go.Proofs.Ytfpodnleimhohab
