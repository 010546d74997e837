/-
  The contract of package lit's number.
-/
import Derived.Test.YtnmpapmjkihfcaaDoorLitWalks
import Derived.Deep.LoopGhost
set_option linter.all false
namespace Go.Proofs.YtnmpapmjkihfcaaDoor
open Go.RowKit Go.PlainAid

end Go.Proofs.YtnmpapmjkihfcaaDoor
