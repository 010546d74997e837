/-
  The contract of package lit's number.
-/
import Derived.Test.YtnmpapmjkihfcaaLitWalks
import Derived.Deep.LoopGhost
set_option linter.all false
namespace Go.Proofs.Ytnmpapmjkihfcaa
open Go.RowKit Go.PlainAid

end Go.Proofs.Ytnmpapmjkihfcaa
