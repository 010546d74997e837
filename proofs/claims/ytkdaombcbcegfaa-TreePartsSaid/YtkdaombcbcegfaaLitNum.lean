/-
  The contract of package lit's number.
-/
import Derived.Test.YtkdaombcbcegfaaLitWalks
import Derived.Deep.LoopGhost
namespace Go.Proofs.Ytkdaombcbcegfaa
open Go.RowKit Go.PlainAid

end Go.Proofs.Ytkdaombcbcegfaa
