/-
  The contract of package lit's number.
-/
import Derived.Test.YtkngnkonddpbeaaLitWalks
import Derived.Deep.LoopGhost
namespace Go.Proofs.Ytkngnkonddpbeaa
open Go.RowKit Go.PlainAid

end Go.Proofs.Ytkngnkonddpbeaa
