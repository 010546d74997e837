/-
  The contract of package lit's number.
-/
import Derived.Test.YtjenofochgcjmaaDoorLitWalks
import Derived.Deep.LoopGhost
namespace Go.Proofs.YtjenofochgcjmaaDoor
open Go.RowKit Go.PlainAid

end Go.Proofs.YtjenofochgcjmaaDoor
