/-
  The contract of package lit's number.
-/
import Derived.Test.YtaaijenbcfjdlaaLitWalks
import Derived.Deep.LoopGhost
namespace Go.Proofs.Ytaaijenbcfjdlaa
open Go.RowKit Go.PlainAid

end Go.Proofs.Ytaaijenbcfjdlaa
