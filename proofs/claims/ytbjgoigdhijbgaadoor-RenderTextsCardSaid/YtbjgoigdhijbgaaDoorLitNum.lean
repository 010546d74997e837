/-
  The contract of package lit's number.
-/
import Derived.Test.YtbjgoigdhijbgaaDoorLitWalks
import Derived.Deep.LoopGhost
set_option linter.all false
namespace Go.Proofs.YtbjgoigdhijbgaaDoor
open Go.RowKit Go.PlainAid

end Go.Proofs.YtbjgoigdhijbgaaDoor
