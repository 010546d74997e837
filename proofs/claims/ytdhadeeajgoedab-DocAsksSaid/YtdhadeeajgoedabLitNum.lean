/-
  The contract of package lit's number.
-/
import Derived.Test.YtdhadeeajgoedabLitWalks
import Derived.Deep.LoopGhost
set_option linter.all false
namespace Go.Proofs.Ytdhadeeajgoedab
open Go.RowKit Go.PlainAid

end Go.Proofs.Ytdhadeeajgoedab
