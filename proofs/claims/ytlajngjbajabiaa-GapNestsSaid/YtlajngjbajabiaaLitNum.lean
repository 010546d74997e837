/-
  The contract of package lit's number.
-/
import Derived.Test.YtlajngjbajabiaaLitWalks
import Derived.Deep.LoopGhost
namespace Go.Proofs.Ytlajngjbajabiaa
open Go.RowKit Go.PlainAid

end Go.Proofs.Ytlajngjbajabiaa
