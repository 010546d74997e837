/-
  The document's own answers for digits (galleyref1's value, Run, run): by contract, and what they have to do with the program's.
-/
import Derived.Test.YtjenofochgcjmaaDoorRunMath
import Derived.Test.YtjenofochgcjmaaDoorRefWord
import Derived.Test.YtjenofochgcjmaaDoorLitNum
import Derived.Test.YtjenofochgcjmaaDoorQuoMath
import Derived.Deep.LoopGhost
namespace Go.Proofs.YtjenofochgcjmaaDoor
open Go.RowKit Go.PlainAid

end Go.Proofs.YtjenofochgcjmaaDoor
