/-
  The contracts of the document's own Whole and Integer.
-/
import Derived.Test.YtjenofochgcjmaaDoorRefIntMath
import Derived.Test.YtjenofochgcjmaaDoorRefRun
namespace Go.Proofs.YtjenofochgcjmaaDoor
open Go.RowKit Go.PlainAid

end Go.Proofs.YtjenofochgcjmaaDoor
