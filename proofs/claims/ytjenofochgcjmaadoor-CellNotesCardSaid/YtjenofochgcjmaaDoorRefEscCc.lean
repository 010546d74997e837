/-
  The walks through the document's own Escape: control characters.
-/
import Derived.Test.YtjenofochgcjmaaDoorRefEscX
namespace Go.Proofs.YtjenofochgcjmaaDoor
open Go.RowKit Go.PlainAid

end Go.Proofs.YtjenofochgcjmaaDoor
