/-
  The document's own Escape: hexadecimal digits and controls.
-/
import Derived.Test.YtjenofochgcjmaaDoorRefEscX
/- The walks through the document's own Escape: two digits. -/
namespace Go.Proofs.YtjenofochgcjmaaDoor
open Go.RowKit Go.PlainAid

end Go.Proofs.YtjenofochgcjmaaDoor
/- The walks through the document's own Escape: all else. -/
namespace Go.Proofs.YtjenofochgcjmaaDoor
open Go.RowKit Go.PlainAid

end Go.Proofs.YtjenofochgcjmaaDoor
