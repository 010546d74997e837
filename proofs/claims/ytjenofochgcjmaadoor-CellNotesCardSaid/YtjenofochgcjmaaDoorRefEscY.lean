/-
  The document's own Escape: octal digits, names and the like.
-/
import Derived.Test.YtjenofochgcjmaaDoorRefEscX
/- The walks through the document's own Escape: letters, octal digits. -/
namespace Go.Proofs.YtjenofochgcjmaaDoor
open Go.RowKit Go.PlainAid

end Go.Proofs.YtjenofochgcjmaaDoor
/- The walks through the document's own Escape: braces, 1. -/
namespace Go.Proofs.YtjenofochgcjmaaDoor
open Go.RowKit Go.PlainAid

end Go.Proofs.YtjenofochgcjmaaDoor
/- The walks through the document's own Escape: braces, 2. -/
namespace Go.Proofs.YtjenofochgcjmaaDoor
open Go.RowKit Go.PlainAid

end Go.Proofs.YtjenofochgcjmaaDoor
