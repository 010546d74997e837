/-
  The contract of the document's own Escape.
-/
import Derived.Test.YtjenofochgcjmaaDoorRefEscY
import Derived.Test.YtjenofochgcjmaaDoorRefEscZ
import Derived.Test.YtjenofochgcjmaaDoorRefEscCc
namespace Go.Proofs.YtjenofochgcjmaaDoor
open Go.RowKit Go.PlainAid

theorem bt_lt' {s : ByteArray} {k : Nat} (h : bt s k ≠ 0) : k < s.size := by
  apply Classical.byContradiction
  intro h'
  exact h (bt_end s (by omega))
end Go.Proofs.YtjenofochgcjmaaDoor
