/-
  What the claims stand on: GapWalks.
-/
import Derived.Test.YtdhadeeajgoedaaGreatK06
import Derived.Test.YtdhadeeajgoedaaGreatK15
import Derived.Deep.LoopGhost
import Derived.Deep.QuietTactic
import Derived.BigQuiet
import Derived.BigRegion
import Derived.Deep.RegionHeld3
set_option maxRecDepth 100000
set_option maxHeartbeats 4000000
set_option linter.unusedVariables false
set_option linter.unusedSimpArgs false
namespace Go.Proofs.YtdhadeeajgoedaaGreat
open Go.RowKit Go.PlainAid
theorem qqy(k a:Int)(s:ByteArray)(e:Nat)(he:a+(s.size:Int)=(e:Int))(hz:e<=1048576)(w:World):
 Calls Tryz.prog 186 #[.agg #[.int .i64 k,.string s,.int .i64 a]] w fun x w'=>x=.returned (.int .i64 (e:Int))/\Below w.heap.size w w':=by
 go_enter Tryz.func186,Tryz.ntmps186
 go_wp2_with fail
 go_ret
 exact⟨rfl,qa1 _ _⟩
end Go.Proofs.YtdhadeeajgoedaaGreat
