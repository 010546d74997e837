import Derived.Test.YtdhadeeajgoedaaGreatRows
import Derived.WalkKit
import Derived.ProofKit
import Derived.OpenShut
import Derived.LaidMore
import Derived.Stop.Joined
import Derived.Stop.LaidErr
set_option maxRecDepth 100000
set_option maxHeartbeats 4000000
set_option linter.all false
namespace Go.Proofs.YtdhadeeajgoedaaGreat
open Go.ChangeShapes Go.WideShapes Go.ChangeAt Go.WideMaps Go.WideElems Go.RowKit
theorem qgv:ownKnob Tryz.prog.godebug=none:=by kernel_rfl
end Go.Proofs.YtdhadeeajgoedaaGreat
