/-
  THE PROGRAM's gap: End, nests, Deep.
-/
import Derived.Test.YtaaijenbcfjdlaaGapDefs
import Derived.Test.YtaaijenbcfjdlaaSignWalks
import Derived.Deep.LoopGhost
import Derived.Deep.QuietTactic
import Derived.BigQuiet
import Derived.BigRegion
import Derived.Deep.RegionHeld3
namespace Go.Proofs.Ytaaijenbcfjdlaa
open Go.RowKit Go.PlainAid

set_option maxRecDepth 100000 in
theorem end_any7 (k a : Int) (s : ByteArray) (e : Nat) (he : a + (s.size : Int) = (e : Int)) (hz : e ≤ 1048576) (w : World) :
    Calls Try.prog 19 #[.agg #[.int .i64 k, .string s, .int .i64 a]] w fun x w' => x = .returned (.int .i64 (e : Int)) ∧ Below w.heap.size w w' := by
  go_enter Try.func19, Try.ntmps19
  go_wp2_with fail
  go_ret
  exact ⟨rfl, below1 _ _⟩
set_option maxRecDepth 100000 in
theorem rend_any7 (k a : Int) (s : ByteArray) (e : Nat) (he : a + (s.size : Int) = (e : Int)) (hz : e ≤ 1048576) (w : World) :
    Calls Try.prog 21 #[.agg #[.int .i64 k, .string s, .int .i64 a]] w fun x w' => x = .returned (.int .i64 (e : Int)) ∧ Below w.heap.size w w' := by
  go_enter Try.func21, Try.ntmps21
  go_wp2_with fail
  go_ret
  exact ⟨rfl, below1 _ _⟩
end Go.Proofs.Ytaaijenbcfjdlaa
