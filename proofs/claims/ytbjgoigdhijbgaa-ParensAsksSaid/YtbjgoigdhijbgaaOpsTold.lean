/-
  What the statements of layer 9 ask of a few texts each time: it holds.
-/
import Derived.Test.YtbjgoigdhijbgaaPreOps
namespace Go.Proofs.Ytbjgoigdhijbgaa
open Go.RowKit Go.PlainAid

theorem pbin_is (s : ByteArray) (n : Nat) (h : bn s.toList = n) (w : World) : Calls Try.prog 22 #[.string s] w fun e w' => e = .returned (.int .i64 (n : Int)) ∧ Below w.heap.size w w' := by
  rw [← h]; exact pbin_any s w
end Go.Proofs.Ytbjgoigdhijbgaa
