/-
  Bytes in a new block, read back as a text.
-/
import Derived.Test.YtjlimnmcaganfaaProg
import Derived.WalkKit
import Derived.Laws.IdiomStrings
namespace Go.Proofs.Ytjlimnmcaganfaa
open Go.RowKit

theorem conv_new (w : World) (l : List UInt8) (cells : Array Value) (n cap : Nat) (t : TypeId) (hn : l.length = n) (hc : ∀ j (hj : j < l.length), cells[j]? = some (.int .u8 (l[j].toNat : Int))) :
    (convert 27 9 (.slice (some ⟨w.heap.size, 0, none⟩) n cap)).run Try.prog (w.alloc (.cells cells t)) = .ok (.string ⟨l.toArray⟩) (w.alloc (.cells cells t)) := by
  subst hn
  refine run_convert_bytes_back (P := Try.prog) _ 27 9 5 ⟨w.heap.size, 0, none⟩ cap l Try.underlying27 Try.underlying5 Try.underlying9 ?_
  intro j hj
  have := hc j hj
  have e : (⟨w.heap.size, 0, none⟩ : Addr).add j = ⟨w.heap.size, j, none⟩ := by simp [Addr.add]; exact fun h => h.symm
  rw [e, World.cell?_alloc_new]
  exact this
/-- A byte as a number of eight bits. -/
def u8 (a : Int) : UInt8 := UInt8.ofNat a.toNat
theorem u8_toNat {a : Int} (h : 0 ≤ a ∧ a ≤ 255) : ((u8 a).toNat : Int) = a := by
  unfold u8
  rw [UInt8.toNat_ofNat']
  omega
end Go.Proofs.Ytjlimnmcaganfaa
