/-
  The contracts of package word: Reserved, Begins, Inner, Plain.
-/
import Derived.Test.YtjenofochgcjmaaDoorProg
import Derived.Test.YtjenofochgcjmaaDoorMath
import Derived.WalkKit
import Derived.WalkSpells
import Derived.WalkLawsBesides
import Derived.Deep.QuietTactic
import Derived.BigQuiet
import Derived.Lib.Hide
namespace Go.Proofs.YtjenofochgcjmaaDoor
open Go.RowKit Go.PlainAid

theorem empty_of {s : ByteArray} (h : s.size = 0) : s = ⟨#[]⟩ := by
  cases s with | mk d => cases d with | mk l => cases l with
    | nil => rfl
    | cons x l => simp [ByteArray.size] at h
theorem ne_empty {s : ByteArray} (h : s.size ≠ 0) : (s.toList == []) = false := by
  rw [ByteArray.toList_eq]
  cases s with | mk d => cases d with | mk l => cases l with
    | nil => exact absurd rfl h
    | cons x l => rfl
end Go.Proofs.YtjenofochgcjmaaDoor
