/-
  The contracts of package sign but Longest: how many bytes a sign has, Pair, Opens, Closes.
-/
import Derived.Test.YtbjgoigdhijbgaaProg
import Derived.Test.YtbjgoigdhijbgaaMath
import Derived.WalkKit
import Derived.WalkSpells
import Derived.WalkLawsBesides
import Derived.Deep.QuietTactic
import Derived.BigQuiet
import Derived.Deep.LoopGhost
import Derived.Lib.Hide
set_option linter.all false
namespace Go.Proofs.Ytbjgoigdhijbgaa
open Go.RowKit Go.PlainAid

theorem ret_bool {b c : Bool} (h : b = c) : Ending.returned (Value.bool b) = Ending.returned (Value.bool c) := by rw [h]
theorem data_of {s : ByteArray} {l : List UInt8} (h : (s.toList == l) = true) : s.data.toList = l := by
  rw [ByteArray.toList_eq] at h; exact eq_of_beq h
theorem data_ne {s : ByteArray} {l : List UInt8} (h : (s.toList == l) = false) : s.data.toList ≠ l := by
  rw [ByteArray.toList_eq] at h; exact ne_of_beq_false h
theorem data_beq {s : ByteArray} {l : List UInt8} : (s.data.toList == l) = (s.toList == l) := by rw [ByteArray.toList_eq]
/-- A text has a pair just if it opens. -/
theorem pr_opq (s : ByteArray) : (!(pr s).toList.isEmpty) = opq s.data.toList := by
  rw [ByteArray.toList_eq]
  unfold pr prL opq
  split
  · rename_i h; rw [h]; rfl
  split
  · rename_i h; rw [h]; rfl
  split
  · rename_i h; rw [h]; rfl
  split
  · rename_i h; rw [h]; rfl
  · rename_i h1 h2 h3 h4
    rw [beq_false_of_ne h1, beq_false_of_ne h2, beq_false_of_ne h3, beq_false_of_ne h4]; rfl
end Go.Proofs.Ytbjgoigdhijbgaa
