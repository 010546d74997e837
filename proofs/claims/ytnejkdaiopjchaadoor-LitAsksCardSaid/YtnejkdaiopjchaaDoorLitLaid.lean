/-
  From what the rows list of utf's three tables and lit's letters to what the walks ask; and that a start meets it.
-/
import Derived.Test.YtnejkdaiopjchaaDoorRows
import Derived.Test.YtnejkdaiopjchaaDoorLitEsc
import Derived.ProofKit
import Derived.LaidMore
import Derived.OpenShut
import Derived.Stop.Joined
import Derived.Stop.LaidErr
import Derived.Lib.LaidTab
namespace Go.Proofs.YtnejkdaiopjchaaDoor
open Go.ChangeShapes Go.WideShapes Go.ChangeAt Go.WideMaps Go.WideElems Go.RowKit

def litLaid : List (String × DataW Unit) := [("galley/utf.lengths", Rows.laid_galley_utf_lengths), ("galley/utf.heads", Rows.laid_galley_utf_heads), ("galley/utf.least", Rows.laid_galley_utf_least), ("galley/lit.letters", Rows.laid_galley_lit_letters)]
theorem own4 : ownKnob Tryd.prog.godebug = none := by kernel_rfl
theorem laidOut4 : laidOutB Tryd.prog = true := by kernel_rfl
theorem gLengths4 : Tryd.prog.globalNamed "galley/utf.lengths" = some 0 := by kernel_rfl
theorem gLeast4 : Tryd.prog.globalNamed "galley/utf.least" = some 1 := by kernel_rfl
theorem gHeads4 : Tryd.prog.globalNamed "galley/utf.heads" = some 3 := by kernel_rfl
theorem gLetters4 : Tryd.prog.globalNamed "galley/lit.letters" = some 2 := by kernel_rfl
theorem tLengths4 : (Tryd.prog.globals[0]?).map (·.type) = some 56 := by kernel_rfl
theorem tLeast4 : (Tryd.prog.globals[1]?).map (·.type) = some 58 := by kernel_rfl
theorem tHeads4 : (Tryd.prog.globals[3]?).map (·.type) = some 64 := by kernel_rfl
theorem tLetters4 : (Tryd.prog.globals[2]?).map (·.type) = some 61 := by kernel_rfl
def zsLengths4 : List Int := [1, 1, 1, 1, 1, 1, 1, 1, 1, 1, 1, 1, 1, 1, 1, 1, 0, 0, 0, 0, 0, 0, 0, 0, 2, 2, 2, 2, 3, 3, 4, 0]
def zsHeads4 : List Int := [0, 0, 192, 224, 240]
def zsLeast4 : List Int := [0, 0, 128, 2048, 65536]
def zsLetters4 : List Int := [0, 8, 0, 127, 27, 12, 0, 0, 0, 0, 0, 0, 0, 10, 0, 0, 0, 13, 32, 9, 0, 11, 0, 0, 0, 0]
theorem zl4 : ∀ k : Fin 32, zsLengths4.getD k.val 0 = (ln (8 * (k.val : Int)) : Int) := by decide +kernel
theorem zh4 : ∀ k : Fin 5, zsHeads4.getD k.val 0 = hdOf k.val := by decide +kernel
theorem zt4 : ∀ k : Fin 5, zsLeast4.getD k.val 0 = lstOf k.val := by decide +kernel
theorem zs4 : ∀ k : Fin 26, zsLetters4.getD k.val 0 = ltr (97 + (k.val : Int)) := by decide +kernel

/-- The door's own heap meets the condition. -/
theorem door_met4 (os : Os) (args : Array Value) : laidMetH Tryd.prog litLaid ((World.doorLaid Tryd.prog 400 os).forCall (fun _ _ => 0) ⟨#[], args, []⟩).memory :=
  laidMetH_of_parts3 (fuel := 8) (laidMet_of_run' 8 (by kernel_rfl) (by kernel_rfl)) (by kernel_rfl) (by kernel_rfl)
/-- What the condition gives the walks. -/
theorem ltabs_of_laid {W : World} (h : laidMetH Tryd.prog litLaid W) : LTabs W := by
  rw [MakeChecks.laidMetH_plain _ _ _ (by kernel_rfl)] at h
  have h1 := Lib.tabIs_of_head (k := .i64) (zs := zsLengths4) gLengths4 tLengths4 Tryd.underlying56 Tryd.underlying3 (by kernel_rfl) (by kernel_rfl) h
  have h2 := Lib.tabIs_of_head (k := .u8) (zs := zsHeads4) gHeads4 tHeads4 Tryd.underlying64 Tryd.underlying5 (by kernel_rfl) (by kernel_rfl) h.tail
  have h3 := Lib.tabIs_of_head (k := .i64) (zs := zsLeast4) gLeast4 tLeast4 Tryd.underlying58 Tryd.underlying3 (by kernel_rfl) (by kernel_rfl) h.tail.tail
  have h4 := Lib.tabIs_of_head (k := .i64) (zs := zsLetters4) gLetters4 tLetters4 Tryd.underlying61 Tryd.underlying3 (by kernel_rfl) (by kernel_rfl) h.tail.tail.tail
  refine ⟨⟨fun k hk => ?_, fun k hk => ?_, fun k hk => ?_⟩, fun k hk => ?_⟩
  · rw [h1.cell gLengths4 k hk, ← zl4 ⟨k, hk⟩]
  · rw [h3.cell gLeast4 k hk, ← zt4 ⟨k, hk⟩]
  · rw [h2.cell gHeads4 k hk, ← zh4 ⟨k, hk⟩]
  · rw [h4.cell gLetters4 k hk, ← zs4 ⟨k, hk⟩]
end Go.Proofs.YtnejkdaiopjchaaDoor
