/-
  From what the rows list of the three tables to what the walks ask; and that a start meets it.
-/
import Derived.Test.YtbjgoigdhijbgaaDoorRows
import Derived.Test.YtbjgoigdhijbgaaDoorUtfs
import Derived.ProofKit
import Derived.LaidMore
import Derived.OpenShut
import Derived.Stop.Joined
import Derived.Stop.LaidErr
import Derived.Lib.LaidTab
namespace Go.Proofs.YtbjgoigdhijbgaaDoor
open Go.ChangeShapes Go.WideShapes Go.ChangeAt Go.WideMaps Go.WideElems Go.RowKit

def utfLaid : List (String × DataW Unit) := [("galley/utf.lengths", Rows.laid_galley_utf_lengths), ("galley/utf.heads", Rows.laid_galley_utf_heads), ("galley/utf.least", Rows.laid_galley_utf_least)]
theorem own : ownKnob Tryd.prog.godebug = none := by kernel_rfl
theorem laidOut : laidOutB Tryd.prog = true := by kernel_rfl
theorem gLengths : Tryd.prog.globalNamed "galley/utf.lengths" = some 0 := by kernel_rfl
theorem gLeast : Tryd.prog.globalNamed "galley/utf.least" = some 1 := by kernel_rfl
theorem gHeads : Tryd.prog.globalNamed "galley/utf.heads" = some 2 := by kernel_rfl
theorem tLengths : (Tryd.prog.globals[0]?).map (·.type) = some 99 := by kernel_rfl
theorem tLeast : (Tryd.prog.globals[1]?).map (·.type) = some 100 := by kernel_rfl
theorem tHeads : (Tryd.prog.globals[2]?).map (·.type) = some 107 := by kernel_rfl
def zsLengths : List Int := [1, 1, 1, 1, 1, 1, 1, 1, 1, 1, 1, 1, 1, 1, 1, 1, 0, 0, 0, 0, 0, 0, 0, 0, 2, 2, 2, 2, 3, 3, 4, 0]
def zsHeads : List Int := [0, 0, 192, 224, 240]
def zsLeast : List Int := [0, 0, 128, 2048, 65536]
theorem zl : ∀ k : Fin 32, zsLengths.getD k.val 0 = (ln (8 * (k.val : Int)) : Int) := by decide +kernel
theorem zh : ∀ k : Fin 5, zsHeads.getD k.val 0 = hdOf k.val := by decide +kernel
theorem zt : ∀ k : Fin 5, zsLeast.getD k.val 0 = lstOf k.val := by decide +kernel

/-- The door's own heap meets the condition. -/
theorem door_met (os : Os) (args : Array Value) : laidMetH Tryd.prog utfLaid ((World.doorLaid Tryd.prog 400 os).forCall (fun _ _ => 0) ⟨#[], args, []⟩).memory :=
  laidMetH_of_parts3 (fuel := 8) (laidMet_of_run' 8 (by kernel_rfl) (by kernel_rfl)) (by kernel_rfl) (by kernel_rfl)
/-- What the condition gives the walks. -/
theorem tabs_of_laid {W : World} (h : laidMetH Tryd.prog utfLaid W) : Tabs W := by
  rw [MakeChecks.laidMetH_plain _ _ _ (by kernel_rfl)] at h
  have h1 := Lib.tabIs_of_head (k := .i64) (zs := zsLengths) gLengths tLengths Tryd.underlying99 Tryd.underlying3 (by kernel_rfl) (by kernel_rfl) h
  have h2 := Lib.tabIs_of_head (k := .u8) (zs := zsHeads) gHeads tHeads Tryd.underlying107 Tryd.underlying5 (by kernel_rfl) (by kernel_rfl) h.tail
  have h3 := Lib.tabIs_of_head (k := .i64) (zs := zsLeast) gLeast tLeast Tryd.underlying100 Tryd.underlying3 (by kernel_rfl) (by kernel_rfl) h.tail.tail
  refine ⟨fun k hk => ?_, fun k hk => ?_, fun k hk => ?_⟩
  · rw [h1.cell gLengths k hk, ← zl ⟨k, hk⟩]
  · rw [h3.cell gLeast k hk, ← zt ⟨k, hk⟩]
  · rw [h2.cell gHeads k hk, ← zh ⟨k, hk⟩]
end Go.Proofs.YtbjgoigdhijbgaaDoor
