/-
  From what the rows list of sign's table to what the walks ask; and that a start meets it.
-/
import Derived.Test.YtgkilffofnjmlaaDoorRows
import Derived.Test.YtgkilffofnjmlaaDoorSignTold
import Derived.ProofKit
import Derived.LaidMore
import Derived.OpenShut
import Derived.Stop.Joined
import Derived.Stop.LaidErr
import Derived.Lib.LaidU8
namespace Go.Proofs.YtgkilffofnjmlaaDoor
open Go.ChangeShapes Go.WideShapes Go.ChangeAt Go.WideMaps Go.WideElems Go.RowKit

def signLaid : List (String × DataW Unit) := [("galley/sign.marks", Rows.laid_galley_sign_marks)]
theorem own5 : ownKnob Tryd.prog.godebug = none := by kernel_rfl
theorem laidOut5 : laidOutB Tryd.prog = true := by kernel_rfl
theorem gMarks : Tryd.prog.globalNamed "galley/sign.marks" = some 0 := by kernel_rfl
theorem tMarks : (Tryd.prog.globals[0]?).map (·.type) = some 35 := by kernel_rfl
theorem cMark : Tryd.prog.cellsOf 34 = 3 := by kernel_rfl
theorem cMarks : Tryd.prog.cellsOf 35 = 111 := by kernel_rfl
theorem cByte : Tryd.prog.cellsOf 5 = 1 := by kernel_rfl
/-- The door's own heap meets the condition. -/
theorem door_met5 (os : Os) (args : Array Value) : laidMetH Tryd.prog signLaid ((World.doorLaid Tryd.prog 400 os).forCall (fun _ _ => 0) ⟨#[], args, []⟩).memory :=
  laidMetH_of_parts3 (fuel := 8) (laidMet_of_run' 8 (by kernel_rfl) (by kernel_rfl)) (by kernel_rfl) (by kernel_rfl)
def mkTab (k : Nat) : List Int := [ga k, gb k, gc k]
theorem marks_are : (Rows.laid_galley_sign_marks : DataW Unit) = .agg ((List.range 37).map fun k => Lib.tabData .u8 (mkTab k)) := by kernel_rfl
/-- What the condition gives the walks. -/
theorem mtab_of_laid {W : World} (h : laidMetH Tryd.prog signLaid W) : TabM W := by
  rw [MakeChecks.laidMetH_plain _ _ _ (by kernel_rfl)] at h
  obtain ⟨g, t, cs, fuel, p, h1, h2, h3, h4⟩ := Lib.laidMet.reads h (n := "galley/sign.marks") (d := Rows.laid_galley_sign_marks) (.head _)
  obtain rfl := Option.some.inj (gMarks.symm.trans h1)
  obtain rfl := Option.some.inj (tMarks.symm.trans h2)
  rw [marks_are] at h4
  have hel := Lib.array_elem (n := 37) Tryd.underlying35 h4
  have hlen : cs.toList.length = 111 := by
    cases fuel with
    | zero => simp [DataW.trod] at h4
    | succ fuel =>
      simp only [DataW.trod, Tryd.underlying35, cMark] at h4
      split at h4
      · rename_i hl
        exact hl
      · cases h4
  have hb : ∃ t fr, W.heap[0]? = some (.cells cs t fr) := by
    simp only [World.var?, gMarks, Option.bind_some] at h3
    split at h3
    · rename_i c t fr hc
      obtain rfl := Option.some.inj h3
      exact ⟨t, fr, hc⟩
    · cases h3
  obtain ⟨t, fr, hb⟩ := hb
  refine ⟨cs, t, fr, hb, by rw [← hlen, Array.length_toList], fun k hk => ?_⟩
  obtain ⟨f', d, q, hd, htr⟩ := hel k hk
  have hd' : d = Lib.tabData .u8 (mkTab k) := by
    rw [List.getElem?_map, List.getElem?_range hk] at hd
    exact (Option.some.inj hd).symm
  rw [hd', cMark] at htr
  have hc := Lib.cells_of_tab (n := 3) Tryd.underlying34 Tryd.underlying5 cByte cMark htr
  apply Array.toList_inj.1
  rw [Array.toList_extract, List.extract_eq_take_drop, Nat.add_sub_cancel_left, hc]
  rfl
end Go.Proofs.YtgkilffofnjmlaaDoor
