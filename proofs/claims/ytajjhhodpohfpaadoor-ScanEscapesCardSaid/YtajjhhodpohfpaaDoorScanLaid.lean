/-
  From what the rows list (sign's table of signs, utf's three tables, lit's letters, and two of package unicode/utf8's) to what the walks ask; and a world that meets it.
-/
import Derived.Test.YtajjhhodpohfpaaDoorRows
import Derived.Test.YtajjhhodpohfpaaDoorScanToken
import Derived.ProofKit
import Derived.LaidMore
import Derived.OpenShut
import Derived.Stop.Joined
import Derived.Stop.LaidErr
import Derived.Lib.LaidTab
import Derived.Lib.LaidU8
import Derived.Lay
import Derived.SevenTiedAt
namespace Go.Proofs.YtajjhhodpohfpaaDoor
open Go.ChangeShapes Go.WideShapes Go.ChangeAt Go.WideMaps Go.WideElems Go.RowKit

def scanLaid : List (String × DataW Unit) := [("galley/sign.marks", Rows.laid_galley_sign_marks), ("galley/utf.lengths", Rows.laid_galley_utf_lengths), ("galley/utf.heads", Rows.laid_galley_utf_heads), ("galley/utf.least", Rows.laid_galley_utf_least), ("unicode/utf8.acceptRanges", Rows.laid_unicode_utf8_acceptRanges), ("galley/lit.letters", Rows.laid_galley_lit_letters), ("unicode/utf8.first", Rows.laid_unicode_utf8_first)]
theorem own6 : ownKnob Tryd.prog.godebug = none := by kernel_rfl
theorem laidOut6 : laidOutB Tryd.prog = true := by kernel_rfl
theorem gLengths6 : Tryd.prog.globalNamed "galley/utf.lengths" = some 0 := by kernel_rfl
theorem gLeast6 : Tryd.prog.globalNamed "galley/utf.least" = some 1 := by kernel_rfl
theorem gHeads6 : Tryd.prog.globalNamed "galley/utf.heads" = some 3 := by kernel_rfl
theorem gLetters6 : Tryd.prog.globalNamed "galley/lit.letters" = some 4 := by kernel_rfl
theorem tLengths6 : (Tryd.prog.globals[0]?).map (·.type) = some 46 := by kernel_rfl
theorem tLeast6 : (Tryd.prog.globals[1]?).map (·.type) = some 48 := by kernel_rfl
theorem tHeads6 : (Tryd.prog.globals[3]?).map (·.type) = some 64 := by kernel_rfl
theorem tLetters6 : (Tryd.prog.globals[4]?).map (·.type) = some 81 := by kernel_rfl
def zsLengths6 : List Int := [1, 1, 1, 1, 1, 1, 1, 1, 1, 1, 1, 1, 1, 1, 1, 1, 0, 0, 0, 0, 0, 0, 0, 0, 2, 2, 2, 2, 3, 3, 4, 0]
def zsHeads6 : List Int := [0, 0, 192, 224, 240]
def zsLeast6 : List Int := [0, 0, 128, 2048, 65536]
def zsLetters6 : List Int := [0, 8, 0, 127, 27, 12, 0, 0, 0, 0, 0, 0, 0, 10, 0, 0, 0, 13, 32, 9, 0, 11, 0, 0, 0, 0]
theorem zl6 : ∀ k : Fin 32, zsLengths6.getD k.val 0 = (ln (8 * (k.val : Int)) : Int) := by decide +kernel
theorem zh6 : ∀ k : Fin 5, zsHeads6.getD k.val 0 = hdOf k.val := by decide +kernel
theorem zt6 : ∀ k : Fin 5, zsLeast6.getD k.val 0 = lstOf k.val := by decide +kernel
theorem zs6 : ∀ k : Fin 26, zsLetters6.getD k.val 0 = ltr (97 + (k.val : Int)) := by decide +kernel

theorem gMarks6 : Tryd.prog.globalNamed "galley/sign.marks" = some 2 := by kernel_rfl
theorem tMarks6 : (Tryd.prog.globals[2]?).map (·.type) = some 58 := by kernel_rfl
theorem cMark6 : Tryd.prog.cellsOf 57 = 3 := by kernel_rfl
theorem cMarks6 : Tryd.prog.cellsOf 58 = 111 := by kernel_rfl
theorem cByte6 : Tryd.prog.cellsOf 5 = 1 := by kernel_rfl
/-- A world that meets the condition. -/
theorem laid_met6 (os : Os) (args : Array Value) : laidMetH Tryd.prog scanLaid ((World.laidAll Tryd.prog os scanLaid).forCall (fun _ _ => 0) ⟨#[], args, []⟩).memory := by
  rw [MakeChecks.laidMetH_plain _ _ _ (by kernel_rfl)]
  exact laidMet_laidAll _ (by kernel_rfl) (by kernel_rfl)
def mkTab6 (k : Nat) : List Int := [ga k, gb k, gc k]
theorem marks_are6 : (Rows.laid_galley_sign_marks : DataW Unit) = .agg ((List.range 37).map fun k => Lib.tabData .u8 (mkTab6 k)) := by kernel_rfl
/-- What the condition gives the walks. -/
theorem mtab_of_laid6 {W : World} (h : laidMetH Tryd.prog scanLaid W) : TabM W := by
  rw [MakeChecks.laidMetH_plain _ _ _ (by kernel_rfl)] at h
  obtain ⟨g, t, cs, fuel, p, h1, h2, h3, h4⟩ := Lib.laidMet.reads h (n := "galley/sign.marks") (d := Rows.laid_galley_sign_marks) (.head _)
  obtain rfl := Option.some.inj (gMarks6.symm.trans h1)
  obtain rfl := Option.some.inj (tMarks6.symm.trans h2)
  rw [marks_are6] at h4
  have hel := Lib.array_elem (n := 37) Tryd.underlying58 h4
  have hlen : cs.toList.length = 111 := by
    cases fuel with
    | zero => simp [DataW.trod] at h4
    | succ fuel =>
      simp only [DataW.trod, Tryd.underlying58, cMark6] at h4
      split at h4
      · rename_i hl
        exact hl
      · cases h4
  have hb : ∃ t fr, W.heap[2]? = some (.cells cs t fr) := by
    simp only [World.var?, gMarks6, Option.bind_some] at h3
    split at h3
    · rename_i c t fr hc
      obtain rfl := Option.some.inj h3
      exact ⟨t, fr, hc⟩
    · cases h3
  obtain ⟨t, fr, hb⟩ := hb
  refine ⟨cs, t, fr, hb, by rw [← hlen, Array.length_toList], fun k hk => ?_⟩
  obtain ⟨f', d, q, hd, htr⟩ := hel k hk
  have hd' : d = Lib.tabData .u8 (mkTab6 k) := by
    rw [List.getElem?_map, List.getElem?_range hk] at hd
    exact (Option.some.inj hd).symm
  rw [hd', cMark6] at htr
  have hc := Lib.cells_of_tab (n := 3) Tryd.underlying57 Tryd.underlying5 cByte6 cMark6 htr
  apply Array.toList_inj.1
  rw [Array.toList_extract, List.extract_eq_take_drop, Nat.add_sub_cancel_left, hc]
  rfl
/-- What the condition gives the walks. -/
theorem ltabs_of_laid6 {W : World} (h : laidMetH Tryd.prog scanLaid W) : LTabs W := by
  rw [MakeChecks.laidMetH_plain _ _ _ (by kernel_rfl)] at h
  have h1 := Lib.tabIs_of_head (k := .i64) (zs := zsLengths6) gLengths6 tLengths6 Tryd.underlying46 Tryd.underlying3 (by kernel_rfl) (by kernel_rfl) h.tail
  have h2 := Lib.tabIs_of_head (k := .u8) (zs := zsHeads6) gHeads6 tHeads6 Tryd.underlying64 Tryd.underlying5 (by kernel_rfl) (by kernel_rfl) h.tail.tail
  have h3 := Lib.tabIs_of_head (k := .i64) (zs := zsLeast6) gLeast6 tLeast6 Tryd.underlying48 Tryd.underlying3 (by kernel_rfl) (by kernel_rfl) h.tail.tail.tail
  have h4 := Lib.tabIs_of_head (k := .i64) (zs := zsLetters6) gLetters6 tLetters6 Tryd.underlying81 Tryd.underlying3 (by kernel_rfl) (by kernel_rfl) h.tail.tail.tail.tail.tail
  refine ⟨⟨fun k hk => ?_, fun k hk => ?_, fun k hk => ?_⟩, fun k hk => ?_⟩
  · rw [h1.cell gLengths6 k hk, ← zl6 ⟨k, hk⟩]
  · rw [h3.cell gLeast6 k hk, ← zt6 ⟨k, hk⟩]
  · rw [h2.cell gHeads6 k hk, ← zh6 ⟨k, hk⟩]
  · rw [h4.cell gLetters6 k hk, ← zs6 ⟨k, hk⟩]
theorem stabs_of_laid {W : World} (h : laidMetH Tryd.prog scanLaid W) : STabs W := ⟨ltabs_of_laid6 h, mtab_of_laid6 h⟩
end Go.Proofs.YtajjhhodpohfpaaDoor
