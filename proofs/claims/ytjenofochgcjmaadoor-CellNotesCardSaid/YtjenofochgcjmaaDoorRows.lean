/-
  NARROWER THAN 'FOR EVERY INPUT', by the rows' own cells (each row's printed sentence says how): CellAsks: laid · CellJoins: laid · CellIndents: laid · CellNotes: laid.
  DERIVED. THE GIVEN ROWS OF THIS SEAT. 4 by the template 'for every input the law returns true; each argument reads behind the call as it read before'; 0 by the template 'total and deterministic' (their statements: YtjenofochgcjmaaDoorTotals.lean).
  GIVEN WITH THE SEED: the statements are not yours to turn. If you find one false, say at which input.
  Laid BY PROGRAM, IN A SANDBOX (cutbox-rows.mjs): the forced cells as the released guide's own fill.sh prints them over the translation a34fed962d99432b… (all of the seat's roots in one cut). By AI agents, Wed Nov 11 2026. No macro, syntax, notation, axiom, sorry.
-/
import Derived.Test.YtjenofochgcjmaaDoorChecked
import GoSem.Claim
import GoSem.ClaimJoined
import GoSem.ClaimMapViews
import Derived.JoinedTies
import Derived.KernelRfl
namespace Go.Proofs.YtjenofochgcjmaaDoor
/- THE CELL 'sum', in the pinned program and in every row, IS THE sha256 OF THE DUMP (.gsa) THAT YtjenofochgcjmaaDoorProg.lean LOADS. Nothing in Lean hashes anything: it is a label: what it is worth is what the hold of that sum in a sandbox is worth. -/
noncomputable def Tryd.pinned : Pinned := { name := "ytjenofochgcjmaadoor", sum := "a34fed962d99432b8c838adf96a8c4c6c67aeee23ac4716bd0cf4f19c8dadae9", checked := Tryd.checked }
namespace Rows
def none {H : Type} : Left H := { results := [], args := [] }

/- WHAT THE LISTED PACKAGE-LEVEL VARIABLES READ AS WHEN THE CALL BEGINS. Each datum BY PROGRAM (the guide's laid-datum.mjs) off the statement by which the dump's own 'gosem.cut.vars' lays the variable. In a bare row this is a premise. The card (YtjenofochgcjmaaDoorCards.lean) ties it to the program's text. -/
def laid_galley_utf_lengths {H : Type} : DataW H := .agg [.lit (.int .i64 1), .lit (.int .i64 1), .lit (.int .i64 1), .lit (.int .i64 1), .lit (.int .i64 1), .lit (.int .i64 1), .lit (.int .i64 1), .lit (.int .i64 1), .lit (.int .i64 1), .lit (.int .i64 1), .lit (.int .i64 1), .lit (.int .i64 1), .lit (.int .i64 1), .lit (.int .i64 1), .lit (.int .i64 1), .lit (.int .i64 1), .lit (.int .i64 0), .lit (.int .i64 0), .lit (.int .i64 0), .lit (.int .i64 0), .lit (.int .i64 0), .lit (.int .i64 0), .lit (.int .i64 0), .lit (.int .i64 0), .lit (.int .i64 2), .lit (.int .i64 2), .lit (.int .i64 2), .lit (.int .i64 2), .lit (.int .i64 3), .lit (.int .i64 3), .lit (.int .i64 4), .lit (.int .i64 0)]
def laid_galley_utf_heads {H : Type} : DataW H := .agg [.lit (.int .u8 0), .lit (.int .u8 0), .lit (.int .u8 192), .lit (.int .u8 224), .lit (.int .u8 240)]
def laid_galley_utf_least {H : Type} : DataW H := .agg [.lit (.int .i64 0), .lit (.int .i64 0), .lit (.int .i64 128), .lit (.int .i64 2048), .lit (.int .i64 65536)]

/-- 'galleylaw12.CellAsks': WHATEVER THE INPUT: true; the input reads as it did. -/
def cellAsksSpec : ChangeSpec := { name := "cellAsks", fn := fun _ => fun
  | [d1, d2, d3] => { results := [.lit (.bool true)], args := [d1, d2, d3] }
  | _ => none }
def cellAsksRow : OpenClaim := { program := "ytjenofochgcjmaadoor", sum := "a34fed962d99432b8c838adf96a8c4c6c67aeee23ac4716bd0cf4f19c8dadae9", func := "galley/galleylaw12.CellAsks", spec := "cellAsks", inPlace := ["internal/abi.NoEscape", "internal/bytealg.MakeNoZero"], unfollowed := true, recurses := true, named := ["galley/utf.lengths", "galley/utf.least", "galley/utf.heads"], apart := false, laid := [("galley/utf.lengths", laid_galley_utf_lengths), ("galley/utf.heads", laid_galley_utf_heads), ("galley/utf.least", laid_galley_utf_least)] }
def CellAsksSaid : Prop := cellAsksRow.holds Tryd.pinned (OpenSpec.ofChange cellAsksSpec)

/-- ITS FALSE NEIGHBOUR: 'it returns false'. Refute it at one input. -/
def cellAsksWrong : ChangeSpec := { name := "cellAsks", fn := fun _ => fun
  | [d1, d2, d3] => { results := [.lit (.bool false)], args := [d1, d2, d3] }
  | _ => none }
def CellAsksWrongFalsely : Prop := cellAsksRow.holds Tryd.pinned (OpenSpec.ofChange cellAsksWrong)

/-- 'galleylaw12.CellJoins': WHATEVER THE INPUT: true; the input reads as it did. -/
def cellJoinsSpec : ChangeSpec := { name := "cellJoins", fn := fun _ => fun
  | [d1, d2, d3] => { results := [.lit (.bool true)], args := [d1, d2, d3] }
  | _ => none }
def cellJoinsRow : OpenClaim := { program := "ytjenofochgcjmaadoor", sum := "a34fed962d99432b8c838adf96a8c4c6c67aeee23ac4716bd0cf4f19c8dadae9", func := "galley/galleylaw12.CellJoins", spec := "cellJoins", inPlace := ["internal/abi.NoEscape", "internal/bytealg.MakeNoZero"], unfollowed := true, recurses := true, named := ["galley/utf.lengths", "galley/utf.least", "galley/utf.heads"], apart := false, laid := [("galley/utf.lengths", laid_galley_utf_lengths), ("galley/utf.heads", laid_galley_utf_heads), ("galley/utf.least", laid_galley_utf_least)] }
def CellJoinsSaid : Prop := cellJoinsRow.holds Tryd.pinned (OpenSpec.ofChange cellJoinsSpec)

/-- ITS FALSE NEIGHBOUR: 'it returns false'. Refute it at one input. -/
def cellJoinsWrong : ChangeSpec := { name := "cellJoins", fn := fun _ => fun
  | [d1, d2, d3] => { results := [.lit (.bool false)], args := [d1, d2, d3] }
  | _ => none }
def CellJoinsWrongFalsely : Prop := cellJoinsRow.holds Tryd.pinned (OpenSpec.ofChange cellJoinsWrong)

/-- 'galleylaw12.CellIndents': WHATEVER THE INPUT: true; the input reads as it did. -/
def cellIndentsSpec : ChangeSpec := { name := "cellIndents", fn := fun _ => fun
  | [d] => { results := [.lit (.bool true)], args := [d] }
  | _ => none }
def cellIndentsRow : OpenClaim := { program := "ytjenofochgcjmaadoor", sum := "a34fed962d99432b8c838adf96a8c4c6c67aeee23ac4716bd0cf4f19c8dadae9", func := "galley/galleylaw12.CellIndents", spec := "cellIndents", inPlace := ["internal/abi.NoEscape", "internal/bytealg.MakeNoZero"], unfollowed := true, recurses := true, named := ["galley/utf.lengths", "galley/utf.least", "galley/utf.heads"], apart := false, laid := [("galley/utf.lengths", laid_galley_utf_lengths), ("galley/utf.heads", laid_galley_utf_heads), ("galley/utf.least", laid_galley_utf_least)] }
def CellIndentsSaid : Prop := cellIndentsRow.holds Tryd.pinned (OpenSpec.ofChange cellIndentsSpec)

/-- ITS FALSE NEIGHBOUR: 'it returns false'. Refute it at one input. -/
def cellIndentsWrong : ChangeSpec := { name := "cellIndents", fn := fun _ => fun
  | [d] => { results := [.lit (.bool false)], args := [d] }
  | _ => none }
def CellIndentsWrongFalsely : Prop := cellIndentsRow.holds Tryd.pinned (OpenSpec.ofChange cellIndentsWrong)

/-- 'galleylaw12.CellNotes': WHATEVER THE INPUT: true; the input reads as it did. -/
def cellNotesSpec : ChangeSpec := { name := "cellNotes", fn := fun _ => fun
  | [d] => { results := [.lit (.bool true)], args := [d] }
  | _ => none }
def cellNotesRow : OpenClaim := { program := "ytjenofochgcjmaadoor", sum := "a34fed962d99432b8c838adf96a8c4c6c67aeee23ac4716bd0cf4f19c8dadae9", func := "galley/galleylaw12.CellNotes", spec := "cellNotes", inPlace := ["internal/abi.NoEscape", "internal/bytealg.MakeNoZero"], unfollowed := true, recurses := true, named := ["galley/utf.lengths", "galley/utf.least", "galley/utf.heads"], apart := false, laid := [("galley/utf.lengths", laid_galley_utf_lengths), ("galley/utf.heads", laid_galley_utf_heads), ("galley/utf.least", laid_galley_utf_least)] }
def CellNotesSaid : Prop := cellNotesRow.holds Tryd.pinned (OpenSpec.ofChange cellNotesSpec)

/-- ITS FALSE NEIGHBOUR: 'it returns false'. Refute it at one input. -/
def cellNotesWrong : ChangeSpec := { name := "cellNotes", fn := fun _ => fun
  | [d] => { results := [.lit (.bool false)], args := [d] }
  | _ => none }
def CellNotesWrongFalsely : Prop := cellNotesRow.holds Tryd.pinned (OpenSpec.ofChange cellNotesWrong)

/- THE SECOND FORM. 'bulk': how many values and letters a reading holds, each counted each time it is reached (what is shared counts as often as it is met; a slice's spare places count too). A statement '..UptoSaid' is the law's where the arguments, and the package variables that the reading takes, are together of bulk at most 1048576: NARROWER than '..Said'. Prove '..Said' where nothing that the law and all that it calls make is longer than what came in: it says more and counts as full. Else prove '..UptoSaid'. A law counts once. -/
mutual
def uptoBulk {H : Type} : DataW H → Nat
  | .lit (.string bytes) => bytes.length + 1
  | .lit _ => 1
  | .nil => 1
  | .ptr d => uptoBulk d + 1
  | .slice elems spare => uptoBulkAll elems + uptoBulkAll spare + 1
  | .agg parts => uptoBulkAll parts + 1
  | .iface _ d => uptoBulk d + 1
  | .map entries => uptoBulkEntries entries + 1
  | .held _ => 1
def uptoBulkAll {H : Type} : List (DataW H) → Nat
  | [] => 0
  | d :: r => uptoBulk d + uptoBulkAll r
def uptoBulkEntries {H : Type} : List (Lit × DataW H) → Nat
  | [] => 0
  | x :: r => uptoBulkEntry x + uptoBulkEntries r
def uptoBulkEntry {H : Type} : Lit × DataW H → Nat
  | (.string bytes, d) => bytes.length + uptoBulk d + 1
  | (_, d) => uptoBulk d + 1
 end
def uptoSmall : (H : Type) → List (DataW H) → Bool := fun _ ds => decide (uptoBulkAll ds ≤ 1048576)
def OpenSpec.upto (s : _root_.Go.ChangeSpec) : _root_.Go.OpenSpec := { _root_.Go.OpenSpec.ofChange s with cond := some uptoSmall }

/-- 'galleylaw12.CellAsks', WHERE WHAT IT READS IS OF BULK AT MOST 1048576: true; the input reads as it did. -/
def cellAsksUptoRow : OpenClaim := { program := "ytjenofochgcjmaadoor", sum := "a34fed962d99432b8c838adf96a8c4c6c67aeee23ac4716bd0cf4f19c8dadae9", func := "galley/galleylaw12.CellAsks", spec := "cellAsks", inPlace := ["internal/abi.NoEscape", "internal/bytealg.MakeNoZero"], unfollowed := true, recurses := true, named := ["galley/utf.lengths", "galley/utf.least", "galley/utf.heads"], apart := false, laid := [("galley/utf.lengths", laid_galley_utf_lengths), ("galley/utf.heads", laid_galley_utf_heads), ("galley/utf.least", laid_galley_utf_least)], narrowed := true }
def CellAsksUptoSaid : Prop := cellAsksUptoRow.holds Tryd.pinned (OpenSpec.upto cellAsksSpec)

/-- 'galleylaw12.CellJoins', WHERE WHAT IT READS IS OF BULK AT MOST 1048576: true; the input reads as it did. -/
def cellJoinsUptoRow : OpenClaim := { program := "ytjenofochgcjmaadoor", sum := "a34fed962d99432b8c838adf96a8c4c6c67aeee23ac4716bd0cf4f19c8dadae9", func := "galley/galleylaw12.CellJoins", spec := "cellJoins", inPlace := ["internal/abi.NoEscape", "internal/bytealg.MakeNoZero"], unfollowed := true, recurses := true, named := ["galley/utf.lengths", "galley/utf.least", "galley/utf.heads"], apart := false, laid := [("galley/utf.lengths", laid_galley_utf_lengths), ("galley/utf.heads", laid_galley_utf_heads), ("galley/utf.least", laid_galley_utf_least)], narrowed := true }
def CellJoinsUptoSaid : Prop := cellJoinsUptoRow.holds Tryd.pinned (OpenSpec.upto cellJoinsSpec)

/-- 'galleylaw12.CellIndents', WHERE WHAT IT READS IS OF BULK AT MOST 1048576: true; the input reads as it did. -/
def cellIndentsUptoRow : OpenClaim := { program := "ytjenofochgcjmaadoor", sum := "a34fed962d99432b8c838adf96a8c4c6c67aeee23ac4716bd0cf4f19c8dadae9", func := "galley/galleylaw12.CellIndents", spec := "cellIndents", inPlace := ["internal/abi.NoEscape", "internal/bytealg.MakeNoZero"], unfollowed := true, recurses := true, named := ["galley/utf.lengths", "galley/utf.least", "galley/utf.heads"], apart := false, laid := [("galley/utf.lengths", laid_galley_utf_lengths), ("galley/utf.heads", laid_galley_utf_heads), ("galley/utf.least", laid_galley_utf_least)], narrowed := true }
def CellIndentsUptoSaid : Prop := cellIndentsUptoRow.holds Tryd.pinned (OpenSpec.upto cellIndentsSpec)

/-- 'galleylaw12.CellNotes', WHERE WHAT IT READS IS OF BULK AT MOST 1048576: true; the input reads as it did. -/
def cellNotesUptoRow : OpenClaim := { program := "ytjenofochgcjmaadoor", sum := "a34fed962d99432b8c838adf96a8c4c6c67aeee23ac4716bd0cf4f19c8dadae9", func := "galley/galleylaw12.CellNotes", spec := "cellNotes", inPlace := ["internal/abi.NoEscape", "internal/bytealg.MakeNoZero"], unfollowed := true, recurses := true, named := ["galley/utf.lengths", "galley/utf.least", "galley/utf.heads"], apart := false, laid := [("galley/utf.lengths", laid_galley_utf_lengths), ("galley/utf.heads", laid_galley_utf_heads), ("galley/utf.least", laid_galley_utf_least)], narrowed := true }
def CellNotesUptoSaid : Prop := cellNotesUptoRow.holds Tryd.pinned (OpenSpec.upto cellNotesSpec)

end Rows
end Go.Proofs.YtjenofochgcjmaaDoor
