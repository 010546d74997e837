/-
  NARROWER THAN 'FOR EVERY INPUT', by the rows' own cells (each row's printed sentence says how): LitAsks: laid · LitWhole: laid · LitEscapes: laid · LitChars: laid · LitFloats: laid.
  DERIVED. THE GIVEN ROWS OF THIS SEAT. 5 by the template 'for every input the law returns true; each argument reads behind the call as it read before'; 0 by the template 'total and deterministic' (their statements: YtnejkdaiopjchaaDoorTotals.lean).
  GIVEN WITH THE SEED: the statements are not yours to turn. If you find one false, say at which input.
  Laid BY PROGRAM, IN A SANDBOX (cutbox-rows.mjs): the forced cells as the released guide's own fill.sh prints them over the translation 1c3df5eed97dbac2… (all of the seat's roots in one cut). By AI agents, Wed Nov 11 2026. No macro, syntax, notation, axiom, sorry.
-/
import Derived.Test.YtnejkdaiopjchaaDoorChecked
import GoSem.Claim
import GoSem.ClaimJoined
import GoSem.ClaimMapViews
import Derived.JoinedTies
import Derived.KernelRfl
namespace Go.Proofs.YtnejkdaiopjchaaDoor
/- THE CELL 'sum', in the pinned program and in every row, IS THE sha256 OF THE DUMP (.gsa) THAT YtnejkdaiopjchaaDoorProg.lean LOADS. Nothing in Lean hashes anything: it is a label: what it is worth is what the hold of that sum in a sandbox is worth. -/
noncomputable def Tryd.pinned : Pinned := { name := "ytnejkdaiopjchaadoor", sum := "1c3df5eed97dbac2b2b3c4ce66544dd9bf22b0c47aff08945e27a27579bbc36a", checked := Tryd.checked }
namespace Rows
def none {H : Type} : Left H := { results := [], args := [] }

/- WHAT THE LISTED PACKAGE-LEVEL VARIABLES READ AS WHEN THE CALL BEGINS. Each datum BY PROGRAM (the guide's laid-datum.mjs) off the statement by which the dump's own 'gosem.cut.vars' lays the variable. In a bare row this is a premise. The card (YtnejkdaiopjchaaDoorCards.lean) ties it to the program's text. -/
def laid_galley_utf_lengths {H : Type} : DataW H := .agg [.lit (.int .i64 1), .lit (.int .i64 1), .lit (.int .i64 1), .lit (.int .i64 1), .lit (.int .i64 1), .lit (.int .i64 1), .lit (.int .i64 1), .lit (.int .i64 1), .lit (.int .i64 1), .lit (.int .i64 1), .lit (.int .i64 1), .lit (.int .i64 1), .lit (.int .i64 1), .lit (.int .i64 1), .lit (.int .i64 1), .lit (.int .i64 1), .lit (.int .i64 0), .lit (.int .i64 0), .lit (.int .i64 0), .lit (.int .i64 0), .lit (.int .i64 0), .lit (.int .i64 0), .lit (.int .i64 0), .lit (.int .i64 0), .lit (.int .i64 2), .lit (.int .i64 2), .lit (.int .i64 2), .lit (.int .i64 2), .lit (.int .i64 3), .lit (.int .i64 3), .lit (.int .i64 4), .lit (.int .i64 0)]
def laid_galley_utf_heads {H : Type} : DataW H := .agg [.lit (.int .u8 0), .lit (.int .u8 0), .lit (.int .u8 192), .lit (.int .u8 224), .lit (.int .u8 240)]
def laid_galley_utf_least {H : Type} : DataW H := .agg [.lit (.int .i64 0), .lit (.int .i64 0), .lit (.int .i64 128), .lit (.int .i64 2048), .lit (.int .i64 65536)]
def laid_galley_lit_letters {H : Type} : DataW H := .agg [.lit (.int .i64 0), .lit (.int .i64 8), .lit (.int .i64 0), .lit (.int .i64 127), .lit (.int .i64 27), .lit (.int .i64 12), .lit (.int .i64 0), .lit (.int .i64 0), .lit (.int .i64 0), .lit (.int .i64 0), .lit (.int .i64 0), .lit (.int .i64 0), .lit (.int .i64 0), .lit (.int .i64 10), .lit (.int .i64 0), .lit (.int .i64 0), .lit (.int .i64 0), .lit (.int .i64 13), .lit (.int .i64 32), .lit (.int .i64 9), .lit (.int .i64 0), .lit (.int .i64 11), .lit (.int .i64 0), .lit (.int .i64 0), .lit (.int .i64 0), .lit (.int .i64 0)]

/-- 'galleylaw4.LitAsks': WHATEVER THE INPUT: true; the input reads as it did. -/
def litAsksSpec : ChangeSpec := { name := "litAsks", fn := fun _ => fun
  | [d1, d2] => { results := [.lit (.bool true)], args := [d1, d2] }
  | _ => none }
def litAsksRow : OpenClaim := { program := "ytnejkdaiopjchaadoor", sum := "1c3df5eed97dbac2b2b3c4ce66544dd9bf22b0c47aff08945e27a27579bbc36a", func := "galley/galleylaw4.LitAsks", spec := "litAsks", inPlace := ["internal/bytealg.IndexByteString", "internal/bytealg.IndexString", "math/bits.Add64"], named := ["internal/bytealg.MaxLen", "galley/lit.letters", "galley/utf.lengths", "galley/utf.least", "galley/utf.heads"], apart := false, laid := [("galley/utf.lengths", laid_galley_utf_lengths), ("galley/utf.heads", laid_galley_utf_heads), ("galley/utf.least", laid_galley_utf_least), ("galley/lit.letters", laid_galley_lit_letters)] }
def LitAsksSaid : Prop := litAsksRow.holds Tryd.pinned (OpenSpec.ofChange litAsksSpec)

/-- ITS FALSE NEIGHBOUR: 'it returns false'. Refute it at one input. -/
def litAsksWrong : ChangeSpec := { name := "litAsks", fn := fun _ => fun
  | [d1, d2] => { results := [.lit (.bool false)], args := [d1, d2] }
  | _ => none }
def LitAsksWrongFalsely : Prop := litAsksRow.holds Tryd.pinned (OpenSpec.ofChange litAsksWrong)

/-- 'galleylaw4.LitWhole': WHATEVER THE INPUT: true; the input reads as it did. -/
def litWholeSpec : ChangeSpec := { name := "litWhole", fn := fun _ => fun
  | [d1, d2, d3, d4] => { results := [.lit (.bool true)], args := [d1, d2, d3, d4] }
  | _ => none }
def litWholeRow : OpenClaim := { program := "ytnejkdaiopjchaadoor", sum := "1c3df5eed97dbac2b2b3c4ce66544dd9bf22b0c47aff08945e27a27579bbc36a", func := "galley/galleylaw4.LitWhole", spec := "litWhole", inPlace := ["internal/bytealg.IndexByteString", "internal/bytealg.IndexString", "math/bits.Add64"], named := ["internal/bytealg.MaxLen", "galley/lit.letters", "galley/utf.lengths", "galley/utf.least", "galley/utf.heads"], apart := false, laid := [("galley/utf.lengths", laid_galley_utf_lengths), ("galley/utf.heads", laid_galley_utf_heads), ("galley/utf.least", laid_galley_utf_least), ("galley/lit.letters", laid_galley_lit_letters)] }
def LitWholeSaid : Prop := litWholeRow.holds Tryd.pinned (OpenSpec.ofChange litWholeSpec)

/-- ITS FALSE NEIGHBOUR: 'it returns false'. Refute it at one input. -/
def litWholeWrong : ChangeSpec := { name := "litWhole", fn := fun _ => fun
  | [d1, d2, d3, d4] => { results := [.lit (.bool false)], args := [d1, d2, d3, d4] }
  | _ => none }
def LitWholeWrongFalsely : Prop := litWholeRow.holds Tryd.pinned (OpenSpec.ofChange litWholeWrong)

/-- 'galleylaw4.LitEscapes': WHATEVER THE INPUT: true; the input reads as it did. -/
def litEscapesSpec : ChangeSpec := { name := "litEscapes", fn := fun _ => fun
  | [d1, d2] => { results := [.lit (.bool true)], args := [d1, d2] }
  | _ => none }
def litEscapesRow : OpenClaim := { program := "ytnejkdaiopjchaadoor", sum := "1c3df5eed97dbac2b2b3c4ce66544dd9bf22b0c47aff08945e27a27579bbc36a", func := "galley/galleylaw4.LitEscapes", spec := "litEscapes", inPlace := ["internal/bytealg.IndexByteString", "internal/bytealg.IndexString", "math/bits.Add64"], named := ["internal/bytealg.MaxLen", "galley/lit.letters", "galley/utf.lengths", "galley/utf.least", "galley/utf.heads"], apart := false, laid := [("galley/utf.lengths", laid_galley_utf_lengths), ("galley/utf.heads", laid_galley_utf_heads), ("galley/utf.least", laid_galley_utf_least), ("galley/lit.letters", laid_galley_lit_letters)] }
def LitEscapesSaid : Prop := litEscapesRow.holds Tryd.pinned (OpenSpec.ofChange litEscapesSpec)

/-- ITS FALSE NEIGHBOUR: 'it returns false'. Refute it at one input. -/
def litEscapesWrong : ChangeSpec := { name := "litEscapes", fn := fun _ => fun
  | [d1, d2] => { results := [.lit (.bool false)], args := [d1, d2] }
  | _ => none }
def LitEscapesWrongFalsely : Prop := litEscapesRow.holds Tryd.pinned (OpenSpec.ofChange litEscapesWrong)

/-- 'galleylaw4.LitChars': WHATEVER THE INPUT: true; the input reads as it did. -/
def litCharsSpec : ChangeSpec := { name := "litChars", fn := fun _ => fun
  | [d] => { results := [.lit (.bool true)], args := [d] }
  | _ => none }
def litCharsRow : OpenClaim := { program := "ytnejkdaiopjchaadoor", sum := "1c3df5eed97dbac2b2b3c4ce66544dd9bf22b0c47aff08945e27a27579bbc36a", func := "galley/galleylaw4.LitChars", spec := "litChars", inPlace := ["internal/bytealg.IndexByteString", "internal/bytealg.IndexString", "math/bits.Add64"], named := ["internal/bytealg.MaxLen", "galley/lit.letters", "galley/utf.lengths", "galley/utf.least", "galley/utf.heads"], apart := false, laid := [("galley/utf.lengths", laid_galley_utf_lengths), ("galley/utf.heads", laid_galley_utf_heads), ("galley/utf.least", laid_galley_utf_least), ("galley/lit.letters", laid_galley_lit_letters)] }
def LitCharsSaid : Prop := litCharsRow.holds Tryd.pinned (OpenSpec.ofChange litCharsSpec)

/-- ITS FALSE NEIGHBOUR: 'it returns false'. Refute it at one input. -/
def litCharsWrong : ChangeSpec := { name := "litChars", fn := fun _ => fun
  | [d] => { results := [.lit (.bool false)], args := [d] }
  | _ => none }
def LitCharsWrongFalsely : Prop := litCharsRow.holds Tryd.pinned (OpenSpec.ofChange litCharsWrong)

/-- 'galleylaw4.LitFloats': WHATEVER THE INPUT: true; the input reads as it did. -/
def litFloatsSpec : ChangeSpec := { name := "litFloats", fn := fun _ => fun
  | [d1, d2, d3, d4] => { results := [.lit (.bool true)], args := [d1, d2, d3, d4] }
  | _ => none }
def litFloatsRow : OpenClaim := { program := "ytnejkdaiopjchaadoor", sum := "1c3df5eed97dbac2b2b3c4ce66544dd9bf22b0c47aff08945e27a27579bbc36a", func := "galley/galleylaw4.LitFloats", spec := "litFloats", inPlace := ["internal/bytealg.IndexByteString", "internal/bytealg.IndexString", "math/bits.Add64"], named := ["internal/bytealg.MaxLen", "galley/lit.letters", "galley/utf.lengths", "galley/utf.least", "galley/utf.heads"], apart := false, laid := [("galley/utf.lengths", laid_galley_utf_lengths), ("galley/utf.heads", laid_galley_utf_heads), ("galley/utf.least", laid_galley_utf_least), ("galley/lit.letters", laid_galley_lit_letters)] }
def LitFloatsSaid : Prop := litFloatsRow.holds Tryd.pinned (OpenSpec.ofChange litFloatsSpec)

/-- ITS FALSE NEIGHBOUR: 'it returns false'. Refute it at one input. -/
def litFloatsWrong : ChangeSpec := { name := "litFloats", fn := fun _ => fun
  | [d1, d2, d3, d4] => { results := [.lit (.bool false)], args := [d1, d2, d3, d4] }
  | _ => none }
def LitFloatsWrongFalsely : Prop := litFloatsRow.holds Tryd.pinned (OpenSpec.ofChange litFloatsWrong)

/- THE SECOND FORM. 'bulk': how many values and letters a reading holds, each counted each time it is reached (what is shared counts as often as it is met; a slice's spare places count too). A statement '..UptoSaid' is the law's where the arguments, and the package variables that the reading takes, are together of bulk at most 1048576: NARROWER than '..Said'. Prove '..Said' where nothing that the law and all that it calls make is longer than what came in: it says more and counts as full. Else prove '..UptoSaid'. A law counts once. -/
mutual
def uptoBulk {H : Type} : DataW H → Nat
  | .lit (.string bytes) => bytes.length + 1
  | .lit _ => 1
  | .nil => 1
  | .ptr d => uptoBulk d + 1
  | .slice elems spare => uptoBulkAll elems + uptoBulkAll spare + 1
  | .agg parts => uptoBulkAll parts + 1
  | .iface _ d => uptoBulk d + 1
  | .map entries => uptoBulkEntries entries + 1
  | .held _ => 1
def uptoBulkAll {H : Type} : List (DataW H) → Nat
  | [] => 0
  | d :: r => uptoBulk d + uptoBulkAll r
def uptoBulkEntries {H : Type} : List (Lit × DataW H) → Nat
  | [] => 0
  | x :: r => uptoBulkEntry x + uptoBulkEntries r
def uptoBulkEntry {H : Type} : Lit × DataW H → Nat
  | (.string bytes, d) => bytes.length + uptoBulk d + 1
  | (_, d) => uptoBulk d + 1
 end
def uptoSmall : (H : Type) → List (DataW H) → Bool := fun _ ds => decide (uptoBulkAll ds ≤ 1048576)
def OpenSpec.upto (s : _root_.Go.ChangeSpec) : _root_.Go.OpenSpec := { _root_.Go.OpenSpec.ofChange s with cond := some uptoSmall }

/-- 'galleylaw4.LitAsks', WHERE WHAT IT READS IS OF BULK AT MOST 1048576: true; the input reads as it did. -/
def litAsksUptoRow : OpenClaim := { program := "ytnejkdaiopjchaadoor", sum := "1c3df5eed97dbac2b2b3c4ce66544dd9bf22b0c47aff08945e27a27579bbc36a", func := "galley/galleylaw4.LitAsks", spec := "litAsks", inPlace := ["internal/bytealg.IndexByteString", "internal/bytealg.IndexString", "math/bits.Add64"], named := ["internal/bytealg.MaxLen", "galley/lit.letters", "galley/utf.lengths", "galley/utf.least", "galley/utf.heads"], apart := false, laid := [("galley/utf.lengths", laid_galley_utf_lengths), ("galley/utf.heads", laid_galley_utf_heads), ("galley/utf.least", laid_galley_utf_least), ("galley/lit.letters", laid_galley_lit_letters)], narrowed := true }
def LitAsksUptoSaid : Prop := litAsksUptoRow.holds Tryd.pinned (OpenSpec.upto litAsksSpec)

/-- 'galleylaw4.LitWhole', WHERE WHAT IT READS IS OF BULK AT MOST 1048576: true; the input reads as it did. -/
def litWholeUptoRow : OpenClaim := { program := "ytnejkdaiopjchaadoor", sum := "1c3df5eed97dbac2b2b3c4ce66544dd9bf22b0c47aff08945e27a27579bbc36a", func := "galley/galleylaw4.LitWhole", spec := "litWhole", inPlace := ["internal/bytealg.IndexByteString", "internal/bytealg.IndexString", "math/bits.Add64"], named := ["internal/bytealg.MaxLen", "galley/lit.letters", "galley/utf.lengths", "galley/utf.least", "galley/utf.heads"], apart := false, laid := [("galley/utf.lengths", laid_galley_utf_lengths), ("galley/utf.heads", laid_galley_utf_heads), ("galley/utf.least", laid_galley_utf_least), ("galley/lit.letters", laid_galley_lit_letters)], narrowed := true }
def LitWholeUptoSaid : Prop := litWholeUptoRow.holds Tryd.pinned (OpenSpec.upto litWholeSpec)

/-- 'galleylaw4.LitEscapes', WHERE WHAT IT READS IS OF BULK AT MOST 1048576: true; the input reads as it did. -/
def litEscapesUptoRow : OpenClaim := { program := "ytnejkdaiopjchaadoor", sum := "1c3df5eed97dbac2b2b3c4ce66544dd9bf22b0c47aff08945e27a27579bbc36a", func := "galley/galleylaw4.LitEscapes", spec := "litEscapes", inPlace := ["internal/bytealg.IndexByteString", "internal/bytealg.IndexString", "math/bits.Add64"], named := ["internal/bytealg.MaxLen", "galley/lit.letters", "galley/utf.lengths", "galley/utf.least", "galley/utf.heads"], apart := false, laid := [("galley/utf.lengths", laid_galley_utf_lengths), ("galley/utf.heads", laid_galley_utf_heads), ("galley/utf.least", laid_galley_utf_least), ("galley/lit.letters", laid_galley_lit_letters)], narrowed := true }
def LitEscapesUptoSaid : Prop := litEscapesUptoRow.holds Tryd.pinned (OpenSpec.upto litEscapesSpec)

/-- 'galleylaw4.LitChars', WHERE WHAT IT READS IS OF BULK AT MOST 1048576: true; the input reads as it did. -/
def litCharsUptoRow : OpenClaim := { program := "ytnejkdaiopjchaadoor", sum := "1c3df5eed97dbac2b2b3c4ce66544dd9bf22b0c47aff08945e27a27579bbc36a", func := "galley/galleylaw4.LitChars", spec := "litChars", inPlace := ["internal/bytealg.IndexByteString", "internal/bytealg.IndexString", "math/bits.Add64"], named := ["internal/bytealg.MaxLen", "galley/lit.letters", "galley/utf.lengths", "galley/utf.least", "galley/utf.heads"], apart := false, laid := [("galley/utf.lengths", laid_galley_utf_lengths), ("galley/utf.heads", laid_galley_utf_heads), ("galley/utf.least", laid_galley_utf_least), ("galley/lit.letters", laid_galley_lit_letters)], narrowed := true }
def LitCharsUptoSaid : Prop := litCharsUptoRow.holds Tryd.pinned (OpenSpec.upto litCharsSpec)

/-- 'galleylaw4.LitFloats', WHERE WHAT IT READS IS OF BULK AT MOST 1048576: true; the input reads as it did. -/
def litFloatsUptoRow : OpenClaim := { program := "ytnejkdaiopjchaadoor", sum := "1c3df5eed97dbac2b2b3c4ce66544dd9bf22b0c47aff08945e27a27579bbc36a", func := "galley/galleylaw4.LitFloats", spec := "litFloats", inPlace := ["internal/bytealg.IndexByteString", "internal/bytealg.IndexString", "math/bits.Add64"], named := ["internal/bytealg.MaxLen", "galley/lit.letters", "galley/utf.lengths", "galley/utf.least", "galley/utf.heads"], apart := false, laid := [("galley/utf.lengths", laid_galley_utf_lengths), ("galley/utf.heads", laid_galley_utf_heads), ("galley/utf.least", laid_galley_utf_least), ("galley/lit.letters", laid_galley_lit_letters)], narrowed := true }
def LitFloatsUptoSaid : Prop := litFloatsUptoRow.holds Tryd.pinned (OpenSpec.upto litFloatsSpec)

end Rows
end Go.Proofs.YtnejkdaiopjchaaDoor
