/-
  NARROWER THAN 'FOR EVERY INPUT', by the rows' own cells (each row's printed sentence says how): ScanAsks: laid · ScanWhole: laid · ScanBlanks: laid · ScanKinds: laid · ScanWrong: laid · ScanJoins: laid · ScanEscapes: laid.
  DERIVED. THE GIVEN ROWS OF THIS SEAT. 7 by the template 'for every input the law returns true; each argument reads behind the call as it read before'; 0 by the template 'total and deterministic' (their statements: YtajjhhodpohfpaaDoorTotals.lean).
  GIVEN WITH THE SEED: the statements are not yours to turn. If you find one false, say at which input.
  Laid BY PROGRAM, IN A SANDBOX (cutbox-rows.mjs): the forced cells as the released guide's own fill.sh prints them over the translation bbc4b0116a68fe69… (all of the seat's roots in one cut). By AI agents, Wed Nov 11 2026. No macro, syntax, notation, axiom, sorry.
-/
import Derived.Test.YtajjhhodpohfpaaDoorChecked
import GoSem.PinnedTables
import GoSem.Claim
import GoSem.ClaimJoined
import GoSem.ClaimMapViews
import Derived.JoinedTies
import Derived.KernelRfl
namespace Go.Proofs.YtajjhhodpohfpaaDoor
/- THE CELL 'sum', in the pinned program and in every row, IS THE sha256 OF THE DUMP (.gsa) THAT YtajjhhodpohfpaaDoorProg.lean LOADS. Nothing in Lean hashes anything: it is a label: what it is worth is what the hold of that sum in a sandbox is worth. -/
noncomputable def Tryd.pinned : Pinned := { name := "ytajjhhodpohfpaadoor", sum := "bbc4b0116a68fe6915bc47d060fe096f7b6f39c6db8d641376abdde62b3b406a", checked := Tryd.checked }
namespace Rows
def none {H : Type} : Left H := { results := [], args := [] }

/- WHAT THE LISTED PACKAGE-LEVEL VARIABLES READ AS WHEN THE CALL BEGINS. Each datum BY PROGRAM (the guide's laid-datum.mjs) off the statement by which the dump's own 'gosem.cut.vars' lays the variable. In a bare row this is a premise. The card (YtajjhhodpohfpaaDoorCards.lean) ties it to the program's text. -/
def laid_galley_sign_marks {H : Type} : DataW H := .agg [.agg [.lit (.int .u8 61), .lit (.int .u8 58), .lit (.int .u8 61)], .agg [.lit (.int .u8 61), .lit (.int .u8 47), .lit (.int .u8 61)], .agg [.lit (.int .u8 60), .lit (.int .u8 60), .lit (.int .u8 0)], .agg [.lit (.int .u8 62), .lit (.int .u8 62), .lit (.int .u8 0)], .agg [.lit (.int .u8 45), .lit (.int .u8 62), .lit (.int .u8 0)], .agg [.lit (.int .u8 60), .lit (.int .u8 45), .lit (.int .u8 0)], .agg [.lit (.int .u8 60), .lit (.int .u8 61), .lit (.int .u8 0)], .agg [.lit (.int .u8 61), .lit (.int .u8 62), .lit (.int .u8 0)], .agg [.lit (.int .u8 58), .lit (.int .u8 61), .lit (.int .u8 0)], .agg [.lit (.int .u8 58), .lit (.int .u8 58), .lit (.int .u8 0)], .agg [.lit (.int .u8 61), .lit (.int .u8 61), .lit (.int .u8 0)], .agg [.lit (.int .u8 47), .lit (.int .u8 61), .lit (.int .u8 0)], .agg [.lit (.int .u8 61), .lit (.int .u8 60), .lit (.int .u8 0)], .agg [.lit (.int .u8 62), .lit (.int .u8 61), .lit (.int .u8 0)], .agg [.lit (.int .u8 124), .lit (.int .u8 124), .lit (.int .u8 0)], .agg [.lit (.int .u8 43), .lit (.int .u8 43), .lit (.int .u8 0)], .agg [.lit (.int .u8 45), .lit (.int .u8 45), .lit (.int .u8 0)], .agg [.lit (.int .u8 40), .lit (.int .u8 0), .lit (.int .u8 0)], .agg [.lit (.int .u8 41), .lit (.int .u8 0), .lit (.int .u8 0)], .agg [.lit (.int .u8 123), .lit (.int .u8 0), .lit (.int .u8 0)], .agg [.lit (.int .u8 125), .lit (.int .u8 0), .lit (.int .u8 0)], .agg [.lit (.int .u8 91), .lit (.int .u8 0), .lit (.int .u8 0)], .agg [.lit (.int .u8 93), .lit (.int .u8 0), .lit (.int .u8 0)], .agg [.lit (.int .u8 44), .lit (.int .u8 0), .lit (.int .u8 0)], .agg [.lit (.int .u8 59), .lit (.int .u8 0), .lit (.int .u8 0)], .agg [.lit (.int .u8 58), .lit (.int .u8 0), .lit (.int .u8 0)], .agg [.lit (.int .u8 61), .lit (.int .u8 0), .lit (.int .u8 0)], .agg [.lit (.int .u8 124), .lit (.int .u8 0), .lit (.int .u8 0)], .agg [.lit (.int .u8 33), .lit (.int .u8 0), .lit (.int .u8 0)], .agg [.lit (.int .u8 35), .lit (.int .u8 0), .lit (.int .u8 0)], .agg [.lit (.int .u8 43), .lit (.int .u8 0), .lit (.int .u8 0)], .agg [.lit (.int .u8 45), .lit (.int .u8 0), .lit (.int .u8 0)], .agg [.lit (.int .u8 42), .lit (.int .u8 0), .lit (.int .u8 0)], .agg [.lit (.int .u8 47), .lit (.int .u8 0), .lit (.int .u8 0)], .agg [.lit (.int .u8 60), .lit (.int .u8 0), .lit (.int .u8 0)], .agg [.lit (.int .u8 62), .lit (.int .u8 0), .lit (.int .u8 0)], .agg [.lit (.int .u8 46), .lit (.int .u8 0), .lit (.int .u8 0)]]
def laid_galley_utf_lengths {H : Type} : DataW H := .agg [.lit (.int .i64 1), .lit (.int .i64 1), .lit (.int .i64 1), .lit (.int .i64 1), .lit (.int .i64 1), .lit (.int .i64 1), .lit (.int .i64 1), .lit (.int .i64 1), .lit (.int .i64 1), .lit (.int .i64 1), .lit (.int .i64 1), .lit (.int .i64 1), .lit (.int .i64 1), .lit (.int .i64 1), .lit (.int .i64 1), .lit (.int .i64 1), .lit (.int .i64 0), .lit (.int .i64 0), .lit (.int .i64 0), .lit (.int .i64 0), .lit (.int .i64 0), .lit (.int .i64 0), .lit (.int .i64 0), .lit (.int .i64 0), .lit (.int .i64 2), .lit (.int .i64 2), .lit (.int .i64 2), .lit (.int .i64 2), .lit (.int .i64 3), .lit (.int .i64 3), .lit (.int .i64 4), .lit (.int .i64 0)]
def laid_galley_utf_heads {H : Type} : DataW H := .agg [.lit (.int .u8 0), .lit (.int .u8 0), .lit (.int .u8 192), .lit (.int .u8 224), .lit (.int .u8 240)]
def laid_galley_utf_least {H : Type} : DataW H := .agg [.lit (.int .i64 0), .lit (.int .i64 0), .lit (.int .i64 128), .lit (.int .i64 2048), .lit (.int .i64 65536)]
def laid_unicode_utf8_acceptRanges {H : Type} : DataW H := .agg [.agg [.lit (.int .u8 128), .lit (.int .u8 191)], .agg [.lit (.int .u8 160), .lit (.int .u8 191)], .agg [.lit (.int .u8 128), .lit (.int .u8 159)], .agg [.lit (.int .u8 144), .lit (.int .u8 191)], .agg [.lit (.int .u8 128), .lit (.int .u8 143)], .agg [.lit (.int .u8 0), .lit (.int .u8 0)], .agg [.lit (.int .u8 0), .lit (.int .u8 0)], .agg [.lit (.int .u8 0), .lit (.int .u8 0)], .agg [.lit (.int .u8 0), .lit (.int .u8 0)], .agg [.lit (.int .u8 0), .lit (.int .u8 0)], .agg [.lit (.int .u8 0), .lit (.int .u8 0)], .agg [.lit (.int .u8 0), .lit (.int .u8 0)], .agg [.lit (.int .u8 0), .lit (.int .u8 0)], .agg [.lit (.int .u8 0), .lit (.int .u8 0)], .agg [.lit (.int .u8 0), .lit (.int .u8 0)], .agg [.lit (.int .u8 0), .lit (.int .u8 0)]]
def laid_galley_lit_letters {H : Type} : DataW H := .agg [.lit (.int .i64 0), .lit (.int .i64 8), .lit (.int .i64 0), .lit (.int .i64 127), .lit (.int .i64 27), .lit (.int .i64 12), .lit (.int .i64 0), .lit (.int .i64 0), .lit (.int .i64 0), .lit (.int .i64 0), .lit (.int .i64 0), .lit (.int .i64 0), .lit (.int .i64 0), .lit (.int .i64 10), .lit (.int .i64 0), .lit (.int .i64 0), .lit (.int .i64 0), .lit (.int .i64 13), .lit (.int .i64 32), .lit (.int .i64 9), .lit (.int .i64 0), .lit (.int .i64 11), .lit (.int .i64 0), .lit (.int .i64 0), .lit (.int .i64 0), .lit (.int .i64 0)]
/-- One of Go's own tables, pinned by name: the form's constant. -/
def laid_unicode_utf8_first : DataW Unit := Go.Pinned.utf8First

/-- 'galleylaw6.ScanAsks': WHATEVER THE INPUT: true; the input reads as it did. -/
def scanAsksSpec : ChangeSpec := { name := "scanAsks", fn := fun _ => fun
  | [d1, d2] => { results := [.lit (.bool true)], args := [d1, d2] }
  | _ => none }
def scanAsksRow : OpenClaim := { program := "ytajjhhodpohfpaadoor", sum := "bbc4b0116a68fe6915bc47d060fe096f7b6f39c6db8d641376abdde62b3b406a", func := "galley/galleylaw6.ScanAsks", spec := "scanAsks", inPlace := ["internal/bytealg.IndexByteString", "internal/bytealg.IndexString", "math/bits.Add64"], named := ["galley/utf.lengths", "galley/utf.least", "galley/utf.heads", "internal/bytealg.MaxLen", "unicode/utf8.first", "unicode/utf8.acceptRanges", "galley/lit.letters", "galley/sign.marks"], apart := false, laid := [("galley/sign.marks", laid_galley_sign_marks), ("galley/utf.lengths", laid_galley_utf_lengths), ("galley/utf.heads", laid_galley_utf_heads), ("galley/utf.least", laid_galley_utf_least), ("unicode/utf8.acceptRanges", laid_unicode_utf8_acceptRanges), ("galley/lit.letters", laid_galley_lit_letters), ("unicode/utf8.first", laid_unicode_utf8_first)] }
def ScanAsksSaid : Prop := scanAsksRow.holds Tryd.pinned (OpenSpec.ofChange scanAsksSpec)

/-- ITS FALSE NEIGHBOUR: 'it returns false'. Refute it at one input. -/
def scanAsksWrong : ChangeSpec := { name := "scanAsks", fn := fun _ => fun
  | [d1, d2] => { results := [.lit (.bool false)], args := [d1, d2] }
  | _ => none }
def ScanAsksWrongFalsely : Prop := scanAsksRow.holds Tryd.pinned (OpenSpec.ofChange scanAsksWrong)

/-- 'galleylaw6.ScanWhole': WHATEVER THE INPUT: true; the input reads as it did. -/
def scanWholeSpec : ChangeSpec := { name := "scanWhole", fn := fun _ => fun
  | [d] => { results := [.lit (.bool true)], args := [d] }
  | _ => none }
def scanWholeRow : OpenClaim := { program := "ytajjhhodpohfpaadoor", sum := "bbc4b0116a68fe6915bc47d060fe096f7b6f39c6db8d641376abdde62b3b406a", func := "galley/galleylaw6.ScanWhole", spec := "scanWhole", inPlace := ["internal/bytealg.IndexByteString", "internal/bytealg.IndexString", "math/bits.Add64"], named := ["galley/utf.lengths", "galley/utf.least", "galley/utf.heads", "internal/bytealg.MaxLen", "unicode/utf8.first", "unicode/utf8.acceptRanges", "galley/lit.letters", "galley/sign.marks"], apart := false, laid := [("galley/sign.marks", laid_galley_sign_marks), ("galley/utf.lengths", laid_galley_utf_lengths), ("galley/utf.heads", laid_galley_utf_heads), ("galley/utf.least", laid_galley_utf_least), ("unicode/utf8.acceptRanges", laid_unicode_utf8_acceptRanges), ("galley/lit.letters", laid_galley_lit_letters), ("unicode/utf8.first", laid_unicode_utf8_first)] }
def ScanWholeSaid : Prop := scanWholeRow.holds Tryd.pinned (OpenSpec.ofChange scanWholeSpec)

/-- ITS FALSE NEIGHBOUR: 'it returns false'. Refute it at one input. -/
def scanWholeWrong : ChangeSpec := { name := "scanWhole", fn := fun _ => fun
  | [d] => { results := [.lit (.bool false)], args := [d] }
  | _ => none }
def ScanWholeWrongFalsely : Prop := scanWholeRow.holds Tryd.pinned (OpenSpec.ofChange scanWholeWrong)

/-- 'galleylaw6.ScanBlanks': WHATEVER THE INPUT: true; the input reads as it did. -/
def scanBlanksSpec : ChangeSpec := { name := "scanBlanks", fn := fun _ => fun
  | [d] => { results := [.lit (.bool true)], args := [d] }
  | _ => none }
def scanBlanksRow : OpenClaim := { program := "ytajjhhodpohfpaadoor", sum := "bbc4b0116a68fe6915bc47d060fe096f7b6f39c6db8d641376abdde62b3b406a", func := "galley/galleylaw6.ScanBlanks", spec := "scanBlanks", inPlace := ["internal/bytealg.IndexByteString", "internal/bytealg.IndexString", "math/bits.Add64"], named := ["galley/utf.lengths", "galley/utf.least", "galley/utf.heads", "internal/bytealg.MaxLen", "unicode/utf8.first", "unicode/utf8.acceptRanges", "galley/lit.letters", "galley/sign.marks"], apart := false, laid := [("galley/sign.marks", laid_galley_sign_marks), ("galley/utf.lengths", laid_galley_utf_lengths), ("galley/utf.heads", laid_galley_utf_heads), ("galley/utf.least", laid_galley_utf_least), ("unicode/utf8.acceptRanges", laid_unicode_utf8_acceptRanges), ("galley/lit.letters", laid_galley_lit_letters), ("unicode/utf8.first", laid_unicode_utf8_first)] }
def ScanBlanksSaid : Prop := scanBlanksRow.holds Tryd.pinned (OpenSpec.ofChange scanBlanksSpec)

/-- ITS FALSE NEIGHBOUR: 'it returns false'. Refute it at one input. -/
def scanBlanksWrong : ChangeSpec := { name := "scanBlanks", fn := fun _ => fun
  | [d] => { results := [.lit (.bool false)], args := [d] }
  | _ => none }
def ScanBlanksWrongFalsely : Prop := scanBlanksRow.holds Tryd.pinned (OpenSpec.ofChange scanBlanksWrong)

/-- 'galleylaw6.ScanKinds': WHATEVER THE INPUT: true; the input reads as it did. -/
def scanKindsSpec : ChangeSpec := { name := "scanKinds", fn := fun _ => fun
  | [d1, d2] => { results := [.lit (.bool true)], args := [d1, d2] }
  | _ => none }
def scanKindsRow : OpenClaim := { program := "ytajjhhodpohfpaadoor", sum := "bbc4b0116a68fe6915bc47d060fe096f7b6f39c6db8d641376abdde62b3b406a", func := "galley/galleylaw6.ScanKinds", spec := "scanKinds", inPlace := ["internal/bytealg.IndexByteString", "internal/bytealg.IndexString", "math/bits.Add64"], named := ["galley/utf.lengths", "galley/utf.least", "galley/utf.heads", "internal/bytealg.MaxLen", "unicode/utf8.first", "unicode/utf8.acceptRanges", "galley/lit.letters", "galley/sign.marks"], apart := false, laid := [("galley/sign.marks", laid_galley_sign_marks), ("galley/utf.lengths", laid_galley_utf_lengths), ("galley/utf.heads", laid_galley_utf_heads), ("galley/utf.least", laid_galley_utf_least), ("unicode/utf8.acceptRanges", laid_unicode_utf8_acceptRanges), ("galley/lit.letters", laid_galley_lit_letters), ("unicode/utf8.first", laid_unicode_utf8_first)] }
def ScanKindsSaid : Prop := scanKindsRow.holds Tryd.pinned (OpenSpec.ofChange scanKindsSpec)

/-- ITS FALSE NEIGHBOUR: 'it returns false'. Refute it at one input. -/
def scanKindsWrong : ChangeSpec := { name := "scanKinds", fn := fun _ => fun
  | [d1, d2] => { results := [.lit (.bool false)], args := [d1, d2] }
  | _ => none }
def ScanKindsWrongFalsely : Prop := scanKindsRow.holds Tryd.pinned (OpenSpec.ofChange scanKindsWrong)

/-- 'galleylaw6.ScanWrong': WHATEVER THE INPUT: true; the input reads as it did. -/
def scanWrongSpec : ChangeSpec := { name := "scanWrong", fn := fun _ => fun
  | [d1, d2] => { results := [.lit (.bool true)], args := [d1, d2] }
  | _ => none }
def scanWrongRow : OpenClaim := { program := "ytajjhhodpohfpaadoor", sum := "bbc4b0116a68fe6915bc47d060fe096f7b6f39c6db8d641376abdde62b3b406a", func := "galley/galleylaw6.ScanWrong", spec := "scanWrong", inPlace := ["internal/bytealg.IndexByteString", "internal/bytealg.IndexString", "math/bits.Add64"], named := ["galley/utf.lengths", "galley/utf.least", "galley/utf.heads", "internal/bytealg.MaxLen", "unicode/utf8.first", "unicode/utf8.acceptRanges", "galley/lit.letters", "galley/sign.marks"], apart := false, laid := [("galley/sign.marks", laid_galley_sign_marks), ("galley/utf.lengths", laid_galley_utf_lengths), ("galley/utf.heads", laid_galley_utf_heads), ("galley/utf.least", laid_galley_utf_least), ("unicode/utf8.acceptRanges", laid_unicode_utf8_acceptRanges), ("galley/lit.letters", laid_galley_lit_letters), ("unicode/utf8.first", laid_unicode_utf8_first)] }
def ScanWrongSaid : Prop := scanWrongRow.holds Tryd.pinned (OpenSpec.ofChange scanWrongSpec)

/-- ITS FALSE NEIGHBOUR: 'it returns false'. Refute it at one input. -/
def scanWrongWrong : ChangeSpec := { name := "scanWrong", fn := fun _ => fun
  | [d1, d2] => { results := [.lit (.bool false)], args := [d1, d2] }
  | _ => none }
def ScanWrongWrongFalsely : Prop := scanWrongRow.holds Tryd.pinned (OpenSpec.ofChange scanWrongWrong)

/-- 'galleylaw6.ScanJoins': WHATEVER THE INPUT: true; the input reads as it did. -/
def scanJoinsSpec : ChangeSpec := { name := "scanJoins", fn := fun _ => fun
  | [d1, d2] => { results := [.lit (.bool true)], args := [d1, d2] }
  | _ => none }
def scanJoinsRow : OpenClaim := { program := "ytajjhhodpohfpaadoor", sum := "bbc4b0116a68fe6915bc47d060fe096f7b6f39c6db8d641376abdde62b3b406a", func := "galley/galleylaw6.ScanJoins", spec := "scanJoins", inPlace := ["internal/bytealg.IndexByteString", "internal/bytealg.IndexString", "math/bits.Add64"], named := ["galley/utf.lengths", "galley/utf.least", "galley/utf.heads", "internal/bytealg.MaxLen", "unicode/utf8.first", "unicode/utf8.acceptRanges", "galley/lit.letters", "galley/sign.marks"], apart := false, laid := [("galley/sign.marks", laid_galley_sign_marks), ("galley/utf.lengths", laid_galley_utf_lengths), ("galley/utf.heads", laid_galley_utf_heads), ("galley/utf.least", laid_galley_utf_least), ("unicode/utf8.acceptRanges", laid_unicode_utf8_acceptRanges), ("galley/lit.letters", laid_galley_lit_letters), ("unicode/utf8.first", laid_unicode_utf8_first)] }
def ScanJoinsSaid : Prop := scanJoinsRow.holds Tryd.pinned (OpenSpec.ofChange scanJoinsSpec)

/-- ITS FALSE NEIGHBOUR: 'it returns false'. Refute it at one input. -/
def scanJoinsWrong : ChangeSpec := { name := "scanJoins", fn := fun _ => fun
  | [d1, d2] => { results := [.lit (.bool false)], args := [d1, d2] }
  | _ => none }
def ScanJoinsWrongFalsely : Prop := scanJoinsRow.holds Tryd.pinned (OpenSpec.ofChange scanJoinsWrong)

/-- 'galleylaw6.ScanEscapes': WHATEVER THE INPUT: true; the input reads as it did. -/
def scanEscapesSpec : ChangeSpec := { name := "scanEscapes", fn := fun _ => fun
  | [d1, d2] => { results := [.lit (.bool true)], args := [d1, d2] }
  | _ => none }
def scanEscapesRow : OpenClaim := { program := "ytajjhhodpohfpaadoor", sum := "bbc4b0116a68fe6915bc47d060fe096f7b6f39c6db8d641376abdde62b3b406a", func := "galley/galleylaw6.ScanEscapes", spec := "scanEscapes", inPlace := ["internal/bytealg.IndexByteString", "internal/bytealg.IndexString", "math/bits.Add64"], named := ["galley/utf.lengths", "galley/utf.least", "galley/utf.heads", "internal/bytealg.MaxLen", "unicode/utf8.first", "unicode/utf8.acceptRanges", "galley/lit.letters", "galley/sign.marks"], apart := false, laid := [("galley/sign.marks", laid_galley_sign_marks), ("galley/utf.lengths", laid_galley_utf_lengths), ("galley/utf.heads", laid_galley_utf_heads), ("galley/utf.least", laid_galley_utf_least), ("unicode/utf8.acceptRanges", laid_unicode_utf8_acceptRanges), ("galley/lit.letters", laid_galley_lit_letters), ("unicode/utf8.first", laid_unicode_utf8_first)] }
def ScanEscapesSaid : Prop := scanEscapesRow.holds Tryd.pinned (OpenSpec.ofChange scanEscapesSpec)

/-- ITS FALSE NEIGHBOUR: 'it returns false'. Refute it at one input. -/
def scanEscapesWrong : ChangeSpec := { name := "scanEscapes", fn := fun _ => fun
  | [d1, d2] => { results := [.lit (.bool false)], args := [d1, d2] }
  | _ => none }
def ScanEscapesWrongFalsely : Prop := scanEscapesRow.holds Tryd.pinned (OpenSpec.ofChange scanEscapesWrong)

/- THE SECOND FORM. 'bulk': how many values and letters a reading holds, each counted each time it is reached (what is shared counts as often as it is met; a slice's spare places count too). A statement '..UptoSaid' is the law's where the arguments, and the package variables that the reading takes, are together of bulk at most 1048576: NARROWER than '..Said'. Prove '..Said' where nothing that the law and all that it calls make is longer than what came in: it says more and counts as full. Else prove '..UptoSaid'. A law counts once. -/
mutual
def uptoBulk {H : Type} : DataW H → Nat
  | .lit (.string bytes) => bytes.length + 1
  | .lit _ => 1
  | .nil => 1
  | .ptr d => uptoBulk d + 1
  | .slice elems spare => uptoBulkAll elems + uptoBulkAll spare + 1
  | .agg parts => uptoBulkAll parts + 1
  | .iface _ d => uptoBulk d + 1
  | .map entries => uptoBulkEntries entries + 1
  | .held _ => 1
def uptoBulkAll {H : Type} : List (DataW H) → Nat
  | [] => 0
  | d :: r => uptoBulk d + uptoBulkAll r
def uptoBulkEntries {H : Type} : List (Lit × DataW H) → Nat
  | [] => 0
  | x :: r => uptoBulkEntry x + uptoBulkEntries r
def uptoBulkEntry {H : Type} : Lit × DataW H → Nat
  | (.string bytes, d) => bytes.length + uptoBulk d + 1
  | (_, d) => uptoBulk d + 1
 end
def uptoSmall : (H : Type) → List (DataW H) → Bool := fun _ ds => decide (uptoBulkAll ds ≤ 1048576)
def OpenSpec.upto (s : _root_.Go.ChangeSpec) : _root_.Go.OpenSpec := { _root_.Go.OpenSpec.ofChange s with cond := some uptoSmall }

/-- 'galleylaw6.ScanAsks', WHERE WHAT IT READS IS OF BULK AT MOST 1048576: true; the input reads as it did. -/
def scanAsksUptoRow : OpenClaim := { program := "ytajjhhodpohfpaadoor", sum := "bbc4b0116a68fe6915bc47d060fe096f7b6f39c6db8d641376abdde62b3b406a", func := "galley/galleylaw6.ScanAsks", spec := "scanAsks", inPlace := ["internal/bytealg.IndexByteString", "internal/bytealg.IndexString", "math/bits.Add64"], named := ["galley/utf.lengths", "galley/utf.least", "galley/utf.heads", "internal/bytealg.MaxLen", "unicode/utf8.first", "unicode/utf8.acceptRanges", "galley/lit.letters", "galley/sign.marks"], apart := false, laid := [("galley/sign.marks", laid_galley_sign_marks), ("galley/utf.lengths", laid_galley_utf_lengths), ("galley/utf.heads", laid_galley_utf_heads), ("galley/utf.least", laid_galley_utf_least), ("unicode/utf8.acceptRanges", laid_unicode_utf8_acceptRanges), ("galley/lit.letters", laid_galley_lit_letters), ("unicode/utf8.first", laid_unicode_utf8_first)], narrowed := true }
def ScanAsksUptoSaid : Prop := scanAsksUptoRow.holds Tryd.pinned (OpenSpec.upto scanAsksSpec)

/-- 'galleylaw6.ScanWhole', WHERE WHAT IT READS IS OF BULK AT MOST 1048576: true; the input reads as it did. -/
def scanWholeUptoRow : OpenClaim := { program := "ytajjhhodpohfpaadoor", sum := "bbc4b0116a68fe6915bc47d060fe096f7b6f39c6db8d641376abdde62b3b406a", func := "galley/galleylaw6.ScanWhole", spec := "scanWhole", inPlace := ["internal/bytealg.IndexByteString", "internal/bytealg.IndexString", "math/bits.Add64"], named := ["galley/utf.lengths", "galley/utf.least", "galley/utf.heads", "internal/bytealg.MaxLen", "unicode/utf8.first", "unicode/utf8.acceptRanges", "galley/lit.letters", "galley/sign.marks"], apart := false, laid := [("galley/sign.marks", laid_galley_sign_marks), ("galley/utf.lengths", laid_galley_utf_lengths), ("galley/utf.heads", laid_galley_utf_heads), ("galley/utf.least", laid_galley_utf_least), ("unicode/utf8.acceptRanges", laid_unicode_utf8_acceptRanges), ("galley/lit.letters", laid_galley_lit_letters), ("unicode/utf8.first", laid_unicode_utf8_first)], narrowed := true }
def ScanWholeUptoSaid : Prop := scanWholeUptoRow.holds Tryd.pinned (OpenSpec.upto scanWholeSpec)

/-- 'galleylaw6.ScanBlanks', WHERE WHAT IT READS IS OF BULK AT MOST 1048576: true; the input reads as it did. -/
def scanBlanksUptoRow : OpenClaim := { program := "ytajjhhodpohfpaadoor", sum := "bbc4b0116a68fe6915bc47d060fe096f7b6f39c6db8d641376abdde62b3b406a", func := "galley/galleylaw6.ScanBlanks", spec := "scanBlanks", inPlace := ["internal/bytealg.IndexByteString", "internal/bytealg.IndexString", "math/bits.Add64"], named := ["galley/utf.lengths", "galley/utf.least", "galley/utf.heads", "internal/bytealg.MaxLen", "unicode/utf8.first", "unicode/utf8.acceptRanges", "galley/lit.letters", "galley/sign.marks"], apart := false, laid := [("galley/sign.marks", laid_galley_sign_marks), ("galley/utf.lengths", laid_galley_utf_lengths), ("galley/utf.heads", laid_galley_utf_heads), ("galley/utf.least", laid_galley_utf_least), ("unicode/utf8.acceptRanges", laid_unicode_utf8_acceptRanges), ("galley/lit.letters", laid_galley_lit_letters), ("unicode/utf8.first", laid_unicode_utf8_first)], narrowed := true }
def ScanBlanksUptoSaid : Prop := scanBlanksUptoRow.holds Tryd.pinned (OpenSpec.upto scanBlanksSpec)

/-- 'galleylaw6.ScanKinds', WHERE WHAT IT READS IS OF BULK AT MOST 1048576: true; the input reads as it did. -/
def scanKindsUptoRow : OpenClaim := { program := "ytajjhhodpohfpaadoor", sum := "bbc4b0116a68fe6915bc47d060fe096f7b6f39c6db8d641376abdde62b3b406a", func := "galley/galleylaw6.ScanKinds", spec := "scanKinds", inPlace := ["internal/bytealg.IndexByteString", "internal/bytealg.IndexString", "math/bits.Add64"], named := ["galley/utf.lengths", "galley/utf.least", "galley/utf.heads", "internal/bytealg.MaxLen", "unicode/utf8.first", "unicode/utf8.acceptRanges", "galley/lit.letters", "galley/sign.marks"], apart := false, laid := [("galley/sign.marks", laid_galley_sign_marks), ("galley/utf.lengths", laid_galley_utf_lengths), ("galley/utf.heads", laid_galley_utf_heads), ("galley/utf.least", laid_galley_utf_least), ("unicode/utf8.acceptRanges", laid_unicode_utf8_acceptRanges), ("galley/lit.letters", laid_galley_lit_letters), ("unicode/utf8.first", laid_unicode_utf8_first)], narrowed := true }
def ScanKindsUptoSaid : Prop := scanKindsUptoRow.holds Tryd.pinned (OpenSpec.upto scanKindsSpec)

/-- 'galleylaw6.ScanWrong', WHERE WHAT IT READS IS OF BULK AT MOST 1048576: true; the input reads as it did. -/
def scanWrongUptoRow : OpenClaim := { program := "ytajjhhodpohfpaadoor", sum := "bbc4b0116a68fe6915bc47d060fe096f7b6f39c6db8d641376abdde62b3b406a", func := "galley/galleylaw6.ScanWrong", spec := "scanWrong", inPlace := ["internal/bytealg.IndexByteString", "internal/bytealg.IndexString", "math/bits.Add64"], named := ["galley/utf.lengths", "galley/utf.least", "galley/utf.heads", "internal/bytealg.MaxLen", "unicode/utf8.first", "unicode/utf8.acceptRanges", "galley/lit.letters", "galley/sign.marks"], apart := false, laid := [("galley/sign.marks", laid_galley_sign_marks), ("galley/utf.lengths", laid_galley_utf_lengths), ("galley/utf.heads", laid_galley_utf_heads), ("galley/utf.least", laid_galley_utf_least), ("unicode/utf8.acceptRanges", laid_unicode_utf8_acceptRanges), ("galley/lit.letters", laid_galley_lit_letters), ("unicode/utf8.first", laid_unicode_utf8_first)], narrowed := true }
def ScanWrongUptoSaid : Prop := scanWrongUptoRow.holds Tryd.pinned (OpenSpec.upto scanWrongSpec)

/-- 'galleylaw6.ScanJoins', WHERE WHAT IT READS IS OF BULK AT MOST 1048576: true; the input reads as it did. -/
def scanJoinsUptoRow : OpenClaim := { program := "ytajjhhodpohfpaadoor", sum := "bbc4b0116a68fe6915bc47d060fe096f7b6f39c6db8d641376abdde62b3b406a", func := "galley/galleylaw6.ScanJoins", spec := "scanJoins", inPlace := ["internal/bytealg.IndexByteString", "internal/bytealg.IndexString", "math/bits.Add64"], named := ["galley/utf.lengths", "galley/utf.least", "galley/utf.heads", "internal/bytealg.MaxLen", "unicode/utf8.first", "unicode/utf8.acceptRanges", "galley/lit.letters", "galley/sign.marks"], apart := false, laid := [("galley/sign.marks", laid_galley_sign_marks), ("galley/utf.lengths", laid_galley_utf_lengths), ("galley/utf.heads", laid_galley_utf_heads), ("galley/utf.least", laid_galley_utf_least), ("unicode/utf8.acceptRanges", laid_unicode_utf8_acceptRanges), ("galley/lit.letters", laid_galley_lit_letters), ("unicode/utf8.first", laid_unicode_utf8_first)], narrowed := true }
def ScanJoinsUptoSaid : Prop := scanJoinsUptoRow.holds Tryd.pinned (OpenSpec.upto scanJoinsSpec)

/-- 'galleylaw6.ScanEscapes', WHERE WHAT IT READS IS OF BULK AT MOST 1048576: true; the input reads as it did. -/
def scanEscapesUptoRow : OpenClaim := { program := "ytajjhhodpohfpaadoor", sum := "bbc4b0116a68fe6915bc47d060fe096f7b6f39c6db8d641376abdde62b3b406a", func := "galley/galleylaw6.ScanEscapes", spec := "scanEscapes", inPlace := ["internal/bytealg.IndexByteString", "internal/bytealg.IndexString", "math/bits.Add64"], named := ["galley/utf.lengths", "galley/utf.least", "galley/utf.heads", "internal/bytealg.MaxLen", "unicode/utf8.first", "unicode/utf8.acceptRanges", "galley/lit.letters", "galley/sign.marks"], apart := false, laid := [("galley/sign.marks", laid_galley_sign_marks), ("galley/utf.lengths", laid_galley_utf_lengths), ("galley/utf.heads", laid_galley_utf_heads), ("galley/utf.least", laid_galley_utf_least), ("unicode/utf8.acceptRanges", laid_unicode_utf8_acceptRanges), ("galley/lit.letters", laid_galley_lit_letters), ("unicode/utf8.first", laid_unicode_utf8_first)], narrowed := true }
def ScanEscapesUptoSaid : Prop := scanEscapesUptoRow.holds Tryd.pinned (OpenSpec.upto scanEscapesSpec)

end Rows
end Go.Proofs.YtajjhhodpohfpaaDoor
