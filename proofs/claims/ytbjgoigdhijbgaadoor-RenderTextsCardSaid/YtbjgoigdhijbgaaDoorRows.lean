/-
  NARROWER THAN 'FOR EVERY INPUT', by the rows' own cells (each row's printed sentence says how): RenderAsks: loops, laid · RenderTexts: loops, laid · RenderWide: loops, laid · RenderLines: laid · RenderSame: loops, laid · RenderFits: loops, laid.
  DERIVED. THE GIVEN ROWS OF THIS SEAT. 6 by the template 'for every input the law returns true; each argument reads behind the call as it read before'; 0 by the template 'total and deterministic' (their statements: YtbjgoigdhijbgaaDoorTotals.lean).
  GIVEN WITH THE SEED: the statements are not yours to turn. If you find one false, say at which input.
  Laid BY PROGRAM, IN A SANDBOX (cutbox-rows.mjs): the forced cells as the released guide's own fill.sh prints them over the translation 37c516fb4bf34fe2… (all of the seat's roots in one cut). By AI agents, Wed Nov 11 2026. No macro, syntax, notation, axiom, sorry.
-/
import Derived.Test.YtbjgoigdhijbgaaDoorChecked
import GoSem.Claim
import GoSem.ClaimJoined
import GoSem.ClaimMapViews
import Derived.JoinedTies
import Derived.KernelRfl
namespace Go.Proofs.YtbjgoigdhijbgaaDoor
/- THE CELL 'sum', in the pinned program and in every row, IS THE sha256 OF THE DUMP (.gsa) THAT YtbjgoigdhijbgaaDoorProg.lean LOADS. Nothing in Lean hashes anything: it is a label: what it is worth is what the hold of that sum in a sandbox is worth. -/
noncomputable def Tryd.pinned : Pinned := { name := "ytbjgoigdhijbgaadoor", sum := "37c516fb4bf34fe2c55fb452acf78b8b4849661f291fe3b3ddc869d391011a0c", checked := Tryd.checked }
namespace Rows
def none {H : Type} : Left H := { results := [], args := [] }

/- WHAT THE LISTED PACKAGE-LEVEL VARIABLES READ AS WHEN THE CALL BEGINS. Each datum BY PROGRAM (the guide's laid-datum.mjs) off the statement by which the dump's own 'gosem.cut.vars' lays the variable. In a bare row this is a premise. The card (YtbjgoigdhijbgaaDoorCards.lean) ties it to the program's text. -/
def laid_galley_utf_lengths {H : Type} : DataW H := .agg [.lit (.int .i64 1), .lit (.int .i64 1), .lit (.int .i64 1), .lit (.int .i64 1), .lit (.int .i64 1), .lit (.int .i64 1), .lit (.int .i64 1), .lit (.int .i64 1), .lit (.int .i64 1), .lit (.int .i64 1), .lit (.int .i64 1), .lit (.int .i64 1), .lit (.int .i64 1), .lit (.int .i64 1), .lit (.int .i64 1), .lit (.int .i64 1), .lit (.int .i64 0), .lit (.int .i64 0), .lit (.int .i64 0), .lit (.int .i64 0), .lit (.int .i64 0), .lit (.int .i64 0), .lit (.int .i64 0), .lit (.int .i64 0), .lit (.int .i64 2), .lit (.int .i64 2), .lit (.int .i64 2), .lit (.int .i64 2), .lit (.int .i64 3), .lit (.int .i64 3), .lit (.int .i64 4), .lit (.int .i64 0)]
def laid_galley_utf_heads {H : Type} : DataW H := .agg [.lit (.int .u8 0), .lit (.int .u8 0), .lit (.int .u8 192), .lit (.int .u8 224), .lit (.int .u8 240)]
def laid_galley_utf_least {H : Type} : DataW H := .agg [.lit (.int .i64 0), .lit (.int .i64 0), .lit (.int .i64 128), .lit (.int .i64 2048), .lit (.int .i64 65536)]

/-- 'galleylaw17.RenderAsks': WHATEVER THE INPUT: true; the input reads as it did. -/
def renderAsksSpec : ChangeSpec := { name := "renderAsks", fn := fun _ => fun
  | [d1, d2] => { results := [.lit (.bool true)], args := [d1, d2] }
  | _ => none }
def renderAsksRow : OpenClaim := { program := "ytbjgoigdhijbgaadoor", sum := "37c516fb4bf34fe2c55fb452acf78b8b4849661f291fe3b3ddc869d391011a0c", func := "galley/galleylaw17.RenderAsks", spec := "renderAsks", inPlace := ["internal/bytealg.IndexByteString", "internal/bytealg.IndexString", "internal/abi.NoEscape", "internal/bytealg.MakeNoZero"], unfollowed := true, recurses := true, named := ["internal/bytealg.MaxLen", "galley/utf.lengths", "galley/utf.least", "galley/utf.heads"], loops := true, apart := false, laid := [("galley/utf.lengths", laid_galley_utf_lengths), ("galley/utf.heads", laid_galley_utf_heads), ("galley/utf.least", laid_galley_utf_least)] }
def RenderAsksSaid : Prop := renderAsksRow.holds Tryd.pinned (OpenSpec.ofChange renderAsksSpec)

/-- ITS FALSE NEIGHBOUR: 'it returns false'. Refute it at one input. -/
def renderAsksWrong : ChangeSpec := { name := "renderAsks", fn := fun _ => fun
  | [d1, d2] => { results := [.lit (.bool false)], args := [d1, d2] }
  | _ => none }
def RenderAsksWrongFalsely : Prop := renderAsksRow.holds Tryd.pinned (OpenSpec.ofChange renderAsksWrong)

/-- 'galleylaw17.RenderTexts': WHATEVER THE INPUT: true; the input reads as it did. -/
def renderTextsSpec : ChangeSpec := { name := "renderTexts", fn := fun _ => fun
  | [d1, d2] => { results := [.lit (.bool true)], args := [d1, d2] }
  | _ => none }
def renderTextsRow : OpenClaim := { program := "ytbjgoigdhijbgaadoor", sum := "37c516fb4bf34fe2c55fb452acf78b8b4849661f291fe3b3ddc869d391011a0c", func := "galley/galleylaw17.RenderTexts", spec := "renderTexts", inPlace := ["internal/bytealg.IndexByteString", "internal/bytealg.IndexString", "internal/abi.NoEscape", "internal/bytealg.MakeNoZero"], unfollowed := true, recurses := true, named := ["internal/bytealg.MaxLen", "galley/utf.lengths", "galley/utf.least", "galley/utf.heads"], loops := true, apart := false, laid := [("galley/utf.lengths", laid_galley_utf_lengths), ("galley/utf.heads", laid_galley_utf_heads), ("galley/utf.least", laid_galley_utf_least)] }
def RenderTextsSaid : Prop := renderTextsRow.holds Tryd.pinned (OpenSpec.ofChange renderTextsSpec)

/-- ITS FALSE NEIGHBOUR: 'it returns false'. Refute it at one input. -/
def renderTextsWrong : ChangeSpec := { name := "renderTexts", fn := fun _ => fun
  | [d1, d2] => { results := [.lit (.bool false)], args := [d1, d2] }
  | _ => none }
def RenderTextsWrongFalsely : Prop := renderTextsRow.holds Tryd.pinned (OpenSpec.ofChange renderTextsWrong)

/-- 'galleylaw17.RenderWide': WHATEVER THE INPUT: true; the input reads as it did. -/
def renderWideSpec : ChangeSpec := { name := "renderWide", fn := fun _ => fun
  | [d] => { results := [.lit (.bool true)], args := [d] }
  | _ => none }
def renderWideRow : OpenClaim := { program := "ytbjgoigdhijbgaadoor", sum := "37c516fb4bf34fe2c55fb452acf78b8b4849661f291fe3b3ddc869d391011a0c", func := "galley/galleylaw17.RenderWide", spec := "renderWide", inPlace := ["internal/bytealg.IndexByteString", "internal/bytealg.IndexString", "internal/abi.NoEscape", "internal/bytealg.MakeNoZero"], unfollowed := true, recurses := true, named := ["internal/bytealg.MaxLen", "galley/utf.lengths", "galley/utf.least", "galley/utf.heads"], loops := true, apart := false, laid := [("galley/utf.lengths", laid_galley_utf_lengths), ("galley/utf.heads", laid_galley_utf_heads), ("galley/utf.least", laid_galley_utf_least)] }
def RenderWideSaid : Prop := renderWideRow.holds Tryd.pinned (OpenSpec.ofChange renderWideSpec)

/-- ITS FALSE NEIGHBOUR: 'it returns false'. Refute it at one input. -/
def renderWideWrong : ChangeSpec := { name := "renderWide", fn := fun _ => fun
  | [d] => { results := [.lit (.bool false)], args := [d] }
  | _ => none }
def RenderWideWrongFalsely : Prop := renderWideRow.holds Tryd.pinned (OpenSpec.ofChange renderWideWrong)

/-- 'galleylaw17.RenderLines': WHATEVER THE INPUT: true; the input reads as it did. -/
def renderLinesSpec : ChangeSpec := { name := "renderLines", fn := fun _ => fun
  | [d1, d2, d3, d4] => { results := [.lit (.bool true)], args := [d1, d2, d3, d4] }
  | _ => none }
def renderLinesRow : OpenClaim := { program := "ytbjgoigdhijbgaadoor", sum := "37c516fb4bf34fe2c55fb452acf78b8b4849661f291fe3b3ddc869d391011a0c", func := "galley/galleylaw17.RenderLines", spec := "renderLines", inPlace := ["internal/bytealg.IndexByteString", "internal/bytealg.IndexString", "internal/abi.NoEscape", "internal/bytealg.MakeNoZero"], unfollowed := true, recurses := true, named := ["internal/bytealg.MaxLen", "galley/utf.lengths", "galley/utf.least", "galley/utf.heads"], apart := false, laid := [("galley/utf.lengths", laid_galley_utf_lengths), ("galley/utf.heads", laid_galley_utf_heads), ("galley/utf.least", laid_galley_utf_least)] }
def RenderLinesSaid : Prop := renderLinesRow.holds Tryd.pinned (OpenSpec.ofChange renderLinesSpec)

/-- ITS FALSE NEIGHBOUR: 'it returns false'. Refute it at one input. -/
def renderLinesWrong : ChangeSpec := { name := "renderLines", fn := fun _ => fun
  | [d1, d2, d3, d4] => { results := [.lit (.bool false)], args := [d1, d2, d3, d4] }
  | _ => none }
def RenderLinesWrongFalsely : Prop := renderLinesRow.holds Tryd.pinned (OpenSpec.ofChange renderLinesWrong)

/-- 'galleylaw17.RenderSame': WHATEVER THE INPUT: true; the input reads as it did. -/
def renderSameSpec : ChangeSpec := { name := "renderSame", fn := fun _ => fun
  | [d1, d2] => { results := [.lit (.bool true)], args := [d1, d2] }
  | _ => none }
def renderSameRow : OpenClaim := { program := "ytbjgoigdhijbgaadoor", sum := "37c516fb4bf34fe2c55fb452acf78b8b4849661f291fe3b3ddc869d391011a0c", func := "galley/galleylaw17.RenderSame", spec := "renderSame", inPlace := ["internal/bytealg.IndexByteString", "internal/bytealg.IndexString", "internal/abi.NoEscape", "internal/bytealg.MakeNoZero"], unfollowed := true, recurses := true, named := ["internal/bytealg.MaxLen", "galley/utf.lengths", "galley/utf.least", "galley/utf.heads"], loops := true, apart := false, laid := [("galley/utf.lengths", laid_galley_utf_lengths), ("galley/utf.heads", laid_galley_utf_heads), ("galley/utf.least", laid_galley_utf_least)] }
def RenderSameSaid : Prop := renderSameRow.holds Tryd.pinned (OpenSpec.ofChange renderSameSpec)

/-- ITS FALSE NEIGHBOUR: 'it returns false'. Refute it at one input. -/
def renderSameWrong : ChangeSpec := { name := "renderSame", fn := fun _ => fun
  | [d1, d2] => { results := [.lit (.bool false)], args := [d1, d2] }
  | _ => none }
def RenderSameWrongFalsely : Prop := renderSameRow.holds Tryd.pinned (OpenSpec.ofChange renderSameWrong)

/-- 'galleylaw17.RenderFits': WHATEVER THE INPUT: true; the input reads as it did. -/
def renderFitsSpec : ChangeSpec := { name := "renderFits", fn := fun _ => fun
  | [d1, d2, d3, d4] => { results := [.lit (.bool true)], args := [d1, d2, d3, d4] }
  | _ => none }
def renderFitsRow : OpenClaim := { program := "ytbjgoigdhijbgaadoor", sum := "37c516fb4bf34fe2c55fb452acf78b8b4849661f291fe3b3ddc869d391011a0c", func := "galley/galleylaw17.RenderFits", spec := "renderFits", inPlace := ["internal/bytealg.IndexByteString", "internal/bytealg.IndexString", "internal/abi.NoEscape", "internal/bytealg.MakeNoZero"], unfollowed := true, recurses := true, named := ["internal/bytealg.MaxLen", "galley/utf.lengths", "galley/utf.least", "galley/utf.heads"], loops := true, apart := false, laid := [("galley/utf.lengths", laid_galley_utf_lengths), ("galley/utf.heads", laid_galley_utf_heads), ("galley/utf.least", laid_galley_utf_least)] }
def RenderFitsSaid : Prop := renderFitsRow.holds Tryd.pinned (OpenSpec.ofChange renderFitsSpec)

/-- ITS FALSE NEIGHBOUR: 'it returns false'. Refute it at one input. -/
def renderFitsWrong : ChangeSpec := { name := "renderFits", fn := fun _ => fun
  | [d1, d2, d3, d4] => { results := [.lit (.bool false)], args := [d1, d2, d3, d4] }
  | _ => none }
def RenderFitsWrongFalsely : Prop := renderFitsRow.holds Tryd.pinned (OpenSpec.ofChange renderFitsWrong)

/- THE SECOND FORM. 'bulk': how many values and letters a reading holds, each counted each time it is reached (what is shared counts as often as it is met; a slice's spare places count too). A statement '..UptoSaid' is the law's where the arguments, and the package variables that the reading takes, are together of bulk at most 1048576: NARROWER than '..Said'. Prove '..Said' where nothing that the law and all that it calls make is longer than what came in: it says more and counts as full. Else prove '..UptoSaid'. A law counts once. -/
mutual
def uptoBulk {H : Type} : DataW H → Nat
  | .lit (.string bytes) => bytes.length + 1
  | .lit _ => 1
  | .nil => 1
  | .ptr d => uptoBulk d + 1
  | .slice elems spare => uptoBulkAll elems + uptoBulkAll spare + 1
  | .agg parts => uptoBulkAll parts + 1
  | .iface _ d => uptoBulk d + 1
  | .map entries => uptoBulkEntries entries + 1
  | .held _ => 1
def uptoBulkAll {H : Type} : List (DataW H) → Nat
  | [] => 0
  | d :: r => uptoBulk d + uptoBulkAll r
def uptoBulkEntries {H : Type} : List (Lit × DataW H) → Nat
  | [] => 0
  | x :: r => uptoBulkEntry x + uptoBulkEntries r
def uptoBulkEntry {H : Type} : Lit × DataW H → Nat
  | (.string bytes, d) => bytes.length + uptoBulk d + 1
  | (_, d) => uptoBulk d + 1
 end
def uptoSmall : (H : Type) → List (DataW H) → Bool := fun _ ds => decide (uptoBulkAll ds ≤ 1048576)
def OpenSpec.upto (s : _root_.Go.ChangeSpec) : _root_.Go.OpenSpec := { _root_.Go.OpenSpec.ofChange s with cond := some uptoSmall }

/-- 'galleylaw17.RenderAsks', WHERE WHAT IT READS IS OF BULK AT MOST 1048576: true; the input reads as it did. -/
def renderAsksUptoRow : OpenClaim := { program := "ytbjgoigdhijbgaadoor", sum := "37c516fb4bf34fe2c55fb452acf78b8b4849661f291fe3b3ddc869d391011a0c", func := "galley/galleylaw17.RenderAsks", spec := "renderAsks", inPlace := ["internal/bytealg.IndexByteString", "internal/bytealg.IndexString", "internal/abi.NoEscape", "internal/bytealg.MakeNoZero"], unfollowed := true, recurses := true, named := ["internal/bytealg.MaxLen", "galley/utf.lengths", "galley/utf.least", "galley/utf.heads"], loops := true, apart := false, laid := [("galley/utf.lengths", laid_galley_utf_lengths), ("galley/utf.heads", laid_galley_utf_heads), ("galley/utf.least", laid_galley_utf_least)], narrowed := true }
def RenderAsksUptoSaid : Prop := renderAsksUptoRow.holds Tryd.pinned (OpenSpec.upto renderAsksSpec)

/-- 'galleylaw17.RenderTexts', WHERE WHAT IT READS IS OF BULK AT MOST 1048576: true; the input reads as it did. -/
def renderTextsUptoRow : OpenClaim := { program := "ytbjgoigdhijbgaadoor", sum := "37c516fb4bf34fe2c55fb452acf78b8b4849661f291fe3b3ddc869d391011a0c", func := "galley/galleylaw17.RenderTexts", spec := "renderTexts", inPlace := ["internal/bytealg.IndexByteString", "internal/bytealg.IndexString", "internal/abi.NoEscape", "internal/bytealg.MakeNoZero"], unfollowed := true, recurses := true, named := ["internal/bytealg.MaxLen", "galley/utf.lengths", "galley/utf.least", "galley/utf.heads"], loops := true, apart := false, laid := [("galley/utf.lengths", laid_galley_utf_lengths), ("galley/utf.heads", laid_galley_utf_heads), ("galley/utf.least", laid_galley_utf_least)], narrowed := true }
def RenderTextsUptoSaid : Prop := renderTextsUptoRow.holds Tryd.pinned (OpenSpec.upto renderTextsSpec)

/-- 'galleylaw17.RenderWide', WHERE WHAT IT READS IS OF BULK AT MOST 1048576: true; the input reads as it did. -/
def renderWideUptoRow : OpenClaim := { program := "ytbjgoigdhijbgaadoor", sum := "37c516fb4bf34fe2c55fb452acf78b8b4849661f291fe3b3ddc869d391011a0c", func := "galley/galleylaw17.RenderWide", spec := "renderWide", inPlace := ["internal/bytealg.IndexByteString", "internal/bytealg.IndexString", "internal/abi.NoEscape", "internal/bytealg.MakeNoZero"], unfollowed := true, recurses := true, named := ["internal/bytealg.MaxLen", "galley/utf.lengths", "galley/utf.least", "galley/utf.heads"], loops := true, apart := false, laid := [("galley/utf.lengths", laid_galley_utf_lengths), ("galley/utf.heads", laid_galley_utf_heads), ("galley/utf.least", laid_galley_utf_least)], narrowed := true }
def RenderWideUptoSaid : Prop := renderWideUptoRow.holds Tryd.pinned (OpenSpec.upto renderWideSpec)

/-- 'galleylaw17.RenderLines', WHERE WHAT IT READS IS OF BULK AT MOST 1048576: true; the input reads as it did. -/
def renderLinesUptoRow : OpenClaim := { program := "ytbjgoigdhijbgaadoor", sum := "37c516fb4bf34fe2c55fb452acf78b8b4849661f291fe3b3ddc869d391011a0c", func := "galley/galleylaw17.RenderLines", spec := "renderLines", inPlace := ["internal/bytealg.IndexByteString", "internal/bytealg.IndexString", "internal/abi.NoEscape", "internal/bytealg.MakeNoZero"], unfollowed := true, recurses := true, named := ["internal/bytealg.MaxLen", "galley/utf.lengths", "galley/utf.least", "galley/utf.heads"], apart := false, laid := [("galley/utf.lengths", laid_galley_utf_lengths), ("galley/utf.heads", laid_galley_utf_heads), ("galley/utf.least", laid_galley_utf_least)], narrowed := true }
def RenderLinesUptoSaid : Prop := renderLinesUptoRow.holds Tryd.pinned (OpenSpec.upto renderLinesSpec)

/-- 'galleylaw17.RenderSame', WHERE WHAT IT READS IS OF BULK AT MOST 1048576: true; the input reads as it did. -/
def renderSameUptoRow : OpenClaim := { program := "ytbjgoigdhijbgaadoor", sum := "37c516fb4bf34fe2c55fb452acf78b8b4849661f291fe3b3ddc869d391011a0c", func := "galley/galleylaw17.RenderSame", spec := "renderSame", inPlace := ["internal/bytealg.IndexByteString", "internal/bytealg.IndexString", "internal/abi.NoEscape", "internal/bytealg.MakeNoZero"], unfollowed := true, recurses := true, named := ["internal/bytealg.MaxLen", "galley/utf.lengths", "galley/utf.least", "galley/utf.heads"], loops := true, apart := false, laid := [("galley/utf.lengths", laid_galley_utf_lengths), ("galley/utf.heads", laid_galley_utf_heads), ("galley/utf.least", laid_galley_utf_least)], narrowed := true }
def RenderSameUptoSaid : Prop := renderSameUptoRow.holds Tryd.pinned (OpenSpec.upto renderSameSpec)

/-- 'galleylaw17.RenderFits', WHERE WHAT IT READS IS OF BULK AT MOST 1048576: true; the input reads as it did. -/
def renderFitsUptoRow : OpenClaim := { program := "ytbjgoigdhijbgaadoor", sum := "37c516fb4bf34fe2c55fb452acf78b8b4849661f291fe3b3ddc869d391011a0c", func := "galley/galleylaw17.RenderFits", spec := "renderFits", inPlace := ["internal/bytealg.IndexByteString", "internal/bytealg.IndexString", "internal/abi.NoEscape", "internal/bytealg.MakeNoZero"], unfollowed := true, recurses := true, named := ["internal/bytealg.MaxLen", "galley/utf.lengths", "galley/utf.least", "galley/utf.heads"], loops := true, apart := false, laid := [("galley/utf.lengths", laid_galley_utf_lengths), ("galley/utf.heads", laid_galley_utf_heads), ("galley/utf.least", laid_galley_utf_least)], narrowed := true }
def RenderFitsUptoSaid : Prop := renderFitsUptoRow.holds Tryd.pinned (OpenSpec.upto renderFitsSpec)

end Rows
end Go.Proofs.YtbjgoigdhijbgaaDoor
