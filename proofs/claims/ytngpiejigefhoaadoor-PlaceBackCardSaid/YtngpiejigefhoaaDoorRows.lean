/-
  NARROWER THAN 'FOR EVERY INPUT', by the rows' own cells (each row's printed sentence says how): PlaceStarts: laid · PlaceAsks: laid · PlaceBack: laid · PlaceJoins: laid.
  DERIVED. THE GIVEN ROWS OF THIS SEAT. 4 by the template 'for every input the law returns true; each argument reads behind the call as it read before'; 0 by the template 'total and deterministic' (their statements: YtngpiejigefhoaaDoorTotals.lean).
  GIVEN WITH THE SEED: the statements are not yours to turn. If you find one false, say at which input.
  Laid BY PROGRAM, IN A SANDBOX (cutbox-rows.mjs): the forced cells as the released guide's own fill.sh prints them over the translation ef5b6eb32f4913d0… (all of the seat's roots in one cut). By AI agents, Wed Nov 11 2026. No macro, syntax, notation, axiom, sorry.
-/
import Derived.Test.YtngpiejigefhoaaDoorChecked
import GoSem.Claim
import GoSem.ClaimJoined
import GoSem.ClaimMapViews
import Derived.JoinedTies
import Derived.KernelRfl
namespace Go.Proofs.YtngpiejigefhoaaDoor
/- THE CELL 'sum', in the pinned program and in every row, IS THE sha256 OF THE DUMP (.gsa) THAT YtngpiejigefhoaaDoorProg.lean LOADS. Nothing in Lean hashes anything: it is a label: what it is worth is what the hold of that sum in a sandbox is worth. -/
noncomputable def Tryd.pinned : Pinned := { name := "ytngpiejigefhoaadoor", sum := "ef5b6eb32f4913d02d1da91b69c38bc8852c34b8f53304ee64f17a0165adaa45", checked := Tryd.checked }
namespace Rows
def none {H : Type} : Left H := { results := [], args := [] }

/- WHAT THE LISTED PACKAGE-LEVEL VARIABLES READ AS WHEN THE CALL BEGINS. Each datum BY PROGRAM (the guide's laid-datum.mjs) off the statement by which the dump's own 'gosem.cut.vars' lays the variable. In a bare row this is a premise. The card (YtngpiejigefhoaaDoorCards.lean) ties it to the program's text. -/
def laid_galley_utf_lengths {H : Type} : DataW H := .agg [.lit (.int .i64 1), .lit (.int .i64 1), .lit (.int .i64 1), .lit (.int .i64 1), .lit (.int .i64 1), .lit (.int .i64 1), .lit (.int .i64 1), .lit (.int .i64 1), .lit (.int .i64 1), .lit (.int .i64 1), .lit (.int .i64 1), .lit (.int .i64 1), .lit (.int .i64 1), .lit (.int .i64 1), .lit (.int .i64 1), .lit (.int .i64 1), .lit (.int .i64 0), .lit (.int .i64 0), .lit (.int .i64 0), .lit (.int .i64 0), .lit (.int .i64 0), .lit (.int .i64 0), .lit (.int .i64 0), .lit (.int .i64 0), .lit (.int .i64 2), .lit (.int .i64 2), .lit (.int .i64 2), .lit (.int .i64 2), .lit (.int .i64 3), .lit (.int .i64 3), .lit (.int .i64 4), .lit (.int .i64 0)]
def laid_galley_utf_heads {H : Type} : DataW H := .agg [.lit (.int .u8 0), .lit (.int .u8 0), .lit (.int .u8 192), .lit (.int .u8 224), .lit (.int .u8 240)]
def laid_galley_utf_least {H : Type} : DataW H := .agg [.lit (.int .i64 0), .lit (.int .i64 0), .lit (.int .i64 128), .lit (.int .i64 2048), .lit (.int .i64 65536)]

/-- 'galleylaw2.PlaceStarts': WHATEVER THE INPUT: true; the input reads as it did. -/
def placeStartsSpec : ChangeSpec := { name := "placeStarts", fn := fun _ => fun
  | [d1, d2] => { results := [.lit (.bool true)], args := [d1, d2] }
  | _ => none }
def placeStartsRow : OpenClaim := { program := "ytngpiejigefhoaadoor", sum := "ef5b6eb32f4913d02d1da91b69c38bc8852c34b8f53304ee64f17a0165adaa45", func := "galley/galleylaw2.PlaceStarts", spec := "placeStarts", inPlace := ["internal/bytealg.CountString", "internal/bytealg.IndexByteString", "internal/bytealg.IndexString"], unfollowed := true, recurses := true, named := ["internal/bytealg.MaxLen", "galley/utf.lengths", "galley/utf.least", "galley/utf.heads"], apart := false, laid := [("galley/utf.lengths", laid_galley_utf_lengths), ("galley/utf.heads", laid_galley_utf_heads), ("galley/utf.least", laid_galley_utf_least)] }
def PlaceStartsSaid : Prop := placeStartsRow.holds Tryd.pinned (OpenSpec.ofChange placeStartsSpec)

/-- ITS FALSE NEIGHBOUR: 'it returns false'. Refute it at one input. -/
def placeStartsWrong : ChangeSpec := { name := "placeStarts", fn := fun _ => fun
  | [d1, d2] => { results := [.lit (.bool false)], args := [d1, d2] }
  | _ => none }
def PlaceStartsWrongFalsely : Prop := placeStartsRow.holds Tryd.pinned (OpenSpec.ofChange placeStartsWrong)

/-- 'galleylaw2.PlaceAsks': WHATEVER THE INPUT: true; the input reads as it did. -/
def placeAsksSpec : ChangeSpec := { name := "placeAsks", fn := fun _ => fun
  | [d1, d2, d3] => { results := [.lit (.bool true)], args := [d1, d2, d3] }
  | _ => none }
def placeAsksRow : OpenClaim := { program := "ytngpiejigefhoaadoor", sum := "ef5b6eb32f4913d02d1da91b69c38bc8852c34b8f53304ee64f17a0165adaa45", func := "galley/galleylaw2.PlaceAsks", spec := "placeAsks", inPlace := ["internal/bytealg.CountString", "internal/bytealg.IndexByteString", "internal/bytealg.IndexString"], unfollowed := true, recurses := true, named := ["internal/bytealg.MaxLen", "galley/utf.lengths", "galley/utf.least", "galley/utf.heads"], apart := false, laid := [("galley/utf.lengths", laid_galley_utf_lengths), ("galley/utf.heads", laid_galley_utf_heads), ("galley/utf.least", laid_galley_utf_least)] }
def PlaceAsksSaid : Prop := placeAsksRow.holds Tryd.pinned (OpenSpec.ofChange placeAsksSpec)

/-- ITS FALSE NEIGHBOUR: 'it returns false'. Refute it at one input. -/
def placeAsksWrong : ChangeSpec := { name := "placeAsks", fn := fun _ => fun
  | [d1, d2, d3] => { results := [.lit (.bool false)], args := [d1, d2, d3] }
  | _ => none }
def PlaceAsksWrongFalsely : Prop := placeAsksRow.holds Tryd.pinned (OpenSpec.ofChange placeAsksWrong)

/-- 'galleylaw2.PlaceBack': WHATEVER THE INPUT: true; the input reads as it did. -/
def placeBackSpec : ChangeSpec := { name := "placeBack", fn := fun _ => fun
  | [d] => { results := [.lit (.bool true)], args := [d] }
  | _ => none }
def placeBackRow : OpenClaim := { program := "ytngpiejigefhoaadoor", sum := "ef5b6eb32f4913d02d1da91b69c38bc8852c34b8f53304ee64f17a0165adaa45", func := "galley/galleylaw2.PlaceBack", spec := "placeBack", inPlace := ["internal/bytealg.CountString", "internal/bytealg.IndexByteString", "internal/bytealg.IndexString"], unfollowed := true, recurses := true, named := ["internal/bytealg.MaxLen", "galley/utf.lengths", "galley/utf.least", "galley/utf.heads"], apart := false, laid := [("galley/utf.lengths", laid_galley_utf_lengths), ("galley/utf.heads", laid_galley_utf_heads), ("galley/utf.least", laid_galley_utf_least)] }
def PlaceBackSaid : Prop := placeBackRow.holds Tryd.pinned (OpenSpec.ofChange placeBackSpec)

/-- ITS FALSE NEIGHBOUR: 'it returns false'. Refute it at one input. -/
def placeBackWrong : ChangeSpec := { name := "placeBack", fn := fun _ => fun
  | [d] => { results := [.lit (.bool false)], args := [d] }
  | _ => none }
def PlaceBackWrongFalsely : Prop := placeBackRow.holds Tryd.pinned (OpenSpec.ofChange placeBackWrong)

/-- 'galleylaw2.PlaceJoins': WHATEVER THE INPUT: true; the input reads as it did. -/
def placeJoinsSpec : ChangeSpec := { name := "placeJoins", fn := fun _ => fun
  | [d1, d2, d3] => { results := [.lit (.bool true)], args := [d1, d2, d3] }
  | _ => none }
def placeJoinsRow : OpenClaim := { program := "ytngpiejigefhoaadoor", sum := "ef5b6eb32f4913d02d1da91b69c38bc8852c34b8f53304ee64f17a0165adaa45", func := "galley/galleylaw2.PlaceJoins", spec := "placeJoins", inPlace := ["internal/bytealg.CountString", "internal/bytealg.IndexByteString", "internal/bytealg.IndexString"], unfollowed := true, recurses := true, named := ["internal/bytealg.MaxLen", "galley/utf.lengths", "galley/utf.least", "galley/utf.heads"], apart := false, laid := [("galley/utf.lengths", laid_galley_utf_lengths), ("galley/utf.heads", laid_galley_utf_heads), ("galley/utf.least", laid_galley_utf_least)] }
def PlaceJoinsSaid : Prop := placeJoinsRow.holds Tryd.pinned (OpenSpec.ofChange placeJoinsSpec)

/-- ITS FALSE NEIGHBOUR: 'it returns false'. Refute it at one input. -/
def placeJoinsWrong : ChangeSpec := { name := "placeJoins", fn := fun _ => fun
  | [d1, d2, d3] => { results := [.lit (.bool false)], args := [d1, d2, d3] }
  | _ => none }
def PlaceJoinsWrongFalsely : Prop := placeJoinsRow.holds Tryd.pinned (OpenSpec.ofChange placeJoinsWrong)

/- THE SECOND FORM. 'bulk': how many values and letters a reading holds, each counted each time it is reached (what is shared counts as often as it is met; a slice's spare places count too). A statement '..UptoSaid' is the law's where the arguments, and the package variables that the reading takes, are together of bulk at most 1048576: NARROWER than '..Said'. Prove '..Said' where nothing that the law and all that it calls make is longer than what came in: it says more and counts as full. Else prove '..UptoSaid'. A law counts once. -/
mutual
def uptoBulk {H : Type} : DataW H → Nat
  | .lit (.string bytes) => bytes.length + 1
  | .lit _ => 1
  | .nil => 1
  | .ptr d => uptoBulk d + 1
  | .slice elems spare => uptoBulkAll elems + uptoBulkAll spare + 1
  | .agg parts => uptoBulkAll parts + 1
  | .iface _ d => uptoBulk d + 1
  | .map entries => uptoBulkEntries entries + 1
  | .held _ => 1
def uptoBulkAll {H : Type} : List (DataW H) → Nat
  | [] => 0
  | d :: r => uptoBulk d + uptoBulkAll r
def uptoBulkEntries {H : Type} : List (Lit × DataW H) → Nat
  | [] => 0
  | x :: r => uptoBulkEntry x + uptoBulkEntries r
def uptoBulkEntry {H : Type} : Lit × DataW H → Nat
  | (.string bytes, d) => bytes.length + uptoBulk d + 1
  | (_, d) => uptoBulk d + 1
 end
def uptoSmall : (H : Type) → List (DataW H) → Bool := fun _ ds => decide (uptoBulkAll ds ≤ 1048576)
def OpenSpec.upto (s : _root_.Go.ChangeSpec) : _root_.Go.OpenSpec := { _root_.Go.OpenSpec.ofChange s with cond := some uptoSmall }

/-- 'galleylaw2.PlaceStarts', WHERE WHAT IT READS IS OF BULK AT MOST 1048576: true; the input reads as it did. -/
def placeStartsUptoRow : OpenClaim := { program := "ytngpiejigefhoaadoor", sum := "ef5b6eb32f4913d02d1da91b69c38bc8852c34b8f53304ee64f17a0165adaa45", func := "galley/galleylaw2.PlaceStarts", spec := "placeStarts", inPlace := ["internal/bytealg.CountString", "internal/bytealg.IndexByteString", "internal/bytealg.IndexString"], unfollowed := true, recurses := true, named := ["internal/bytealg.MaxLen", "galley/utf.lengths", "galley/utf.least", "galley/utf.heads"], apart := false, laid := [("galley/utf.lengths", laid_galley_utf_lengths), ("galley/utf.heads", laid_galley_utf_heads), ("galley/utf.least", laid_galley_utf_least)], narrowed := true }
def PlaceStartsUptoSaid : Prop := placeStartsUptoRow.holds Tryd.pinned (OpenSpec.upto placeStartsSpec)

/-- 'galleylaw2.PlaceAsks', WHERE WHAT IT READS IS OF BULK AT MOST 1048576: true; the input reads as it did. -/
def placeAsksUptoRow : OpenClaim := { program := "ytngpiejigefhoaadoor", sum := "ef5b6eb32f4913d02d1da91b69c38bc8852c34b8f53304ee64f17a0165adaa45", func := "galley/galleylaw2.PlaceAsks", spec := "placeAsks", inPlace := ["internal/bytealg.CountString", "internal/bytealg.IndexByteString", "internal/bytealg.IndexString"], unfollowed := true, recurses := true, named := ["internal/bytealg.MaxLen", "galley/utf.lengths", "galley/utf.least", "galley/utf.heads"], apart := false, laid := [("galley/utf.lengths", laid_galley_utf_lengths), ("galley/utf.heads", laid_galley_utf_heads), ("galley/utf.least", laid_galley_utf_least)], narrowed := true }
def PlaceAsksUptoSaid : Prop := placeAsksUptoRow.holds Tryd.pinned (OpenSpec.upto placeAsksSpec)

/-- 'galleylaw2.PlaceBack', WHERE WHAT IT READS IS OF BULK AT MOST 1048576: true; the input reads as it did. -/
def placeBackUptoRow : OpenClaim := { program := "ytngpiejigefhoaadoor", sum := "ef5b6eb32f4913d02d1da91b69c38bc8852c34b8f53304ee64f17a0165adaa45", func := "galley/galleylaw2.PlaceBack", spec := "placeBack", inPlace := ["internal/bytealg.CountString", "internal/bytealg.IndexByteString", "internal/bytealg.IndexString"], unfollowed := true, recurses := true, named := ["internal/bytealg.MaxLen", "galley/utf.lengths", "galley/utf.least", "galley/utf.heads"], apart := false, laid := [("galley/utf.lengths", laid_galley_utf_lengths), ("galley/utf.heads", laid_galley_utf_heads), ("galley/utf.least", laid_galley_utf_least)], narrowed := true }
def PlaceBackUptoSaid : Prop := placeBackUptoRow.holds Tryd.pinned (OpenSpec.upto placeBackSpec)

/-- 'galleylaw2.PlaceJoins', WHERE WHAT IT READS IS OF BULK AT MOST 1048576: true; the input reads as it did. -/
def placeJoinsUptoRow : OpenClaim := { program := "ytngpiejigefhoaadoor", sum := "ef5b6eb32f4913d02d1da91b69c38bc8852c34b8f53304ee64f17a0165adaa45", func := "galley/galleylaw2.PlaceJoins", spec := "placeJoins", inPlace := ["internal/bytealg.CountString", "internal/bytealg.IndexByteString", "internal/bytealg.IndexString"], unfollowed := true, recurses := true, named := ["internal/bytealg.MaxLen", "galley/utf.lengths", "galley/utf.least", "galley/utf.heads"], apart := false, laid := [("galley/utf.lengths", laid_galley_utf_lengths), ("galley/utf.heads", laid_galley_utf_heads), ("galley/utf.least", laid_galley_utf_least)], narrowed := true }
def PlaceJoinsUptoSaid : Prop := placeJoinsUptoRow.holds Tryd.pinned (OpenSpec.upto placeJoinsSpec)

end Rows
end Go.Proofs.YtngpiejigefhoaaDoor
