/-
  NARROWER THAN 'FOR EVERY INPUT', by the rows' own cells (each row's printed sentence says how): SignAsks: laid · SignGreedy: laid · SignPairs: laid.
  DERIVED. THE GIVEN ROWS OF THIS SEAT. 3 by the template 'for every input the law returns true; each argument reads behind the call as it read before'; 0 by the template 'total and deterministic' (their statements: YtgkilffofnjmlaaDoorTotals.lean).
  GIVEN WITH THE SEED: the statements are not yours to turn. If you find one false, say at which input.
  Laid BY PROGRAM, IN A SANDBOX (cutbox-rows.mjs): the forced cells as the released guide's own fill.sh prints them over the translation 9feff813391e57e5… (all of the seat's roots in one cut). By AI agents, Wed Nov 11 2026. No macro, syntax, notation, axiom, sorry.
-/
import Derived.Test.YtgkilffofnjmlaaDoorChecked
import GoSem.Claim
import GoSem.ClaimJoined
import GoSem.ClaimMapViews
import Derived.JoinedTies
import Derived.KernelRfl
namespace Go.Proofs.YtgkilffofnjmlaaDoor
/- THE CELL 'sum', in the pinned program and in every row, IS THE sha256 OF THE DUMP (.gsa) THAT YtgkilffofnjmlaaDoorProg.lean LOADS. Nothing in Lean hashes anything: it is a label: what it is worth is what the hold of that sum in a sandbox is worth. -/
noncomputable def Tryd.pinned : Pinned := { name := "ytgkilffofnjmlaadoor", sum := "9feff813391e57e53b6613053ab78b501399017147c4752c739b52d08655443d", checked := Tryd.checked }
namespace Rows
def none {H : Type} : Left H := { results := [], args := [] }

/- WHAT THE LISTED PACKAGE-LEVEL VARIABLES READ AS WHEN THE CALL BEGINS. Each datum BY PROGRAM (the guide's laid-datum.mjs) off the statement by which the dump's own 'gosem.cut.vars' lays the variable. In a bare row this is a premise. The card (YtgkilffofnjmlaaDoorCards.lean) ties it to the program's text. -/
def laid_galley_sign_marks {H : Type} : DataW H := .agg [.agg [.lit (.int .u8 61), .lit (.int .u8 58), .lit (.int .u8 61)], .agg [.lit (.int .u8 61), .lit (.int .u8 47), .lit (.int .u8 61)], .agg [.lit (.int .u8 60), .lit (.int .u8 60), .lit (.int .u8 0)], .agg [.lit (.int .u8 62), .lit (.int .u8 62), .lit (.int .u8 0)], .agg [.lit (.int .u8 45), .lit (.int .u8 62), .lit (.int .u8 0)], .agg [.lit (.int .u8 60), .lit (.int .u8 45), .lit (.int .u8 0)], .agg [.lit (.int .u8 60), .lit (.int .u8 61), .lit (.int .u8 0)], .agg [.lit (.int .u8 61), .lit (.int .u8 62), .lit (.int .u8 0)], .agg [.lit (.int .u8 58), .lit (.int .u8 61), .lit (.int .u8 0)], .agg [.lit (.int .u8 58), .lit (.int .u8 58), .lit (.int .u8 0)], .agg [.lit (.int .u8 61), .lit (.int .u8 61), .lit (.int .u8 0)], .agg [.lit (.int .u8 47), .lit (.int .u8 61), .lit (.int .u8 0)], .agg [.lit (.int .u8 61), .lit (.int .u8 60), .lit (.int .u8 0)], .agg [.lit (.int .u8 62), .lit (.int .u8 61), .lit (.int .u8 0)], .agg [.lit (.int .u8 124), .lit (.int .u8 124), .lit (.int .u8 0)], .agg [.lit (.int .u8 43), .lit (.int .u8 43), .lit (.int .u8 0)], .agg [.lit (.int .u8 45), .lit (.int .u8 45), .lit (.int .u8 0)], .agg [.lit (.int .u8 40), .lit (.int .u8 0), .lit (.int .u8 0)], .agg [.lit (.int .u8 41), .lit (.int .u8 0), .lit (.int .u8 0)], .agg [.lit (.int .u8 123), .lit (.int .u8 0), .lit (.int .u8 0)], .agg [.lit (.int .u8 125), .lit (.int .u8 0), .lit (.int .u8 0)], .agg [.lit (.int .u8 91), .lit (.int .u8 0), .lit (.int .u8 0)], .agg [.lit (.int .u8 93), .lit (.int .u8 0), .lit (.int .u8 0)], .agg [.lit (.int .u8 44), .lit (.int .u8 0), .lit (.int .u8 0)], .agg [.lit (.int .u8 59), .lit (.int .u8 0), .lit (.int .u8 0)], .agg [.lit (.int .u8 58), .lit (.int .u8 0), .lit (.int .u8 0)], .agg [.lit (.int .u8 61), .lit (.int .u8 0), .lit (.int .u8 0)], .agg [.lit (.int .u8 124), .lit (.int .u8 0), .lit (.int .u8 0)], .agg [.lit (.int .u8 33), .lit (.int .u8 0), .lit (.int .u8 0)], .agg [.lit (.int .u8 35), .lit (.int .u8 0), .lit (.int .u8 0)], .agg [.lit (.int .u8 43), .lit (.int .u8 0), .lit (.int .u8 0)], .agg [.lit (.int .u8 45), .lit (.int .u8 0), .lit (.int .u8 0)], .agg [.lit (.int .u8 42), .lit (.int .u8 0), .lit (.int .u8 0)], .agg [.lit (.int .u8 47), .lit (.int .u8 0), .lit (.int .u8 0)], .agg [.lit (.int .u8 60), .lit (.int .u8 0), .lit (.int .u8 0)], .agg [.lit (.int .u8 62), .lit (.int .u8 0), .lit (.int .u8 0)], .agg [.lit (.int .u8 46), .lit (.int .u8 0), .lit (.int .u8 0)]]

/-- 'galleylaw5.SignAsks': WHATEVER THE INPUT: true; the input reads as it did. -/
def signAsksSpec : ChangeSpec := { name := "signAsks", fn := fun _ => fun
  | [d1, d2, d3] => { results := [.lit (.bool true)], args := [d1, d2, d3] }
  | _ => none }
def signAsksRow : OpenClaim := { program := "ytgkilffofnjmlaadoor", sum := "9feff813391e57e53b6613053ab78b501399017147c4752c739b52d08655443d", func := "galley/galleylaw5.SignAsks", spec := "signAsks", named := ["galley/sign.marks"], apart := false, laid := [("galley/sign.marks", laid_galley_sign_marks)] }
def SignAsksSaid : Prop := signAsksRow.holds Tryd.pinned (OpenSpec.ofChange signAsksSpec)

/-- ITS FALSE NEIGHBOUR: 'it returns false'. Refute it at one input. -/
def signAsksWrong : ChangeSpec := { name := "signAsks", fn := fun _ => fun
  | [d1, d2, d3] => { results := [.lit (.bool false)], args := [d1, d2, d3] }
  | _ => none }
def SignAsksWrongFalsely : Prop := signAsksRow.holds Tryd.pinned (OpenSpec.ofChange signAsksWrong)

/-- 'galleylaw5.SignGreedy': WHATEVER THE INPUT: true; the input reads as it did. -/
def signGreedySpec : ChangeSpec := { name := "signGreedy", fn := fun _ => fun
  | [d1, d2] => { results := [.lit (.bool true)], args := [d1, d2] }
  | _ => none }
def signGreedyRow : OpenClaim := { program := "ytgkilffofnjmlaadoor", sum := "9feff813391e57e53b6613053ab78b501399017147c4752c739b52d08655443d", func := "galley/galleylaw5.SignGreedy", spec := "signGreedy", named := ["galley/sign.marks"], apart := false, laid := [("galley/sign.marks", laid_galley_sign_marks)] }
def SignGreedySaid : Prop := signGreedyRow.holds Tryd.pinned (OpenSpec.ofChange signGreedySpec)

/-- ITS FALSE NEIGHBOUR: 'it returns false'. Refute it at one input. -/
def signGreedyWrong : ChangeSpec := { name := "signGreedy", fn := fun _ => fun
  | [d1, d2] => { results := [.lit (.bool false)], args := [d1, d2] }
  | _ => none }
def SignGreedyWrongFalsely : Prop := signGreedyRow.holds Tryd.pinned (OpenSpec.ofChange signGreedyWrong)

/-- 'galleylaw5.SignPairs': WHATEVER THE INPUT: true; the input reads as it did. -/
def signPairsSpec : ChangeSpec := { name := "signPairs", fn := fun _ => fun
  | [d1, d2] => { results := [.lit (.bool true)], args := [d1, d2] }
  | _ => none }
def signPairsRow : OpenClaim := { program := "ytgkilffofnjmlaadoor", sum := "9feff813391e57e53b6613053ab78b501399017147c4752c739b52d08655443d", func := "galley/galleylaw5.SignPairs", spec := "signPairs", named := ["galley/sign.marks"], apart := false, laid := [("galley/sign.marks", laid_galley_sign_marks)] }
def SignPairsSaid : Prop := signPairsRow.holds Tryd.pinned (OpenSpec.ofChange signPairsSpec)

/-- ITS FALSE NEIGHBOUR: 'it returns false'. Refute it at one input. -/
def signPairsWrong : ChangeSpec := { name := "signPairs", fn := fun _ => fun
  | [d1, d2] => { results := [.lit (.bool false)], args := [d1, d2] }
  | _ => none }
def SignPairsWrongFalsely : Prop := signPairsRow.holds Tryd.pinned (OpenSpec.ofChange signPairsWrong)

/- THE SECOND FORM. 'bulk': how many values and letters a reading holds, each counted each time it is reached (what is shared counts as often as it is met; a slice's spare places count too). A statement '..UptoSaid' is the law's where the arguments, and the package variables that the reading takes, are together of bulk at most 1048576: NARROWER than '..Said'. Prove '..Said' where nothing that the law and all that it calls make is longer than what came in: it says more and counts as full. Else prove '..UptoSaid'. A law counts once. -/
mutual
def uptoBulk {H : Type} : DataW H → Nat
  | .lit (.string bytes) => bytes.length + 1
  | .lit _ => 1
  | .nil => 1
  | .ptr d => uptoBulk d + 1
  | .slice elems spare => uptoBulkAll elems + uptoBulkAll spare + 1
  | .agg parts => uptoBulkAll parts + 1
  | .iface _ d => uptoBulk d + 1
  | .map entries => uptoBulkEntries entries + 1
  | .held _ => 1
def uptoBulkAll {H : Type} : List (DataW H) → Nat
  | [] => 0
  | d :: r => uptoBulk d + uptoBulkAll r
def uptoBulkEntries {H : Type} : List (Lit × DataW H) → Nat
  | [] => 0
  | x :: r => uptoBulkEntry x + uptoBulkEntries r
def uptoBulkEntry {H : Type} : Lit × DataW H → Nat
  | (.string bytes, d) => bytes.length + uptoBulk d + 1
  | (_, d) => uptoBulk d + 1
 end
def uptoSmall : (H : Type) → List (DataW H) → Bool := fun _ ds => decide (uptoBulkAll ds ≤ 1048576)
def OpenSpec.upto (s : _root_.Go.ChangeSpec) : _root_.Go.OpenSpec := { _root_.Go.OpenSpec.ofChange s with cond := some uptoSmall }

/-- 'galleylaw5.SignAsks', WHERE WHAT IT READS IS OF BULK AT MOST 1048576: true; the input reads as it did. -/
def signAsksUptoRow : OpenClaim := { program := "ytgkilffofnjmlaadoor", sum := "9feff813391e57e53b6613053ab78b501399017147c4752c739b52d08655443d", func := "galley/galleylaw5.SignAsks", spec := "signAsks", named := ["galley/sign.marks"], apart := false, laid := [("galley/sign.marks", laid_galley_sign_marks)], narrowed := true }
def SignAsksUptoSaid : Prop := signAsksUptoRow.holds Tryd.pinned (OpenSpec.upto signAsksSpec)

/-- 'galleylaw5.SignGreedy', WHERE WHAT IT READS IS OF BULK AT MOST 1048576: true; the input reads as it did. -/
def signGreedyUptoRow : OpenClaim := { program := "ytgkilffofnjmlaadoor", sum := "9feff813391e57e53b6613053ab78b501399017147c4752c739b52d08655443d", func := "galley/galleylaw5.SignGreedy", spec := "signGreedy", named := ["galley/sign.marks"], apart := false, laid := [("galley/sign.marks", laid_galley_sign_marks)], narrowed := true }
def SignGreedyUptoSaid : Prop := signGreedyUptoRow.holds Tryd.pinned (OpenSpec.upto signGreedySpec)

/-- 'galleylaw5.SignPairs', WHERE WHAT IT READS IS OF BULK AT MOST 1048576: true; the input reads as it did. -/
def signPairsUptoRow : OpenClaim := { program := "ytgkilffofnjmlaadoor", sum := "9feff813391e57e53b6613053ab78b501399017147c4752c739b52d08655443d", func := "galley/galleylaw5.SignPairs", spec := "signPairs", named := ["galley/sign.marks"], apart := false, laid := [("galley/sign.marks", laid_galley_sign_marks)], narrowed := true }
def SignPairsUptoSaid : Prop := signPairsUptoRow.holds Tryd.pinned (OpenSpec.upto signPairsSpec)

end Rows
end Go.Proofs.YtgkilffofnjmlaaDoor
