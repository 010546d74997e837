/-
  NARROWER THAN 'FOR EVERY INPUT', by the rows' own cells (each row's printed sentence says how): ParensAsks: loops.
  DERIVED. THE GIVEN ROWS OF THIS SEAT. 3 by the template 'for every input the law returns true; each argument reads behind the call as it read before'; 0 by the template 'total and deterministic' (their statements: YtbjgoigdhijbgaaTotals.lean).
  GIVEN WITH THE SEED: the statements are not yours to turn. If you find one false, say at which input.
  Laid BY PROGRAM, IN A SANDBOX (cutbox-rows.mjs): the forced cells as the released guide's own fill.sh prints them over the translation 1bcc0cc803efe0d5… (all of the seat's roots in one cut). By AI agents, Wed Nov 11 2026. No macro, syntax, notation, axiom, sorry.
-/
import Derived.Test.YtbjgoigdhijbgaaChecked
import GoSem.Claim
import GoSem.ClaimJoined
import GoSem.ClaimMapViews
import Derived.JoinedTies
import Derived.KernelRfl
namespace Go.Proofs.Ytbjgoigdhijbgaa
/- THE CELL 'sum', in the pinned program and in every row, IS THE sha256 OF THE DUMP (.gsa) THAT YtbjgoigdhijbgaaProg.lean LOADS. Nothing in Lean hashes anything: it is a label: what it is worth is what the hold of that sum in a sandbox is worth. -/
noncomputable def Try.pinned : Pinned := { name := "ytbjgoigdhijbgaa", sum := "1bcc0cc803efe0d50dcc579270934f21c62074582b70c3b1ec80de8ca1570528", checked := Try.checked }
namespace Rows
def none {H : Type} : Left H := { results := [], args := [] }

/-- 'galleylaw18.ParensAsks': WHATEVER THE INPUT: true; the input reads as it did. -/
def parensAsksSpec : ChangeSpec := { name := "parensAsks", fn := fun _ => fun
  | [d1, d2, d3] => { results := [.lit (.bool true)], args := [d1, d2, d3] }
  | _ => none }
def parensAsksRow : OpenClaim := { program := "ytbjgoigdhijbgaa", sum := "1bcc0cc803efe0d50dcc579270934f21c62074582b70c3b1ec80de8ca1570528", func := "galley/galleylaw18.ParensAsks", spec := "parensAsks", loops := true, apart := false }
def ParensAsksSaid : Prop := parensAsksRow.holds Try.pinned (OpenSpec.ofChange parensAsksSpec)

/-- ITS FALSE NEIGHBOUR: 'it returns false'. Refute it at one input. -/
def parensAsksWrong : ChangeSpec := { name := "parensAsks", fn := fun _ => fun
  | [d1, d2, d3] => { results := [.lit (.bool false)], args := [d1, d2, d3] }
  | _ => none }
def ParensAsksWrongFalsely : Prop := parensAsksRow.holds Try.pinned (OpenSpec.ofChange parensAsksWrong)

/-- 'galleylaw18.ParensOps': WHATEVER THE INPUT: true; the input reads as it did. -/
def parensOpsSpec : ChangeSpec := { name := "parensOps", fn := fun _ => fun
  | [d1, d2] => { results := [.lit (.bool true)], args := [d1, d2] }
  | _ => none }
def parensOpsRow : OpenClaim := { program := "ytbjgoigdhijbgaa", sum := "1bcc0cc803efe0d50dcc579270934f21c62074582b70c3b1ec80de8ca1570528", func := "galley/galleylaw18.ParensOps", spec := "parensOps", apart := false }
def ParensOpsSaid : Prop := parensOpsRow.holds Try.pinned (OpenSpec.ofChange parensOpsSpec)

/-- ITS FALSE NEIGHBOUR: 'it returns false'. Refute it at one input. -/
def parensOpsWrong : ChangeSpec := { name := "parensOps", fn := fun _ => fun
  | [d1, d2] => { results := [.lit (.bool false)], args := [d1, d2] }
  | _ => none }
def ParensOpsWrongFalsely : Prop := parensOpsRow.holds Try.pinned (OpenSpec.ofChange parensOpsWrong)

/-- 'galleylaw18.ParensKinds': WHATEVER THE INPUT: true; the input reads as it did. -/
def parensKindsSpec : ChangeSpec := { name := "parensKinds", fn := fun _ => fun
  | [d1, d2, d3] => { results := [.lit (.bool true)], args := [d1, d2, d3] }
  | _ => none }
def parensKindsRow : OpenClaim := { program := "ytbjgoigdhijbgaa", sum := "1bcc0cc803efe0d50dcc579270934f21c62074582b70c3b1ec80de8ca1570528", func := "galley/galleylaw18.ParensKinds", spec := "parensKinds", apart := false }
def ParensKindsSaid : Prop := parensKindsRow.holds Try.pinned (OpenSpec.ofChange parensKindsSpec)

/-- ITS FALSE NEIGHBOUR: 'it returns false'. Refute it at one input. -/
def parensKindsWrong : ChangeSpec := { name := "parensKinds", fn := fun _ => fun
  | [d1, d2, d3] => { results := [.lit (.bool false)], args := [d1, d2, d3] }
  | _ => none }
def ParensKindsWrongFalsely : Prop := parensKindsRow.holds Try.pinned (OpenSpec.ofChange parensKindsWrong)

/- THE SECOND FORM. 'bulk': how many values and letters a reading holds, each counted each time it is reached (what is shared counts as often as it is met; a slice's spare places count too). A statement '..UptoSaid' is the law's where the arguments, and the package variables that the reading takes, are together of bulk at most 1048576: NARROWER than '..Said'. Prove '..Said' where nothing that the law and all that it calls make is longer than what came in: it says more and counts as full. Else prove '..UptoSaid'. A law counts once. -/
mutual
def uptoBulk {H : Type} : DataW H → Nat
  | .lit (.string bytes) => bytes.length + 1
  | .lit _ => 1
  | .nil => 1
  | .ptr d => uptoBulk d + 1
  | .slice elems spare => uptoBulkAll elems + uptoBulkAll spare + 1
  | .agg parts => uptoBulkAll parts + 1
  | .iface _ d => uptoBulk d + 1
  | .map entries => uptoBulkEntries entries + 1
  | .held _ => 1
def uptoBulkAll {H : Type} : List (DataW H) → Nat
  | [] => 0
  | d :: r => uptoBulk d + uptoBulkAll r
def uptoBulkEntries {H : Type} : List (Lit × DataW H) → Nat
  | [] => 0
  | x :: r => uptoBulkEntry x + uptoBulkEntries r
def uptoBulkEntry {H : Type} : Lit × DataW H → Nat
  | (.string bytes, d) => bytes.length + uptoBulk d + 1
  | (_, d) => uptoBulk d + 1
 end
def uptoSmall : (H : Type) → List (DataW H) → Bool := fun _ ds => decide (uptoBulkAll ds ≤ 1048576)
def OpenSpec.upto (s : _root_.Go.ChangeSpec) : _root_.Go.OpenSpec := { _root_.Go.OpenSpec.ofChange s with cond := some uptoSmall }

/-- 'galleylaw18.ParensAsks', WHERE WHAT IT READS IS OF BULK AT MOST 1048576: true; the input reads as it did. -/
def parensAsksUptoRow : OpenClaim := { program := "ytbjgoigdhijbgaa", sum := "1bcc0cc803efe0d50dcc579270934f21c62074582b70c3b1ec80de8ca1570528", func := "galley/galleylaw18.ParensAsks", spec := "parensAsks", loops := true, apart := false, narrowed := true }
def ParensAsksUptoSaid : Prop := parensAsksUptoRow.holds Try.pinned (OpenSpec.upto parensAsksSpec)

/-- 'galleylaw18.ParensOps', WHERE WHAT IT READS IS OF BULK AT MOST 1048576: true; the input reads as it did. -/
def parensOpsUptoRow : OpenClaim := { program := "ytbjgoigdhijbgaa", sum := "1bcc0cc803efe0d50dcc579270934f21c62074582b70c3b1ec80de8ca1570528", func := "galley/galleylaw18.ParensOps", spec := "parensOps", apart := false, narrowed := true }
def ParensOpsUptoSaid : Prop := parensOpsUptoRow.holds Try.pinned (OpenSpec.upto parensOpsSpec)

/-- 'galleylaw18.ParensKinds', WHERE WHAT IT READS IS OF BULK AT MOST 1048576: true; the input reads as it did. -/
def parensKindsUptoRow : OpenClaim := { program := "ytbjgoigdhijbgaa", sum := "1bcc0cc803efe0d50dcc579270934f21c62074582b70c3b1ec80de8ca1570528", func := "galley/galleylaw18.ParensKinds", spec := "parensKinds", apart := false, narrowed := true }
def ParensKindsUptoSaid : Prop := parensKindsUptoRow.holds Try.pinned (OpenSpec.upto parensKindsSpec)

end Rows
end Go.Proofs.Ytbjgoigdhijbgaa
