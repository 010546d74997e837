/-
  No cell of these rows narrows 'for every input' (looked for: loops, veiled, ifaces, maps, wideKeys, modest, calm, conditions, laid).
  DERIVED. THE GIVEN ROWS OF THIS SEAT. 3 by the template 'for every input the law returns true; each argument reads behind the call as it read before'; 0 by the template 'total and deterministic' (their statements: YtbinennnddfplaaTotals.lean).
  GIVEN WITH THE SEED: the statements are not yours to turn. If you find one false, say at which input.
  Laid BY PROGRAM, IN A SANDBOX (cutbox-rows.mjs): the forced cells as the released guide's own fill.sh prints them over the translation ca9e775430550f55… (all of the seat's roots in one cut). By AI agents, Wed Nov 11 2026. No macro, syntax, notation, axiom, sorry.
-/
import Derived.Test.YtbinennnddfplaaChecked
import GoSem.Claim
import GoSem.ClaimJoined
import GoSem.ClaimMapViews
import Derived.JoinedTies
import Derived.KernelRfl
namespace Go.Proofs.Ytbinennnddfplaa
/- THE CELL 'sum', in the pinned program and in every row, IS THE sha256 OF THE DUMP (.gsa) THAT YtbinennnddfplaaProg.lean LOADS. Nothing in Lean hashes anything: it is a label: what it is worth is what the hold of that sum in a sandbox is worth. -/
noncomputable def Try.pinned : Pinned := { name := "ytbinennnddfplaa", sum := "ca9e775430550f551fadacd0b31a21585f47867104a42a451ca4ca079404802e", checked := Try.checked }
namespace Rows
def none {H : Type} : Left H := { results := [], args := [] }

/-- 'galleylaw9.OpsAsks': WHATEVER THE INPUT: true; the input reads as it did. -/
def opsAsksSpec : ChangeSpec := { name := "opsAsks", fn := fun _ => fun
  | [d] => { results := [.lit (.bool true)], args := [d] }
  | _ => none }
def opsAsksRow : OpenClaim := { program := "ytbinennnddfplaa", sum := "ca9e775430550f551fadacd0b31a21585f47867104a42a451ca4ca079404802e", func := "galley/galleylaw9.OpsAsks", spec := "opsAsks", apart := false }
def OpsAsksSaid : Prop := opsAsksRow.holds Try.pinned (OpenSpec.ofChange opsAsksSpec)

/-- ITS FALSE NEIGHBOUR: 'it returns false'. Refute it at one input. -/
def opsAsksWrong : ChangeSpec := { name := "opsAsks", fn := fun _ => fun
  | [d] => { results := [.lit (.bool false)], args := [d] }
  | _ => none }
def OpsAsksWrongFalsely : Prop := opsAsksRow.holds Try.pinned (OpenSpec.ofChange opsAsksWrong)

/-- 'galleylaw9.OpsSides': WHATEVER THE INPUT: true; the input reads as it did. -/
def opsSidesSpec : ChangeSpec := { name := "opsSides", fn := fun _ => fun
  | [d1, d2] => { results := [.lit (.bool true)], args := [d1, d2] }
  | _ => none }
def opsSidesRow : OpenClaim := { program := "ytbinennnddfplaa", sum := "ca9e775430550f551fadacd0b31a21585f47867104a42a451ca4ca079404802e", func := "galley/galleylaw9.OpsSides", spec := "opsSides", apart := false }
def OpsSidesSaid : Prop := opsSidesRow.holds Try.pinned (OpenSpec.ofChange opsSidesSpec)

/-- ITS FALSE NEIGHBOUR: 'it returns false'. Refute it at one input. -/
def opsSidesWrong : ChangeSpec := { name := "opsSides", fn := fun _ => fun
  | [d1, d2] => { results := [.lit (.bool false)], args := [d1, d2] }
  | _ => none }
def OpsSidesWrongFalsely : Prop := opsSidesRow.holds Try.pinned (OpenSpec.ofChange opsSidesWrong)

/-- 'galleylaw9.OpsPrefixes': WHATEVER THE INPUT: true; the input reads as it did. -/
def opsPrefixesSpec : ChangeSpec := { name := "opsPrefixes", fn := fun _ => fun
  | [d] => { results := [.lit (.bool true)], args := [d] }
  | _ => none }
def opsPrefixesRow : OpenClaim := { program := "ytbinennnddfplaa", sum := "ca9e775430550f551fadacd0b31a21585f47867104a42a451ca4ca079404802e", func := "galley/galleylaw9.OpsPrefixes", spec := "opsPrefixes", apart := false }
def OpsPrefixesSaid : Prop := opsPrefixesRow.holds Try.pinned (OpenSpec.ofChange opsPrefixesSpec)

/-- ITS FALSE NEIGHBOUR: 'it returns false'. Refute it at one input. -/
def opsPrefixesWrong : ChangeSpec := { name := "opsPrefixes", fn := fun _ => fun
  | [d] => { results := [.lit (.bool false)], args := [d] }
  | _ => none }
def OpsPrefixesWrongFalsely : Prop := opsPrefixesRow.holds Try.pinned (OpenSpec.ofChange opsPrefixesWrong)

/- THE SECOND FORM. 'bulk': how many values and letters a reading holds, each counted each time it is reached (what is shared counts as often as it is met; a slice's spare places count too). A statement '..UptoSaid' is the law's where the arguments, and the package variables that the reading takes, are together of bulk at most 1048576: NARROWER than '..Said'. Prove '..Said' where nothing that the law and all that it calls make is longer than what came in: it says more and counts as full. Else prove '..UptoSaid'. A law counts once. -/
mutual
def uptoBulk {H : Type} : DataW H → Nat
  | .lit (.string bytes) => bytes.length + 1
  | .lit _ => 1
  | .nil => 1
  | .ptr d => uptoBulk d + 1
  | .slice elems spare => uptoBulkAll elems + uptoBulkAll spare + 1
  | .agg parts => uptoBulkAll parts + 1
  | .iface _ d => uptoBulk d + 1
  | .map entries => uptoBulkEntries entries + 1
  | .held _ => 1
def uptoBulkAll {H : Type} : List (DataW H) → Nat
  | [] => 0
  | d :: r => uptoBulk d + uptoBulkAll r
def uptoBulkEntries {H : Type} : List (Lit × DataW H) → Nat
  | [] => 0
  | x :: r => uptoBulkEntry x + uptoBulkEntries r
def uptoBulkEntry {H : Type} : Lit × DataW H → Nat
  | (.string bytes, d) => bytes.length + uptoBulk d + 1
  | (_, d) => uptoBulk d + 1
 end
def uptoSmall : (H : Type) → List (DataW H) → Bool := fun _ ds => decide (uptoBulkAll ds ≤ 1048576)
def OpenSpec.upto (s : _root_.Go.ChangeSpec) : _root_.Go.OpenSpec := { _root_.Go.OpenSpec.ofChange s with cond := some uptoSmall }

/-- 'galleylaw9.OpsAsks', WHERE WHAT IT READS IS OF BULK AT MOST 1048576: true; the input reads as it did. -/
def opsAsksUptoRow : OpenClaim := { program := "ytbinennnddfplaa", sum := "ca9e775430550f551fadacd0b31a21585f47867104a42a451ca4ca079404802e", func := "galley/galleylaw9.OpsAsks", spec := "opsAsks", apart := false, narrowed := true }
def OpsAsksUptoSaid : Prop := opsAsksUptoRow.holds Try.pinned (OpenSpec.upto opsAsksSpec)

/-- 'galleylaw9.OpsSides', WHERE WHAT IT READS IS OF BULK AT MOST 1048576: true; the input reads as it did. -/
def opsSidesUptoRow : OpenClaim := { program := "ytbinennnddfplaa", sum := "ca9e775430550f551fadacd0b31a21585f47867104a42a451ca4ca079404802e", func := "galley/galleylaw9.OpsSides", spec := "opsSides", apart := false, narrowed := true }
def OpsSidesUptoSaid : Prop := opsSidesUptoRow.holds Try.pinned (OpenSpec.upto opsSidesSpec)

/-- 'galleylaw9.OpsPrefixes', WHERE WHAT IT READS IS OF BULK AT MOST 1048576: true; the input reads as it did. -/
def opsPrefixesUptoRow : OpenClaim := { program := "ytbinennnddfplaa", sum := "ca9e775430550f551fadacd0b31a21585f47867104a42a451ca4ca079404802e", func := "galley/galleylaw9.OpsPrefixes", spec := "opsPrefixes", apart := false, narrowed := true }
def OpsPrefixesUptoSaid : Prop := opsPrefixesUptoRow.holds Try.pinned (OpenSpec.upto opsPrefixesSpec)

end Rows
end Go.Proofs.Ytbinennnddfplaa
