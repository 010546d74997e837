/-
  NARROWER THAN 'FOR EVERY INPUT', by the rows' own cells (each row's printed sentence says how): DocAsks: loops · DocMakes: loops · DocForces: loops.
  DERIVED. THE GIVEN ROWS OF THIS SEAT. 4 by the template 'for every input the law returns true; each argument reads behind the call as it read before'; 0 by the template 'total and deterministic' (their statements: YtnmpapmjkihfcaaTotals.lean).
  GIVEN WITH THE SEED: the statements are not yours to turn. If you find one false, say at which input.
  Laid BY PROGRAM, IN A SANDBOX (cutbox-rows.mjs): the forced cells as the released guide's own fill.sh prints them over the translation 4841390aacea79c8… (all of the seat's roots in one cut). By AI agents, Wed Nov 11 2026. No macro, syntax, notation, axiom, sorry.
-/
import Derived.Test.YtnmpapmjkihfcaaChecked
import GoSem.Claim
import GoSem.ClaimJoined
import GoSem.ClaimMapViews
import Derived.JoinedTies
import Derived.KernelRfl
namespace Go.Proofs.Ytnmpapmjkihfcaa
/- THE CELL 'sum', in the pinned program and in every row, IS THE sha256 OF THE DUMP (.gsa) THAT YtnmpapmjkihfcaaProg.lean LOADS. Nothing in Lean hashes anything: it is a label: what it is worth is what the hold of that sum in a sandbox is worth. -/
noncomputable def Try.pinned : Pinned := { name := "ytnmpapmjkihfcaa", sum := "4841390aacea79c80256d95c88176ec2f2fbfd7a972ea053ae1ddc11e9ab90c8", checked := Try.checked }
namespace Rows
def none {H : Type} : Left H := { results := [], args := [] }

/-- 'galleylaw15.DocAsks': WHATEVER THE INPUT: true; the input reads as it did. -/
def docAsksSpec : ChangeSpec := { name := "docAsks", fn := fun _ => fun
  | [d] => { results := [.lit (.bool true)], args := [d] }
  | _ => none }
def docAsksRow : OpenClaim := { program := "ytnmpapmjkihfcaa", sum := "4841390aacea79c80256d95c88176ec2f2fbfd7a972ea053ae1ddc11e9ab90c8", func := "galley/galleylaw15.DocAsks", spec := "docAsks", inPlace := ["internal/bytealg.IndexByteString", "internal/bytealg.IndexString"], unfollowed := true, recurses := true, named := ["internal/bytealg.MaxLen"], loops := true, apart := false }
def DocAsksSaid : Prop := docAsksRow.holds Try.pinned (OpenSpec.ofChange docAsksSpec)

/-- ITS FALSE NEIGHBOUR: 'it returns false'. Refute it at one input. -/
def docAsksWrong : ChangeSpec := { name := "docAsks", fn := fun _ => fun
  | [d] => { results := [.lit (.bool false)], args := [d] }
  | _ => none }
def DocAsksWrongFalsely : Prop := docAsksRow.holds Try.pinned (OpenSpec.ofChange docAsksWrong)

/-- 'galleylaw15.DocMakes': WHATEVER THE INPUT: true; the input reads as it did. -/
def docMakesSpec : ChangeSpec := { name := "docMakes", fn := fun _ => fun
  | [d1, d2, d3] => { results := [.lit (.bool true)], args := [d1, d2, d3] }
  | _ => none }
def docMakesRow : OpenClaim := { program := "ytnmpapmjkihfcaa", sum := "4841390aacea79c80256d95c88176ec2f2fbfd7a972ea053ae1ddc11e9ab90c8", func := "galley/galleylaw15.DocMakes", spec := "docMakes", inPlace := ["internal/bytealg.IndexByteString", "internal/bytealg.IndexString"], unfollowed := true, recurses := true, named := ["internal/bytealg.MaxLen"], loops := true, apart := false }
def DocMakesSaid : Prop := docMakesRow.holds Try.pinned (OpenSpec.ofChange docMakesSpec)

/-- ITS FALSE NEIGHBOUR: 'it returns false'. Refute it at one input. -/
def docMakesWrong : ChangeSpec := { name := "docMakes", fn := fun _ => fun
  | [d1, d2, d3] => { results := [.lit (.bool false)], args := [d1, d2, d3] }
  | _ => none }
def DocMakesWrongFalsely : Prop := docMakesRow.holds Try.pinned (OpenSpec.ofChange docMakesWrong)

/-- 'galleylaw15.DocForces': WHATEVER THE INPUT: true; the input reads as it did. -/
def docForcesSpec : ChangeSpec := { name := "docForces", fn := fun _ => fun
  | [d1, d2, d3] => { results := [.lit (.bool true)], args := [d1, d2, d3] }
  | _ => none }
def docForcesRow : OpenClaim := { program := "ytnmpapmjkihfcaa", sum := "4841390aacea79c80256d95c88176ec2f2fbfd7a972ea053ae1ddc11e9ab90c8", func := "galley/galleylaw15.DocForces", spec := "docForces", inPlace := ["internal/bytealg.IndexByteString", "internal/bytealg.IndexString"], unfollowed := true, recurses := true, named := ["internal/bytealg.MaxLen"], loops := true, apart := false }
def DocForcesSaid : Prop := docForcesRow.holds Try.pinned (OpenSpec.ofChange docForcesSpec)

/-- ITS FALSE NEIGHBOUR: 'it returns false'. Refute it at one input. -/
def docForcesWrong : ChangeSpec := { name := "docForces", fn := fun _ => fun
  | [d1, d2, d3] => { results := [.lit (.bool false)], args := [d1, d2, d3] }
  | _ => none }
def DocForcesWrongFalsely : Prop := docForcesRow.holds Try.pinned (OpenSpec.ofChange docForcesWrong)

/-- 'galleylaw15.DocBounds': WHATEVER THE INPUT: true; the input reads as it did. -/
def docBoundsSpec : ChangeSpec := { name := "docBounds", fn := fun _ => fun
  | [d1, d2] => { results := [.lit (.bool true)], args := [d1, d2] }
  | _ => none }
def docBoundsRow : OpenClaim := { program := "ytnmpapmjkihfcaa", sum := "4841390aacea79c80256d95c88176ec2f2fbfd7a972ea053ae1ddc11e9ab90c8", func := "galley/galleylaw15.DocBounds", spec := "docBounds", inPlace := ["internal/bytealg.IndexByteString", "internal/bytealg.IndexString"], unfollowed := true, recurses := true, named := ["internal/bytealg.MaxLen"], apart := false }
def DocBoundsSaid : Prop := docBoundsRow.holds Try.pinned (OpenSpec.ofChange docBoundsSpec)

/-- ITS FALSE NEIGHBOUR: 'it returns false'. Refute it at one input. -/
def docBoundsWrong : ChangeSpec := { name := "docBounds", fn := fun _ => fun
  | [d1, d2] => { results := [.lit (.bool false)], args := [d1, d2] }
  | _ => none }
def DocBoundsWrongFalsely : Prop := docBoundsRow.holds Try.pinned (OpenSpec.ofChange docBoundsWrong)

/- THE SECOND FORM. 'bulk': how many values and letters a reading holds, each counted each time it is reached (what is shared counts as often as it is met; a slice's spare places count too). A statement '..UptoSaid' is the law's where the arguments, and the package variables that the reading takes, are together of bulk at most 1048576: NARROWER than '..Said'. Prove '..Said' where nothing that the law and all that it calls make is longer than what came in: it says more and counts as full. Else prove '..UptoSaid'. A law counts once. -/
mutual
def uptoBulk {H : Type} : DataW H → Nat
  | .lit (.string bytes) => bytes.length + 1
  | .lit _ => 1
  | .nil => 1
  | .ptr d => uptoBulk d + 1
  | .slice elems spare => uptoBulkAll elems + uptoBulkAll spare + 1
  | .agg parts => uptoBulkAll parts + 1
  | .iface _ d => uptoBulk d + 1
  | .map entries => uptoBulkEntries entries + 1
  | .held _ => 1
def uptoBulkAll {H : Type} : List (DataW H) → Nat
  | [] => 0
  | d :: r => uptoBulk d + uptoBulkAll r
def uptoBulkEntries {H : Type} : List (Lit × DataW H) → Nat
  | [] => 0
  | x :: r => uptoBulkEntry x + uptoBulkEntries r
def uptoBulkEntry {H : Type} : Lit × DataW H → Nat
  | (.string bytes, d) => bytes.length + uptoBulk d + 1
  | (_, d) => uptoBulk d + 1
 end
def uptoSmall : (H : Type) → List (DataW H) → Bool := fun _ ds => decide (uptoBulkAll ds ≤ 1048576)
def OpenSpec.upto (s : _root_.Go.ChangeSpec) : _root_.Go.OpenSpec := { _root_.Go.OpenSpec.ofChange s with cond := some uptoSmall }

/-- 'galleylaw15.DocAsks', WHERE WHAT IT READS IS OF BULK AT MOST 1048576: true; the input reads as it did. -/
def docAsksUptoRow : OpenClaim := { program := "ytnmpapmjkihfcaa", sum := "4841390aacea79c80256d95c88176ec2f2fbfd7a972ea053ae1ddc11e9ab90c8", func := "galley/galleylaw15.DocAsks", spec := "docAsks", inPlace := ["internal/bytealg.IndexByteString", "internal/bytealg.IndexString"], unfollowed := true, recurses := true, named := ["internal/bytealg.MaxLen"], loops := true, apart := false, narrowed := true }
def DocAsksUptoSaid : Prop := docAsksUptoRow.holds Try.pinned (OpenSpec.upto docAsksSpec)

/-- 'galleylaw15.DocMakes', WHERE WHAT IT READS IS OF BULK AT MOST 1048576: true; the input reads as it did. -/
def docMakesUptoRow : OpenClaim := { program := "ytnmpapmjkihfcaa", sum := "4841390aacea79c80256d95c88176ec2f2fbfd7a972ea053ae1ddc11e9ab90c8", func := "galley/galleylaw15.DocMakes", spec := "docMakes", inPlace := ["internal/bytealg.IndexByteString", "internal/bytealg.IndexString"], unfollowed := true, recurses := true, named := ["internal/bytealg.MaxLen"], loops := true, apart := false, narrowed := true }
def DocMakesUptoSaid : Prop := docMakesUptoRow.holds Try.pinned (OpenSpec.upto docMakesSpec)

/-- 'galleylaw15.DocForces', WHERE WHAT IT READS IS OF BULK AT MOST 1048576: true; the input reads as it did. -/
def docForcesUptoRow : OpenClaim := { program := "ytnmpapmjkihfcaa", sum := "4841390aacea79c80256d95c88176ec2f2fbfd7a972ea053ae1ddc11e9ab90c8", func := "galley/galleylaw15.DocForces", spec := "docForces", inPlace := ["internal/bytealg.IndexByteString", "internal/bytealg.IndexString"], unfollowed := true, recurses := true, named := ["internal/bytealg.MaxLen"], loops := true, apart := false, narrowed := true }
def DocForcesUptoSaid : Prop := docForcesUptoRow.holds Try.pinned (OpenSpec.upto docForcesSpec)

/-- 'galleylaw15.DocBounds', WHERE WHAT IT READS IS OF BULK AT MOST 1048576: true; the input reads as it did. -/
def docBoundsUptoRow : OpenClaim := { program := "ytnmpapmjkihfcaa", sum := "4841390aacea79c80256d95c88176ec2f2fbfd7a972ea053ae1ddc11e9ab90c8", func := "galley/galleylaw15.DocBounds", spec := "docBounds", inPlace := ["internal/bytealg.IndexByteString", "internal/bytealg.IndexString"], unfollowed := true, recurses := true, named := ["internal/bytealg.MaxLen"], apart := false, narrowed := true }
def DocBoundsUptoSaid : Prop := docBoundsUptoRow.holds Try.pinned (OpenSpec.upto docBoundsSpec)

end Rows
end Go.Proofs.Ytnmpapmjkihfcaa
