/-
  No cell of these rows narrows 'for every input' (looked for: loops, veiled, ifaces, maps, wideKeys, modest, calm, conditions, laid).
  DERIVED. THE GIVEN ROWS OF THIS SEAT. 4 by the template 'for every input the law returns true; each argument reads behind the call as it read before'; 0 by the template 'total and deterministic' (their statements: YtlajngjbajabiaaTotals.lean).
  GIVEN WITH THE SEED: the statements are not yours to turn. If you find one false, say at which input.
  Laid BY PROGRAM, IN A SANDBOX (cutbox-rows.mjs): the forced cells as the released guide's own fill.sh prints them over the translation 08b0f930e8d1260f… (all of the seat's roots in one cut). By AI agents, Wed Nov 11 2026. No macro, syntax, notation, axiom, sorry.
-/
import Derived.Test.YtlajngjbajabiaaChecked
import GoSem.Claim
import GoSem.ClaimJoined
import GoSem.ClaimMapViews
import Derived.JoinedTies
import Derived.KernelRfl
namespace Go.Proofs.Ytlajngjbajabiaa
/- THE CELL 'sum', in the pinned program and in every row, IS THE sha256 OF THE DUMP (.gsa) THAT YtlajngjbajabiaaProg.lean LOADS. Nothing in Lean hashes anything: it is a label: what it is worth is what the hold of that sum in a sandbox is worth. -/
noncomputable def Try.pinned : Pinned := { name := "ytlajngjbajabiaa", sum := "08b0f930e8d1260f0a29db1a99be89e3e371a24396c3f106e0326f778addf665", checked := Try.checked }
namespace Rows
def none {H : Type} : Left H := { results := [], args := [] }

/-- 'galleylaw7.GapAsks': WHATEVER THE INPUT: true; the input reads as it did. -/
def gapAsksSpec : ChangeSpec := { name := "gapAsks", fn := fun _ => fun
  | [d1, d2] => { results := [.lit (.bool true)], args := [d1, d2] }
  | _ => none }
def gapAsksRow : OpenClaim := { program := "ytlajngjbajabiaa", sum := "08b0f930e8d1260f0a29db1a99be89e3e371a24396c3f106e0326f778addf665", func := "galley/galleylaw7.GapAsks", spec := "gapAsks", unfollowed := true, recurses := true, apart := false }
def GapAsksSaid : Prop := gapAsksRow.holds Try.pinned (OpenSpec.ofChange gapAsksSpec)

/-- ITS FALSE NEIGHBOUR: 'it returns false'. Refute it at one input. -/
def gapAsksWrong : ChangeSpec := { name := "gapAsks", fn := fun _ => fun
  | [d1, d2] => { results := [.lit (.bool false)], args := [d1, d2] }
  | _ => none }
def GapAsksWrongFalsely : Prop := gapAsksRow.holds Try.pinned (OpenSpec.ofChange gapAsksWrong)

/-- 'galleylaw7.GapDeep': WHATEVER THE INPUT: true; the input reads as it did. -/
def gapDeepSpec : ChangeSpec := { name := "gapDeep", fn := fun _ => fun
  | [d] => { results := [.lit (.bool true)], args := [d] }
  | _ => none }
def gapDeepRow : OpenClaim := { program := "ytlajngjbajabiaa", sum := "08b0f930e8d1260f0a29db1a99be89e3e371a24396c3f106e0326f778addf665", func := "galley/galleylaw7.GapDeep", spec := "gapDeep", unfollowed := true, recurses := true, apart := false }
def GapDeepSaid : Prop := gapDeepRow.holds Try.pinned (OpenSpec.ofChange gapDeepSpec)

/-- ITS FALSE NEIGHBOUR: 'it returns false'. Refute it at one input. -/
def gapDeepWrong : ChangeSpec := { name := "gapDeep", fn := fun _ => fun
  | [d] => { results := [.lit (.bool false)], args := [d] }
  | _ => none }
def GapDeepWrongFalsely : Prop := gapDeepRow.holds Try.pinned (OpenSpec.ofChange gapDeepWrong)

/-- 'galleylaw7.GapNests': WHATEVER THE INPUT: true; the input reads as it did. -/
def gapNestsSpec : ChangeSpec := { name := "gapNests", fn := fun _ => fun
  | [d1, d2] => { results := [.lit (.bool true)], args := [d1, d2] }
  | _ => none }
def gapNestsRow : OpenClaim := { program := "ytlajngjbajabiaa", sum := "08b0f930e8d1260f0a29db1a99be89e3e371a24396c3f106e0326f778addf665", func := "galley/galleylaw7.GapNests", spec := "gapNests", unfollowed := true, recurses := true, apart := false }
def GapNestsSaid : Prop := gapNestsRow.holds Try.pinned (OpenSpec.ofChange gapNestsSpec)

/-- ITS FALSE NEIGHBOUR: 'it returns false'. Refute it at one input. -/
def gapNestsWrong : ChangeSpec := { name := "gapNests", fn := fun _ => fun
  | [d1, d2] => { results := [.lit (.bool false)], args := [d1, d2] }
  | _ => none }
def GapNestsWrongFalsely : Prop := gapNestsRow.holds Try.pinned (OpenSpec.ofChange gapNestsWrong)

/-- 'galleylaw7.GapCounts': WHATEVER THE INPUT: true; the input reads as it did. -/
def gapCountsSpec : ChangeSpec := { name := "gapCounts", fn := fun _ => fun
  | [d1, d2] => { results := [.lit (.bool true)], args := [d1, d2] }
  | _ => none }
def gapCountsRow : OpenClaim := { program := "ytlajngjbajabiaa", sum := "08b0f930e8d1260f0a29db1a99be89e3e371a24396c3f106e0326f778addf665", func := "galley/galleylaw7.GapCounts", spec := "gapCounts", unfollowed := true, recurses := true, apart := false }
def GapCountsSaid : Prop := gapCountsRow.holds Try.pinned (OpenSpec.ofChange gapCountsSpec)

/-- ITS FALSE NEIGHBOUR: 'it returns false'. Refute it at one input. -/
def gapCountsWrong : ChangeSpec := { name := "gapCounts", fn := fun _ => fun
  | [d1, d2] => { results := [.lit (.bool false)], args := [d1, d2] }
  | _ => none }
def GapCountsWrongFalsely : Prop := gapCountsRow.holds Try.pinned (OpenSpec.ofChange gapCountsWrong)

/- THE SECOND FORM. 'bulk': how many values and letters a reading holds, each counted each time it is reached (what is shared counts as often as it is met; a slice's spare places count too). A statement '..UptoSaid' is the law's where the arguments, and the package variables that the reading takes, are together of bulk at most 1048576: NARROWER than '..Said'. Prove '..Said' where nothing that the law and all that it calls make is longer than what came in: it says more and counts as full. Else prove '..UptoSaid'. A law counts once. -/
mutual
def uptoBulk {H : Type} : DataW H → Nat
  | .lit (.string bytes) => bytes.length + 1
  | .lit _ => 1
  | .nil => 1
  | .ptr d => uptoBulk d + 1
  | .slice elems spare => uptoBulkAll elems + uptoBulkAll spare + 1
  | .agg parts => uptoBulkAll parts + 1
  | .iface _ d => uptoBulk d + 1
  | .map entries => uptoBulkEntries entries + 1
  | .held _ => 1
def uptoBulkAll {H : Type} : List (DataW H) → Nat
  | [] => 0
  | d :: r => uptoBulk d + uptoBulkAll r
def uptoBulkEntries {H : Type} : List (Lit × DataW H) → Nat
  | [] => 0
  | x :: r => uptoBulkEntry x + uptoBulkEntries r
def uptoBulkEntry {H : Type} : Lit × DataW H → Nat
  | (.string bytes, d) => bytes.length + uptoBulk d + 1
  | (_, d) => uptoBulk d + 1
 end
def uptoSmall : (H : Type) → List (DataW H) → Bool := fun _ ds => decide (uptoBulkAll ds ≤ 1048576)
def OpenSpec.upto (s : _root_.Go.ChangeSpec) : _root_.Go.OpenSpec := { _root_.Go.OpenSpec.ofChange s with cond := some uptoSmall }

/-- 'galleylaw7.GapAsks', WHERE WHAT IT READS IS OF BULK AT MOST 1048576: true; the input reads as it did. -/
def gapAsksUptoRow : OpenClaim := { program := "ytlajngjbajabiaa", sum := "08b0f930e8d1260f0a29db1a99be89e3e371a24396c3f106e0326f778addf665", func := "galley/galleylaw7.GapAsks", spec := "gapAsks", unfollowed := true, recurses := true, apart := false, narrowed := true }
def GapAsksUptoSaid : Prop := gapAsksUptoRow.holds Try.pinned (OpenSpec.upto gapAsksSpec)

/-- 'galleylaw7.GapDeep', WHERE WHAT IT READS IS OF BULK AT MOST 1048576: true; the input reads as it did. -/
def gapDeepUptoRow : OpenClaim := { program := "ytlajngjbajabiaa", sum := "08b0f930e8d1260f0a29db1a99be89e3e371a24396c3f106e0326f778addf665", func := "galley/galleylaw7.GapDeep", spec := "gapDeep", unfollowed := true, recurses := true, apart := false, narrowed := true }
def GapDeepUptoSaid : Prop := gapDeepUptoRow.holds Try.pinned (OpenSpec.upto gapDeepSpec)

/-- 'galleylaw7.GapNests', WHERE WHAT IT READS IS OF BULK AT MOST 1048576: true; the input reads as it did. -/
def gapNestsUptoRow : OpenClaim := { program := "ytlajngjbajabiaa", sum := "08b0f930e8d1260f0a29db1a99be89e3e371a24396c3f106e0326f778addf665", func := "galley/galleylaw7.GapNests", spec := "gapNests", unfollowed := true, recurses := true, apart := false, narrowed := true }
def GapNestsUptoSaid : Prop := gapNestsUptoRow.holds Try.pinned (OpenSpec.upto gapNestsSpec)

/-- 'galleylaw7.GapCounts', WHERE WHAT IT READS IS OF BULK AT MOST 1048576: true; the input reads as it did. -/
def gapCountsUptoRow : OpenClaim := { program := "ytlajngjbajabiaa", sum := "08b0f930e8d1260f0a29db1a99be89e3e371a24396c3f106e0326f778addf665", func := "galley/galleylaw7.GapCounts", spec := "gapCounts", unfollowed := true, recurses := true, apart := false, narrowed := true }
def GapCountsUptoSaid : Prop := gapCountsUptoRow.holds Try.pinned (OpenSpec.upto gapCountsSpec)

end Rows
end Go.Proofs.Ytlajngjbajabiaa
