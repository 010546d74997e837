/-
  No cell of these rows narrows 'for every input' (looked for: loops, veiled, ifaces, maps, wideKeys, modest, calm, conditions, laid).
  DERIVED. THE GIVEN ROWS OF THIS SEAT. 12 by the template 'for every input the law returns true; each argument reads behind the call as it read before'; 0 by the template 'total and deterministic' (their statements: YtdhadeeajgoedaaGreatTotals.lean).
  GIVEN WITH THE SEED: the statements are not yours to turn. If you find one false, say at which input.
  Laid BY PROGRAM, IN A SANDBOX (cutbox-rows.mjs): the forced cells as the released guide's own fill.sh prints them over the translation d55e4b1256aa6925… (all of the seat's roots in one cut). By AI agents, Wed Nov 11 2026. No macro, syntax, notation, axiom, sorry.
-/
import Derived.Test.YtdhadeeajgoedaaGreatChecked
import GoSem.Claim
import GoSem.ClaimJoined
import GoSem.ClaimMapViews
import Derived.JoinedTies
import Derived.KernelRfl
namespace Go.Proofs.YtdhadeeajgoedaaGreat
/- THE CELL 'sum', in the pinned program and in every row, IS THE sha256 OF THE DUMP (.gsa) THAT YtdhadeeajgoedaaGreatProg.lean LOADS. Nothing in Lean hashes anything: it is a label: what it is worth is what the hold of that sum in a sandbox is worth. -/
noncomputable def Tryz.pinned : Pinned := { name := "ytdhadeeajgoedaagreat", sum := "d55e4b1256aa69253b5d59d0ef92b075593c0ac28a32d5a7fcc9fa1567028484", checked := Tryz.checked }
namespace Rows
def none {H : Type} : Left H := { results := [], args := [] }

/-- 'galleylaw13.ParseLevels': WHATEVER THE INPUT: true; the input reads as it did. -/
def parseLevelsSpec : ChangeSpec := { name := "parseLevels", fn := fun _ => fun
  | [d1, d2] => { results := [.lit (.bool true)], args := [d1, d2] }
  | _ => none }
def parseLevelsRow : OpenClaim := { program := "ytdhadeeajgoedaagreat", sum := "d55e4b1256aa69253b5d59d0ef92b075593c0ac28a32d5a7fcc9fa1567028484", func := "galley/galleylaw13.ParseLevels", spec := "parseLevels", inPlace := ["internal/abi.NoEscape"], unfollowed := true, recurses := true, apart := false }
def ParseLevelsSaid : Prop := parseLevelsRow.holds Tryz.pinned (OpenSpec.ofChange parseLevelsSpec)

/-- ITS FALSE NEIGHBOUR: 'it returns false'. Refute it at one input. -/
def parseLevelsWrong : ChangeSpec := { name := "parseLevels", fn := fun _ => fun
  | [d1, d2] => { results := [.lit (.bool false)], args := [d1, d2] }
  | _ => none }
def ParseLevelsWrongFalsely : Prop := parseLevelsRow.holds Tryz.pinned (OpenSpec.ofChange parseLevelsWrong)

/-- 'galleylaw13.ParseAsks': WHATEVER THE INPUT: true; the input reads as it did. -/
def parseAsksSpec : ChangeSpec := { name := "parseAsks", fn := fun _ => fun
  | [d1, d2, d3, d4] => { results := [.lit (.bool true)], args := [d1, d2, d3, d4] }
  | _ => none }
def parseAsksRow : OpenClaim := { program := "ytdhadeeajgoedaagreat", sum := "d55e4b1256aa69253b5d59d0ef92b075593c0ac28a32d5a7fcc9fa1567028484", func := "galley/galleylaw13.ParseAsks", spec := "parseAsks", inPlace := ["internal/abi.NoEscape"], unfollowed := true, recurses := true, apart := false }
def ParseAsksSaid : Prop := parseAsksRow.holds Tryz.pinned (OpenSpec.ofChange parseAsksSpec)

/-- ITS FALSE NEIGHBOUR: 'it returns false'. Refute it at one input. -/
def parseAsksWrong : ChangeSpec := { name := "parseAsks", fn := fun _ => fun
  | [d1, d2, d3, d4] => { results := [.lit (.bool false)], args := [d1, d2, d3, d4] }
  | _ => none }
def ParseAsksWrongFalsely : Prop := parseAsksRow.holds Tryz.pinned (OpenSpec.ofChange parseAsksWrong)

/-- 'galleylaw13.ParseGroups': WHATEVER THE INPUT: true; the input reads as it did. -/
def parseGroupsSpec : ChangeSpec := { name := "parseGroups", fn := fun _ => fun
  | [d1, d2] => { results := [.lit (.bool true)], args := [d1, d2] }
  | _ => none }
def parseGroupsRow : OpenClaim := { program := "ytdhadeeajgoedaagreat", sum := "d55e4b1256aa69253b5d59d0ef92b075593c0ac28a32d5a7fcc9fa1567028484", func := "galley/galleylaw13.ParseGroups", spec := "parseGroups", inPlace := ["internal/abi.NoEscape"], unfollowed := true, recurses := true, apart := false }
def ParseGroupsSaid : Prop := parseGroupsRow.holds Tryz.pinned (OpenSpec.ofChange parseGroupsSpec)

/-- ITS FALSE NEIGHBOUR: 'it returns false'. Refute it at one input. -/
def parseGroupsWrong : ChangeSpec := { name := "parseGroups", fn := fun _ => fun
  | [d1, d2] => { results := [.lit (.bool false)], args := [d1, d2] }
  | _ => none }
def ParseGroupsWrongFalsely : Prop := parseGroupsRow.holds Tryz.pinned (OpenSpec.ofChange parseGroupsWrong)

/-- 'galleylaw13.ParseParens': WHATEVER THE INPUT: true; the input reads as it did. -/
def parseParensSpec : ChangeSpec := { name := "parseParens", fn := fun _ => fun
  | [d1, d2] => { results := [.lit (.bool true)], args := [d1, d2] }
  | _ => none }
def parseParensRow : OpenClaim := { program := "ytdhadeeajgoedaagreat", sum := "d55e4b1256aa69253b5d59d0ef92b075593c0ac28a32d5a7fcc9fa1567028484", func := "galley/galleylaw13.ParseParens", spec := "parseParens", inPlace := ["internal/abi.NoEscape"], unfollowed := true, recurses := true, apart := false }
def ParseParensSaid : Prop := parseParensRow.holds Tryz.pinned (OpenSpec.ofChange parseParensSpec)

/-- ITS FALSE NEIGHBOUR: 'it returns false'. Refute it at one input. -/
def parseParensWrong : ChangeSpec := { name := "parseParens", fn := fun _ => fun
  | [d1, d2] => { results := [.lit (.bool false)], args := [d1, d2] }
  | _ => none }
def ParseParensWrongFalsely : Prop := parseParensRow.holds Tryz.pinned (OpenSpec.ofChange parseParensWrong)

/-- 'galleylaw13.ParseWrong': WHATEVER THE INPUT: true; the input reads as it did. -/
def parseWrongSpec : ChangeSpec := { name := "parseWrong", fn := fun _ => fun
  | [d] => { results := [.lit (.bool true)], args := [d] }
  | _ => none }
def parseWrongRow : OpenClaim := { program := "ytdhadeeajgoedaagreat", sum := "d55e4b1256aa69253b5d59d0ef92b075593c0ac28a32d5a7fcc9fa1567028484", func := "galley/galleylaw13.ParseWrong", spec := "parseWrong", inPlace := ["internal/abi.NoEscape"], unfollowed := true, recurses := true, apart := false }
def ParseWrongSaid : Prop := parseWrongRow.holds Tryz.pinned (OpenSpec.ofChange parseWrongSpec)

/-- ITS FALSE NEIGHBOUR: 'it returns false'. Refute it at one input. -/
def parseWrongWrong : ChangeSpec := { name := "parseWrong", fn := fun _ => fun
  | [d] => { results := [.lit (.bool false)], args := [d] }
  | _ => none }
def ParseWrongWrongFalsely : Prop := parseWrongRow.holds Tryz.pinned (OpenSpec.ofChange parseWrongWrong)

/-- 'galleylaw13.ParseLits': WHATEVER THE INPUT: true; the input reads as it did. -/
def parseLitsSpec : ChangeSpec := { name := "parseLits", fn := fun _ => fun
  | [d] => { results := [.lit (.bool true)], args := [d] }
  | _ => none }
def parseLitsRow : OpenClaim := { program := "ytdhadeeajgoedaagreat", sum := "d55e4b1256aa69253b5d59d0ef92b075593c0ac28a32d5a7fcc9fa1567028484", func := "galley/galleylaw13.ParseLits", spec := "parseLits", inPlace := ["internal/abi.NoEscape"], unfollowed := true, recurses := true, apart := false }
def ParseLitsSaid : Prop := parseLitsRow.holds Tryz.pinned (OpenSpec.ofChange parseLitsSpec)

/-- ITS FALSE NEIGHBOUR: 'it returns false'. Refute it at one input. -/
def parseLitsWrong : ChangeSpec := { name := "parseLits", fn := fun _ => fun
  | [d] => { results := [.lit (.bool false)], args := [d] }
  | _ => none }
def ParseLitsWrongFalsely : Prop := parseLitsRow.holds Tryz.pinned (OpenSpec.ofChange parseLitsWrong)

/-- 'galleylaw13.ParseNotes': WHATEVER THE INPUT: true; the input reads as it did. -/
def parseNotesSpec : ChangeSpec := { name := "parseNotes", fn := fun _ => fun
  | [d] => { results := [.lit (.bool true)], args := [d] }
  | _ => none }
def parseNotesRow : OpenClaim := { program := "ytdhadeeajgoedaagreat", sum := "d55e4b1256aa69253b5d59d0ef92b075593c0ac28a32d5a7fcc9fa1567028484", func := "galley/galleylaw13.ParseNotes", spec := "parseNotes", inPlace := ["internal/abi.NoEscape"], unfollowed := true, recurses := true, apart := false }
def ParseNotesSaid : Prop := parseNotesRow.holds Tryz.pinned (OpenSpec.ofChange parseNotesSpec)

/-- ITS FALSE NEIGHBOUR: 'it returns false'. Refute it at one input. -/
def parseNotesWrong : ChangeSpec := { name := "parseNotes", fn := fun _ => fun
  | [d] => { results := [.lit (.bool false)], args := [d] }
  | _ => none }
def ParseNotesWrongFalsely : Prop := parseNotesRow.holds Tryz.pinned (OpenSpec.ofChange parseNotesWrong)

/-- 'galleylaw13.ParseBoxes': WHATEVER THE INPUT: true; the input reads as it did. -/
def parseBoxesSpec : ChangeSpec := { name := "parseBoxes", fn := fun _ => fun
  | [d1, d2, d3] => { results := [.lit (.bool true)], args := [d1, d2, d3] }
  | _ => none }
def parseBoxesRow : OpenClaim := { program := "ytdhadeeajgoedaagreat", sum := "d55e4b1256aa69253b5d59d0ef92b075593c0ac28a32d5a7fcc9fa1567028484", func := "galley/galleylaw13.ParseBoxes", spec := "parseBoxes", inPlace := ["internal/abi.NoEscape"], unfollowed := true, recurses := true, apart := false }
def ParseBoxesSaid : Prop := parseBoxesRow.holds Tryz.pinned (OpenSpec.ofChange parseBoxesSpec)

/-- ITS FALSE NEIGHBOUR: 'it returns false'. Refute it at one input. -/
def parseBoxesWrong : ChangeSpec := { name := "parseBoxes", fn := fun _ => fun
  | [d1, d2, d3] => { results := [.lit (.bool false)], args := [d1, d2, d3] }
  | _ => none }
def ParseBoxesWrongFalsely : Prop := parseBoxesRow.holds Tryz.pinned (OpenSpec.ofChange parseBoxesWrong)

/-- 'galleylaw13.ParseItems': WHATEVER THE INPUT: true; the input reads as it did. -/
def parseItemsSpec : ChangeSpec := { name := "parseItems", fn := fun _ => fun
  | [d1, d2, d3] => { results := [.lit (.bool true)], args := [d1, d2, d3] }
  | _ => none }
def parseItemsRow : OpenClaim := { program := "ytdhadeeajgoedaagreat", sum := "d55e4b1256aa69253b5d59d0ef92b075593c0ac28a32d5a7fcc9fa1567028484", func := "galley/galleylaw13.ParseItems", spec := "parseItems", inPlace := ["internal/abi.NoEscape"], unfollowed := true, recurses := true, apart := false }
def ParseItemsSaid : Prop := parseItemsRow.holds Tryz.pinned (OpenSpec.ofChange parseItemsSpec)

/-- ITS FALSE NEIGHBOUR: 'it returns false'. Refute it at one input. -/
def parseItemsWrong : ChangeSpec := { name := "parseItems", fn := fun _ => fun
  | [d1, d2, d3] => { results := [.lit (.bool false)], args := [d1, d2, d3] }
  | _ => none }
def ParseItemsWrongFalsely : Prop := parseItemsRow.holds Tryz.pinned (OpenSpec.ofChange parseItemsWrong)

/-- 'galleylaw13.ParseBodies': WHATEVER THE INPUT: true; the input reads as it did. -/
def parseBodiesSpec : ChangeSpec := { name := "parseBodies", fn := fun _ => fun
  | [d1, d2] => { results := [.lit (.bool true)], args := [d1, d2] }
  | _ => none }
def parseBodiesRow : OpenClaim := { program := "ytdhadeeajgoedaagreat", sum := "d55e4b1256aa69253b5d59d0ef92b075593c0ac28a32d5a7fcc9fa1567028484", func := "galley/galleylaw13.ParseBodies", spec := "parseBodies", inPlace := ["internal/abi.NoEscape"], unfollowed := true, recurses := true, apart := false }
def ParseBodiesSaid : Prop := parseBodiesRow.holds Tryz.pinned (OpenSpec.ofChange parseBodiesSpec)

/-- ITS FALSE NEIGHBOUR: 'it returns false'. Refute it at one input. -/
def parseBodiesWrong : ChangeSpec := { name := "parseBodies", fn := fun _ => fun
  | [d1, d2] => { results := [.lit (.bool false)], args := [d1, d2] }
  | _ => none }
def ParseBodiesWrongFalsely : Prop := parseBodiesRow.holds Tryz.pinned (OpenSpec.ofChange parseBodiesWrong)

/-- 'galleylaw13.ParseClauses': WHATEVER THE INPUT: true; the input reads as it did. -/
def parseClausesSpec : ChangeSpec := { name := "parseClauses", fn := fun _ => fun
  | [d1, d2, d3] => { results := [.lit (.bool true)], args := [d1, d2, d3] }
  | _ => none }
def parseClausesRow : OpenClaim := { program := "ytdhadeeajgoedaagreat", sum := "d55e4b1256aa69253b5d59d0ef92b075593c0ac28a32d5a7fcc9fa1567028484", func := "galley/galleylaw13.ParseClauses", spec := "parseClauses", inPlace := ["internal/abi.NoEscape"], unfollowed := true, recurses := true, apart := false }
def ParseClausesSaid : Prop := parseClausesRow.holds Tryz.pinned (OpenSpec.ofChange parseClausesSpec)

/-- ITS FALSE NEIGHBOUR: 'it returns false'. Refute it at one input. -/
def parseClausesWrong : ChangeSpec := { name := "parseClauses", fn := fun _ => fun
  | [d1, d2, d3] => { results := [.lit (.bool false)], args := [d1, d2, d3] }
  | _ => none }
def ParseClausesWrongFalsely : Prop := parseClausesRow.holds Tryz.pinned (OpenSpec.ofChange parseClausesWrong)

/-- 'galleylaw13.ParseEnds': WHATEVER THE INPUT: true; the input reads as it did. -/
def parseEndsSpec : ChangeSpec := { name := "parseEnds", fn := fun _ => fun
  | [d1, d2] => { results := [.lit (.bool true)], args := [d1, d2] }
  | _ => none }
def parseEndsRow : OpenClaim := { program := "ytdhadeeajgoedaagreat", sum := "d55e4b1256aa69253b5d59d0ef92b075593c0ac28a32d5a7fcc9fa1567028484", func := "galley/galleylaw13.ParseEnds", spec := "parseEnds", inPlace := ["internal/abi.NoEscape"], unfollowed := true, recurses := true, apart := false }
def ParseEndsSaid : Prop := parseEndsRow.holds Tryz.pinned (OpenSpec.ofChange parseEndsSpec)

/-- ITS FALSE NEIGHBOUR: 'it returns false'. Refute it at one input. -/
def parseEndsWrong : ChangeSpec := { name := "parseEnds", fn := fun _ => fun
  | [d1, d2] => { results := [.lit (.bool false)], args := [d1, d2] }
  | _ => none }
def ParseEndsWrongFalsely : Prop := parseEndsRow.holds Tryz.pinned (OpenSpec.ofChange parseEndsWrong)

/- THE SECOND FORM. 'bulk': how many values and letters a reading holds, each counted each time it is reached (what is shared counts as often as it is met; a slice's spare places count too). A statement '..UptoSaid' is the law's where the arguments, and the package variables that the reading takes, are together of bulk at most 1048576: NARROWER than '..Said'. Prove '..Said' where nothing that the law and all that it calls make is longer than what came in: it says more and counts as full. Else prove '..UptoSaid'. A law counts once. -/
mutual
def uptoBulk {H : Type} : DataW H → Nat
  | .lit (.string bytes) => bytes.length + 1
  | .lit _ => 1
  | .nil => 1
  | .ptr d => uptoBulk d + 1
  | .slice elems spare => uptoBulkAll elems + uptoBulkAll spare + 1
  | .agg parts => uptoBulkAll parts + 1
  | .iface _ d => uptoBulk d + 1
  | .map entries => uptoBulkEntries entries + 1
  | .held _ => 1
def uptoBulkAll {H : Type} : List (DataW H) → Nat
  | [] => 0
  | d :: r => uptoBulk d + uptoBulkAll r
def uptoBulkEntries {H : Type} : List (Lit × DataW H) → Nat
  | [] => 0
  | x :: r => uptoBulkEntry x + uptoBulkEntries r
def uptoBulkEntry {H : Type} : Lit × DataW H → Nat
  | (.string bytes, d) => bytes.length + uptoBulk d + 1
  | (_, d) => uptoBulk d + 1
 end
def uptoSmall : (H : Type) → List (DataW H) → Bool := fun _ ds => decide (uptoBulkAll ds ≤ 1048576)
def OpenSpec.upto (s : _root_.Go.ChangeSpec) : _root_.Go.OpenSpec := { _root_.Go.OpenSpec.ofChange s with cond := some uptoSmall }

/-- 'galleylaw13.ParseLevels', WHERE WHAT IT READS IS OF BULK AT MOST 1048576: true; the input reads as it did. -/
def parseLevelsUptoRow : OpenClaim := { program := "ytdhadeeajgoedaagreat", sum := "d55e4b1256aa69253b5d59d0ef92b075593c0ac28a32d5a7fcc9fa1567028484", func := "galley/galleylaw13.ParseLevels", spec := "parseLevels", inPlace := ["internal/abi.NoEscape"], unfollowed := true, recurses := true, apart := false, narrowed := true }
def ParseLevelsUptoSaid : Prop := parseLevelsUptoRow.holds Tryz.pinned (OpenSpec.upto parseLevelsSpec)

/-- 'galleylaw13.ParseAsks', WHERE WHAT IT READS IS OF BULK AT MOST 1048576: true; the input reads as it did. -/
def parseAsksUptoRow : OpenClaim := { program := "ytdhadeeajgoedaagreat", sum := "d55e4b1256aa69253b5d59d0ef92b075593c0ac28a32d5a7fcc9fa1567028484", func := "galley/galleylaw13.ParseAsks", spec := "parseAsks", inPlace := ["internal/abi.NoEscape"], unfollowed := true, recurses := true, apart := false, narrowed := true }
def ParseAsksUptoSaid : Prop := parseAsksUptoRow.holds Tryz.pinned (OpenSpec.upto parseAsksSpec)

/-- 'galleylaw13.ParseGroups', WHERE WHAT IT READS IS OF BULK AT MOST 1048576: true; the input reads as it did. -/
def parseGroupsUptoRow : OpenClaim := { program := "ytdhadeeajgoedaagreat", sum := "d55e4b1256aa69253b5d59d0ef92b075593c0ac28a32d5a7fcc9fa1567028484", func := "galley/galleylaw13.ParseGroups", spec := "parseGroups", inPlace := ["internal/abi.NoEscape"], unfollowed := true, recurses := true, apart := false, narrowed := true }
def ParseGroupsUptoSaid : Prop := parseGroupsUptoRow.holds Tryz.pinned (OpenSpec.upto parseGroupsSpec)

/-- 'galleylaw13.ParseParens', WHERE WHAT IT READS IS OF BULK AT MOST 1048576: true; the input reads as it did. -/
def parseParensUptoRow : OpenClaim := { program := "ytdhadeeajgoedaagreat", sum := "d55e4b1256aa69253b5d59d0ef92b075593c0ac28a32d5a7fcc9fa1567028484", func := "galley/galleylaw13.ParseParens", spec := "parseParens", inPlace := ["internal/abi.NoEscape"], unfollowed := true, recurses := true, apart := false, narrowed := true }
def ParseParensUptoSaid : Prop := parseParensUptoRow.holds Tryz.pinned (OpenSpec.upto parseParensSpec)

/-- 'galleylaw13.ParseWrong', WHERE WHAT IT READS IS OF BULK AT MOST 1048576: true; the input reads as it did. -/
def parseWrongUptoRow : OpenClaim := { program := "ytdhadeeajgoedaagreat", sum := "d55e4b1256aa69253b5d59d0ef92b075593c0ac28a32d5a7fcc9fa1567028484", func := "galley/galleylaw13.ParseWrong", spec := "parseWrong", inPlace := ["internal/abi.NoEscape"], unfollowed := true, recurses := true, apart := false, narrowed := true }
def ParseWrongUptoSaid : Prop := parseWrongUptoRow.holds Tryz.pinned (OpenSpec.upto parseWrongSpec)

/-- 'galleylaw13.ParseLits', WHERE WHAT IT READS IS OF BULK AT MOST 1048576: true; the input reads as it did. -/
def parseLitsUptoRow : OpenClaim := { program := "ytdhadeeajgoedaagreat", sum := "d55e4b1256aa69253b5d59d0ef92b075593c0ac28a32d5a7fcc9fa1567028484", func := "galley/galleylaw13.ParseLits", spec := "parseLits", inPlace := ["internal/abi.NoEscape"], unfollowed := true, recurses := true, apart := false, narrowed := true }
def ParseLitsUptoSaid : Prop := parseLitsUptoRow.holds Tryz.pinned (OpenSpec.upto parseLitsSpec)

/-- 'galleylaw13.ParseNotes', WHERE WHAT IT READS IS OF BULK AT MOST 1048576: true; the input reads as it did. -/
def parseNotesUptoRow : OpenClaim := { program := "ytdhadeeajgoedaagreat", sum := "d55e4b1256aa69253b5d59d0ef92b075593c0ac28a32d5a7fcc9fa1567028484", func := "galley/galleylaw13.ParseNotes", spec := "parseNotes", inPlace := ["internal/abi.NoEscape"], unfollowed := true, recurses := true, apart := false, narrowed := true }
def ParseNotesUptoSaid : Prop := parseNotesUptoRow.holds Tryz.pinned (OpenSpec.upto parseNotesSpec)

/-- 'galleylaw13.ParseBoxes', WHERE WHAT IT READS IS OF BULK AT MOST 1048576: true; the input reads as it did. -/
def parseBoxesUptoRow : OpenClaim := { program := "ytdhadeeajgoedaagreat", sum := "d55e4b1256aa69253b5d59d0ef92b075593c0ac28a32d5a7fcc9fa1567028484", func := "galley/galleylaw13.ParseBoxes", spec := "parseBoxes", inPlace := ["internal/abi.NoEscape"], unfollowed := true, recurses := true, apart := false, narrowed := true }
def ParseBoxesUptoSaid : Prop := parseBoxesUptoRow.holds Tryz.pinned (OpenSpec.upto parseBoxesSpec)

/-- 'galleylaw13.ParseItems', WHERE WHAT IT READS IS OF BULK AT MOST 1048576: true; the input reads as it did. -/
def parseItemsUptoRow : OpenClaim := { program := "ytdhadeeajgoedaagreat", sum := "d55e4b1256aa69253b5d59d0ef92b075593c0ac28a32d5a7fcc9fa1567028484", func := "galley/galleylaw13.ParseItems", spec := "parseItems", inPlace := ["internal/abi.NoEscape"], unfollowed := true, recurses := true, apart := false, narrowed := true }
def ParseItemsUptoSaid : Prop := parseItemsUptoRow.holds Tryz.pinned (OpenSpec.upto parseItemsSpec)

/-- 'galleylaw13.ParseBodies', WHERE WHAT IT READS IS OF BULK AT MOST 1048576: true; the input reads as it did. -/
def parseBodiesUptoRow : OpenClaim := { program := "ytdhadeeajgoedaagreat", sum := "d55e4b1256aa69253b5d59d0ef92b075593c0ac28a32d5a7fcc9fa1567028484", func := "galley/galleylaw13.ParseBodies", spec := "parseBodies", inPlace := ["internal/abi.NoEscape"], unfollowed := true, recurses := true, apart := false, narrowed := true }
def ParseBodiesUptoSaid : Prop := parseBodiesUptoRow.holds Tryz.pinned (OpenSpec.upto parseBodiesSpec)

/-- 'galleylaw13.ParseClauses', WHERE WHAT IT READS IS OF BULK AT MOST 1048576: true; the input reads as it did. -/
def parseClausesUptoRow : OpenClaim := { program := "ytdhadeeajgoedaagreat", sum := "d55e4b1256aa69253b5d59d0ef92b075593c0ac28a32d5a7fcc9fa1567028484", func := "galley/galleylaw13.ParseClauses", spec := "parseClauses", inPlace := ["internal/abi.NoEscape"], unfollowed := true, recurses := true, apart := false, narrowed := true }
def ParseClausesUptoSaid : Prop := parseClausesUptoRow.holds Tryz.pinned (OpenSpec.upto parseClausesSpec)

/-- 'galleylaw13.ParseEnds', WHERE WHAT IT READS IS OF BULK AT MOST 1048576: true; the input reads as it did. -/
def parseEndsUptoRow : OpenClaim := { program := "ytdhadeeajgoedaagreat", sum := "d55e4b1256aa69253b5d59d0ef92b075593c0ac28a32d5a7fcc9fa1567028484", func := "galley/galleylaw13.ParseEnds", spec := "parseEnds", inPlace := ["internal/abi.NoEscape"], unfollowed := true, recurses := true, apart := false, narrowed := true }
def ParseEndsUptoSaid : Prop := parseEndsUptoRow.holds Tryz.pinned (OpenSpec.upto parseEndsSpec)

end Rows
end Go.Proofs.YtdhadeeajgoedaaGreat
