/-
  DERIVED. GIVEN WITH THE SEED: THE CARDS: each row of YtajjhhodpohfpaaDoorRows.lean that lists a variable, with what it lists TIED to the program's text (the seventh form; the later family's looks); each row that meets fmt, with fmt's text TOLD by the authors' own Lean function (tested against real Go, not proved from fmt's source: count such statements apart). THE CARD IS WHAT COUNTS. Prove the row's statement (the work); the ties are given (YtajjhhodpohfpaaDoorTie.lean); close each card by the builder's one call (the guide's Derived/Test/ToyasCard.lean, 'card_holds'). Laid BY PROGRAM, IN A SANDBOX (cutbox-door.mjs). By AI agents, Wed Nov 11 2026. No macro, syntax, notation, axiom, sorry.
-/
import Derived.Test.YtajjhhodpohfpaaDoorRows
import GoSem.ClaimSeven
namespace Go.Proofs.YtajjhhodpohfpaaDoor
namespace Rows

/-- THE TIED CARD OF 'galleylaw6.ScanAsks'. -/
def scanAsksCard : Claim7 := { stood := { row := scanAsksRow, standIns := [], harness := (true, "f8ff4ef25c78329c8b423f05e83b188a8dd2b5c89ed35d17034b7d7d025baaee"), looks := false }, kinds := [], alts := [], laidByText := true, laidKinds := [.data, .data, .data, .data, .data, .data, .pinned], laidTests := true, laidLooks := .later }
def ScanAsksCardSaid : Prop := Claim7.holds Tryd.pinned (.plain (OpenSpec.ofChange scanAsksSpec)) scanAsksCard

/-- THE TIED CARD OF 'galleylaw6.ScanWhole'. -/
def scanWholeCard : Claim7 := { stood := { row := scanWholeRow, standIns := [], harness := (true, "f8ff4ef25c78329c8b423f05e83b188a8dd2b5c89ed35d17034b7d7d025baaee"), looks := false }, kinds := [], alts := [], laidByText := true, laidKinds := [.data, .data, .data, .data, .data, .data, .pinned], laidTests := true, laidLooks := .later }
def ScanWholeCardSaid : Prop := Claim7.holds Tryd.pinned (.plain (OpenSpec.ofChange scanWholeSpec)) scanWholeCard

/-- THE TIED CARD OF 'galleylaw6.ScanBlanks'. -/
def scanBlanksCard : Claim7 := { stood := { row := scanBlanksRow, standIns := [], harness := (true, "f8ff4ef25c78329c8b423f05e83b188a8dd2b5c89ed35d17034b7d7d025baaee"), looks := false }, kinds := [], alts := [], laidByText := true, laidKinds := [.data, .data, .data, .data, .data, .data, .pinned], laidTests := true, laidLooks := .later }
def ScanBlanksCardSaid : Prop := Claim7.holds Tryd.pinned (.plain (OpenSpec.ofChange scanBlanksSpec)) scanBlanksCard

/-- THE TIED CARD OF 'galleylaw6.ScanKinds'. -/
def scanKindsCard : Claim7 := { stood := { row := scanKindsRow, standIns := [], harness := (true, "f8ff4ef25c78329c8b423f05e83b188a8dd2b5c89ed35d17034b7d7d025baaee"), looks := false }, kinds := [], alts := [], laidByText := true, laidKinds := [.data, .data, .data, .data, .data, .data, .pinned], laidTests := true, laidLooks := .later }
def ScanKindsCardSaid : Prop := Claim7.holds Tryd.pinned (.plain (OpenSpec.ofChange scanKindsSpec)) scanKindsCard

/-- THE TIED CARD OF 'galleylaw6.ScanWrong'. -/
def scanWrongCard : Claim7 := { stood := { row := scanWrongRow, standIns := [], harness := (true, "f8ff4ef25c78329c8b423f05e83b188a8dd2b5c89ed35d17034b7d7d025baaee"), looks := false }, kinds := [], alts := [], laidByText := true, laidKinds := [.data, .data, .data, .data, .data, .data, .pinned], laidTests := true, laidLooks := .later }
def ScanWrongCardSaid : Prop := Claim7.holds Tryd.pinned (.plain (OpenSpec.ofChange scanWrongSpec)) scanWrongCard

/-- THE TIED CARD OF 'galleylaw6.ScanJoins'. -/
def scanJoinsCard : Claim7 := { stood := { row := scanJoinsRow, standIns := [], harness := (true, "f8ff4ef25c78329c8b423f05e83b188a8dd2b5c89ed35d17034b7d7d025baaee"), looks := false }, kinds := [], alts := [], laidByText := true, laidKinds := [.data, .data, .data, .data, .data, .data, .pinned], laidTests := true, laidLooks := .later }
def ScanJoinsCardSaid : Prop := Claim7.holds Tryd.pinned (.plain (OpenSpec.ofChange scanJoinsSpec)) scanJoinsCard

/-- THE TIED CARD OF 'galleylaw6.ScanEscapes'. -/
def scanEscapesCard : Claim7 := { stood := { row := scanEscapesRow, standIns := [], harness := (true, "f8ff4ef25c78329c8b423f05e83b188a8dd2b5c89ed35d17034b7d7d025baaee"), looks := false }, kinds := [], alts := [], laidByText := true, laidKinds := [.data, .data, .data, .data, .data, .data, .pinned], laidTests := true, laidLooks := .later }
def ScanEscapesCardSaid : Prop := Claim7.holds Tryd.pinned (.plain (OpenSpec.ofChange scanEscapesSpec)) scanEscapesCard

/-- THE SECOND FORM's CARD OF 'galleylaw6.ScanAsks'. -/
def scanAsksUptoCard : Claim7 := { stood := { row := scanAsksUptoRow, standIns := [], harness := (true, "f8ff4ef25c78329c8b423f05e83b188a8dd2b5c89ed35d17034b7d7d025baaee"), looks := false }, kinds := [], alts := [], laidByText := true, laidKinds := [.data, .data, .data, .data, .data, .data, .pinned], laidTests := true, laidLooks := .later }
def ScanAsksUptoCardSaid : Prop := Claim7.holds Tryd.pinned (.plain (OpenSpec.upto scanAsksSpec)) scanAsksUptoCard

/-- THE SECOND FORM's CARD OF 'galleylaw6.ScanWhole'. -/
def scanWholeUptoCard : Claim7 := { stood := { row := scanWholeUptoRow, standIns := [], harness := (true, "f8ff4ef25c78329c8b423f05e83b188a8dd2b5c89ed35d17034b7d7d025baaee"), looks := false }, kinds := [], alts := [], laidByText := true, laidKinds := [.data, .data, .data, .data, .data, .data, .pinned], laidTests := true, laidLooks := .later }
def ScanWholeUptoCardSaid : Prop := Claim7.holds Tryd.pinned (.plain (OpenSpec.upto scanWholeSpec)) scanWholeUptoCard

/-- THE SECOND FORM's CARD OF 'galleylaw6.ScanBlanks'. -/
def scanBlanksUptoCard : Claim7 := { stood := { row := scanBlanksUptoRow, standIns := [], harness := (true, "f8ff4ef25c78329c8b423f05e83b188a8dd2b5c89ed35d17034b7d7d025baaee"), looks := false }, kinds := [], alts := [], laidByText := true, laidKinds := [.data, .data, .data, .data, .data, .data, .pinned], laidTests := true, laidLooks := .later }
def ScanBlanksUptoCardSaid : Prop := Claim7.holds Tryd.pinned (.plain (OpenSpec.upto scanBlanksSpec)) scanBlanksUptoCard

/-- THE SECOND FORM's CARD OF 'galleylaw6.ScanKinds'. -/
def scanKindsUptoCard : Claim7 := { stood := { row := scanKindsUptoRow, standIns := [], harness := (true, "f8ff4ef25c78329c8b423f05e83b188a8dd2b5c89ed35d17034b7d7d025baaee"), looks := false }, kinds := [], alts := [], laidByText := true, laidKinds := [.data, .data, .data, .data, .data, .data, .pinned], laidTests := true, laidLooks := .later }
def ScanKindsUptoCardSaid : Prop := Claim7.holds Tryd.pinned (.plain (OpenSpec.upto scanKindsSpec)) scanKindsUptoCard

/-- THE SECOND FORM's CARD OF 'galleylaw6.ScanWrong'. -/
def scanWrongUptoCard : Claim7 := { stood := { row := scanWrongUptoRow, standIns := [], harness := (true, "f8ff4ef25c78329c8b423f05e83b188a8dd2b5c89ed35d17034b7d7d025baaee"), looks := false }, kinds := [], alts := [], laidByText := true, laidKinds := [.data, .data, .data, .data, .data, .data, .pinned], laidTests := true, laidLooks := .later }
def ScanWrongUptoCardSaid : Prop := Claim7.holds Tryd.pinned (.plain (OpenSpec.upto scanWrongSpec)) scanWrongUptoCard

/-- THE SECOND FORM's CARD OF 'galleylaw6.ScanJoins'. -/
def scanJoinsUptoCard : Claim7 := { stood := { row := scanJoinsUptoRow, standIns := [], harness := (true, "f8ff4ef25c78329c8b423f05e83b188a8dd2b5c89ed35d17034b7d7d025baaee"), looks := false }, kinds := [], alts := [], laidByText := true, laidKinds := [.data, .data, .data, .data, .data, .data, .pinned], laidTests := true, laidLooks := .later }
def ScanJoinsUptoCardSaid : Prop := Claim7.holds Tryd.pinned (.plain (OpenSpec.upto scanJoinsSpec)) scanJoinsUptoCard

/-- THE SECOND FORM's CARD OF 'galleylaw6.ScanEscapes'. -/
def scanEscapesUptoCard : Claim7 := { stood := { row := scanEscapesUptoRow, standIns := [], harness := (true, "f8ff4ef25c78329c8b423f05e83b188a8dd2b5c89ed35d17034b7d7d025baaee"), looks := false }, kinds := [], alts := [], laidByText := true, laidKinds := [.data, .data, .data, .data, .data, .data, .pinned], laidTests := true, laidLooks := .later }
def ScanEscapesUptoCardSaid : Prop := Claim7.holds Tryd.pinned (.plain (OpenSpec.upto scanEscapesSpec)) scanEscapesUptoCard
end Rows
end Go.Proofs.YtajjhhodpohfpaaDoor
