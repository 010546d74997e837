/-
  DERIVED. GIVEN WITH THE SEED: THE CARDS: each row of YtnejkdaiopjchaaDoorRows.lean that lists a variable, with what it lists TIED to the program's text (the seventh form; the later family's looks); each row that meets fmt, with fmt's text TOLD by the authors' own Lean function (tested against real Go, not proved from fmt's source: count such statements apart). THE CARD IS WHAT COUNTS. Prove the row's statement (the work); the ties are given (YtnejkdaiopjchaaDoorTie.lean); close each card by the builder's one call (the guide's Derived/Test/ToyasCard.lean, 'card_holds'). Laid BY PROGRAM, IN A SANDBOX (cutbox-door.mjs). By AI agents, Wed Nov 11 2026. No macro, syntax, notation, axiom, sorry.
-/
import Derived.Test.YtnejkdaiopjchaaDoorRows
import GoSem.ClaimSeven
namespace Go.Proofs.YtnejkdaiopjchaaDoor
namespace Rows

/-- THE TIED CARD OF 'galleylaw4.LitAsks'. -/
def litAsksCard : Claim7 := { stood := { row := litAsksRow, standIns := [], harness := (true, "c6501f94364ce3f3c6440acac6ae235f96993cb44fcedc53a109f7c92554daa5"), looks := false }, kinds := [], alts := [], laidByText := true, laidKinds := [.data, .data, .data, .data], laidTests := true, laidLooks := .later }
def LitAsksCardSaid : Prop := Claim7.holds Tryd.pinned (.plain (OpenSpec.ofChange litAsksSpec)) litAsksCard

/-- THE TIED CARD OF 'galleylaw4.LitWhole'. -/
def litWholeCard : Claim7 := { stood := { row := litWholeRow, standIns := [], harness := (true, "c6501f94364ce3f3c6440acac6ae235f96993cb44fcedc53a109f7c92554daa5"), looks := false }, kinds := [], alts := [], laidByText := true, laidKinds := [.data, .data, .data, .data], laidTests := true, laidLooks := .later }
def LitWholeCardSaid : Prop := Claim7.holds Tryd.pinned (.plain (OpenSpec.ofChange litWholeSpec)) litWholeCard

/-- THE TIED CARD OF 'galleylaw4.LitEscapes'. -/
def litEscapesCard : Claim7 := { stood := { row := litEscapesRow, standIns := [], harness := (true, "c6501f94364ce3f3c6440acac6ae235f96993cb44fcedc53a109f7c92554daa5"), looks := false }, kinds := [], alts := [], laidByText := true, laidKinds := [.data, .data, .data, .data], laidTests := true, laidLooks := .later }
def LitEscapesCardSaid : Prop := Claim7.holds Tryd.pinned (.plain (OpenSpec.ofChange litEscapesSpec)) litEscapesCard

/-- THE TIED CARD OF 'galleylaw4.LitChars'. -/
def litCharsCard : Claim7 := { stood := { row := litCharsRow, standIns := [], harness := (true, "c6501f94364ce3f3c6440acac6ae235f96993cb44fcedc53a109f7c92554daa5"), looks := false }, kinds := [], alts := [], laidByText := true, laidKinds := [.data, .data, .data, .data], laidTests := true, laidLooks := .later }
def LitCharsCardSaid : Prop := Claim7.holds Tryd.pinned (.plain (OpenSpec.ofChange litCharsSpec)) litCharsCard

/-- THE TIED CARD OF 'galleylaw4.LitFloats'. -/
def litFloatsCard : Claim7 := { stood := { row := litFloatsRow, standIns := [], harness := (true, "c6501f94364ce3f3c6440acac6ae235f96993cb44fcedc53a109f7c92554daa5"), looks := false }, kinds := [], alts := [], laidByText := true, laidKinds := [.data, .data, .data, .data], laidTests := true, laidLooks := .later }
def LitFloatsCardSaid : Prop := Claim7.holds Tryd.pinned (.plain (OpenSpec.ofChange litFloatsSpec)) litFloatsCard

/-- THE SECOND FORM's CARD OF 'galleylaw4.LitAsks'. -/
def litAsksUptoCard : Claim7 := { stood := { row := litAsksUptoRow, standIns := [], harness := (true, "c6501f94364ce3f3c6440acac6ae235f96993cb44fcedc53a109f7c92554daa5"), looks := false }, kinds := [], alts := [], laidByText := true, laidKinds := [.data, .data, .data, .data], laidTests := true, laidLooks := .later }
def LitAsksUptoCardSaid : Prop := Claim7.holds Tryd.pinned (.plain (OpenSpec.upto litAsksSpec)) litAsksUptoCard

/-- THE SECOND FORM's CARD OF 'galleylaw4.LitWhole'. -/
def litWholeUptoCard : Claim7 := { stood := { row := litWholeUptoRow, standIns := [], harness := (true, "c6501f94364ce3f3c6440acac6ae235f96993cb44fcedc53a109f7c92554daa5"), looks := false }, kinds := [], alts := [], laidByText := true, laidKinds := [.data, .data, .data, .data], laidTests := true, laidLooks := .later }
def LitWholeUptoCardSaid : Prop := Claim7.holds Tryd.pinned (.plain (OpenSpec.upto litWholeSpec)) litWholeUptoCard

/-- THE SECOND FORM's CARD OF 'galleylaw4.LitEscapes'. -/
def litEscapesUptoCard : Claim7 := { stood := { row := litEscapesUptoRow, standIns := [], harness := (true, "c6501f94364ce3f3c6440acac6ae235f96993cb44fcedc53a109f7c92554daa5"), looks := false }, kinds := [], alts := [], laidByText := true, laidKinds := [.data, .data, .data, .data], laidTests := true, laidLooks := .later }
def LitEscapesUptoCardSaid : Prop := Claim7.holds Tryd.pinned (.plain (OpenSpec.upto litEscapesSpec)) litEscapesUptoCard

/-- THE SECOND FORM's CARD OF 'galleylaw4.LitChars'. -/
def litCharsUptoCard : Claim7 := { stood := { row := litCharsUptoRow, standIns := [], harness := (true, "c6501f94364ce3f3c6440acac6ae235f96993cb44fcedc53a109f7c92554daa5"), looks := false }, kinds := [], alts := [], laidByText := true, laidKinds := [.data, .data, .data, .data], laidTests := true, laidLooks := .later }
def LitCharsUptoCardSaid : Prop := Claim7.holds Tryd.pinned (.plain (OpenSpec.upto litCharsSpec)) litCharsUptoCard

/-- THE SECOND FORM's CARD OF 'galleylaw4.LitFloats'. -/
def litFloatsUptoCard : Claim7 := { stood := { row := litFloatsUptoRow, standIns := [], harness := (true, "c6501f94364ce3f3c6440acac6ae235f96993cb44fcedc53a109f7c92554daa5"), looks := false }, kinds := [], alts := [], laidByText := true, laidKinds := [.data, .data, .data, .data], laidTests := true, laidLooks := .later }
def LitFloatsUptoCardSaid : Prop := Claim7.holds Tryd.pinned (.plain (OpenSpec.upto litFloatsSpec)) litFloatsUptoCard
end Rows
end Go.Proofs.YtnejkdaiopjchaaDoor
