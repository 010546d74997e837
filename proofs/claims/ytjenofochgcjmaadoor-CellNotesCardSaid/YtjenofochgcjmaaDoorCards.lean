/-
  DERIVED. GIVEN WITH THE SEED: THE CARDS: each row of YtjenofochgcjmaaDoorRows.lean that lists a variable, with what it lists TIED to the program's text (the seventh form; the later family's looks); each row that meets fmt, with fmt's text TOLD by the authors' own Lean function (tested against real Go, not proved from fmt's source: count such statements apart). THE CARD IS WHAT COUNTS. Prove the row's statement (the work); the ties are given (YtjenofochgcjmaaDoorTie.lean); close each card by the builder's one call (the guide's Derived/Test/ToyasCard.lean, 'card_holds'). Laid BY PROGRAM, IN A SANDBOX (cutbox-door.mjs). By AI agents, Wed Nov 11 2026. No macro, syntax, notation, axiom, sorry.
-/
import Derived.Test.YtjenofochgcjmaaDoorRows
import GoSem.ClaimSeven
namespace Go.Proofs.YtjenofochgcjmaaDoor
namespace Rows

/-- THE TIED CARD OF 'galleylaw12.CellAsks'. -/
def cellAsksCard : Claim7 := { stood := { row := cellAsksRow, standIns := [], harness := (true, "70ad45f6d4bf7686b6e44e30231049f41f00459220c50e622ccc352271f4f54e"), looks := false }, kinds := [], alts := [], laidByText := true, laidKinds := [.data, .data, .data], laidTests := true, laidLooks := .later }
def CellAsksCardSaid : Prop := Claim7.holds Tryd.pinned (.plain (OpenSpec.ofChange cellAsksSpec)) cellAsksCard

/-- THE TIED CARD OF 'galleylaw12.CellJoins'. -/
def cellJoinsCard : Claim7 := { stood := { row := cellJoinsRow, standIns := [], harness := (true, "70ad45f6d4bf7686b6e44e30231049f41f00459220c50e622ccc352271f4f54e"), looks := false }, kinds := [], alts := [], laidByText := true, laidKinds := [.data, .data, .data], laidTests := true, laidLooks := .later }
def CellJoinsCardSaid : Prop := Claim7.holds Tryd.pinned (.plain (OpenSpec.ofChange cellJoinsSpec)) cellJoinsCard

/-- THE TIED CARD OF 'galleylaw12.CellIndents'. -/
def cellIndentsCard : Claim7 := { stood := { row := cellIndentsRow, standIns := [], harness := (true, "70ad45f6d4bf7686b6e44e30231049f41f00459220c50e622ccc352271f4f54e"), looks := false }, kinds := [], alts := [], laidByText := true, laidKinds := [.data, .data, .data], laidTests := true, laidLooks := .later }
def CellIndentsCardSaid : Prop := Claim7.holds Tryd.pinned (.plain (OpenSpec.ofChange cellIndentsSpec)) cellIndentsCard

/-- THE TIED CARD OF 'galleylaw12.CellNotes'. -/
def cellNotesCard : Claim7 := { stood := { row := cellNotesRow, standIns := [], harness := (true, "70ad45f6d4bf7686b6e44e30231049f41f00459220c50e622ccc352271f4f54e"), looks := false }, kinds := [], alts := [], laidByText := true, laidKinds := [.data, .data, .data], laidTests := true, laidLooks := .later }
def CellNotesCardSaid : Prop := Claim7.holds Tryd.pinned (.plain (OpenSpec.ofChange cellNotesSpec)) cellNotesCard

/-- THE SECOND FORM's CARD OF 'galleylaw12.CellAsks'. -/
def cellAsksUptoCard : Claim7 := { stood := { row := cellAsksUptoRow, standIns := [], harness := (true, "70ad45f6d4bf7686b6e44e30231049f41f00459220c50e622ccc352271f4f54e"), looks := false }, kinds := [], alts := [], laidByText := true, laidKinds := [.data, .data, .data], laidTests := true, laidLooks := .later }
def CellAsksUptoCardSaid : Prop := Claim7.holds Tryd.pinned (.plain (OpenSpec.upto cellAsksSpec)) cellAsksUptoCard

/-- THE SECOND FORM's CARD OF 'galleylaw12.CellJoins'. -/
def cellJoinsUptoCard : Claim7 := { stood := { row := cellJoinsUptoRow, standIns := [], harness := (true, "70ad45f6d4bf7686b6e44e30231049f41f00459220c50e622ccc352271f4f54e"), looks := false }, kinds := [], alts := [], laidByText := true, laidKinds := [.data, .data, .data], laidTests := true, laidLooks := .later }
def CellJoinsUptoCardSaid : Prop := Claim7.holds Tryd.pinned (.plain (OpenSpec.upto cellJoinsSpec)) cellJoinsUptoCard

/-- THE SECOND FORM's CARD OF 'galleylaw12.CellIndents'. -/
def cellIndentsUptoCard : Claim7 := { stood := { row := cellIndentsUptoRow, standIns := [], harness := (true, "70ad45f6d4bf7686b6e44e30231049f41f00459220c50e622ccc352271f4f54e"), looks := false }, kinds := [], alts := [], laidByText := true, laidKinds := [.data, .data, .data], laidTests := true, laidLooks := .later }
def CellIndentsUptoCardSaid : Prop := Claim7.holds Tryd.pinned (.plain (OpenSpec.upto cellIndentsSpec)) cellIndentsUptoCard

/-- THE SECOND FORM's CARD OF 'galleylaw12.CellNotes'. -/
def cellNotesUptoCard : Claim7 := { stood := { row := cellNotesUptoRow, standIns := [], harness := (true, "70ad45f6d4bf7686b6e44e30231049f41f00459220c50e622ccc352271f4f54e"), looks := false }, kinds := [], alts := [], laidByText := true, laidKinds := [.data, .data, .data], laidTests := true, laidLooks := .later }
def CellNotesUptoCardSaid : Prop := Claim7.holds Tryd.pinned (.plain (OpenSpec.upto cellNotesSpec)) cellNotesUptoCard
end Rows
end Go.Proofs.YtjenofochgcjmaaDoor
