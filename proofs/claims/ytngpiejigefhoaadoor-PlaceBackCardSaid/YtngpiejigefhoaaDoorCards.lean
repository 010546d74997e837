/-
  DERIVED. GIVEN WITH THE SEED: THE CARDS: each row of YtngpiejigefhoaaDoorRows.lean that lists a variable, with what it lists TIED to the program's text (the seventh form; the later family's looks); each row that meets fmt, with fmt's text TOLD by the authors' own Lean function (tested against real Go, not proved from fmt's source: count such statements apart). THE CARD IS WHAT COUNTS. Prove the row's statement (the work); the ties are given (YtngpiejigefhoaaDoorTie.lean); close each card by the builder's one call (the guide's Derived/Test/ToyasCard.lean, 'card_holds'). Laid BY PROGRAM, IN A SANDBOX (cutbox-door.mjs). By AI agents, Wed Nov 11 2026. No macro, syntax, notation, axiom, sorry.
-/
import Derived.Test.YtngpiejigefhoaaDoorRows
import GoSem.ClaimSeven
namespace Go.Proofs.YtngpiejigefhoaaDoor
namespace Rows

/-- THE TIED CARD OF 'galleylaw2.PlaceStarts'. -/
def placeStartsCard : Claim7 := { stood := { row := placeStartsRow, standIns := [], harness := (true, "0fa5bbf6a3dfeea4b431ab2f7c517fd407460baca1182921d7dca531558e4a1f"), looks := false }, kinds := [], alts := [], laidByText := true, laidKinds := [.data, .data, .data], laidTests := true, laidLooks := .later }
def PlaceStartsCardSaid : Prop := Claim7.holds Tryd.pinned (.plain (OpenSpec.ofChange placeStartsSpec)) placeStartsCard

/-- THE TIED CARD OF 'galleylaw2.PlaceAsks'. -/
def placeAsksCard : Claim7 := { stood := { row := placeAsksRow, standIns := [], harness := (true, "0fa5bbf6a3dfeea4b431ab2f7c517fd407460baca1182921d7dca531558e4a1f"), looks := false }, kinds := [], alts := [], laidByText := true, laidKinds := [.data, .data, .data], laidTests := true, laidLooks := .later }
def PlaceAsksCardSaid : Prop := Claim7.holds Tryd.pinned (.plain (OpenSpec.ofChange placeAsksSpec)) placeAsksCard

/-- THE TIED CARD OF 'galleylaw2.PlaceBack'. -/
def placeBackCard : Claim7 := { stood := { row := placeBackRow, standIns := [], harness := (true, "0fa5bbf6a3dfeea4b431ab2f7c517fd407460baca1182921d7dca531558e4a1f"), looks := false }, kinds := [], alts := [], laidByText := true, laidKinds := [.data, .data, .data], laidTests := true, laidLooks := .later }
def PlaceBackCardSaid : Prop := Claim7.holds Tryd.pinned (.plain (OpenSpec.ofChange placeBackSpec)) placeBackCard

/-- THE TIED CARD OF 'galleylaw2.PlaceJoins'. -/
def placeJoinsCard : Claim7 := { stood := { row := placeJoinsRow, standIns := [], harness := (true, "0fa5bbf6a3dfeea4b431ab2f7c517fd407460baca1182921d7dca531558e4a1f"), looks := false }, kinds := [], alts := [], laidByText := true, laidKinds := [.data, .data, .data], laidTests := true, laidLooks := .later }
def PlaceJoinsCardSaid : Prop := Claim7.holds Tryd.pinned (.plain (OpenSpec.ofChange placeJoinsSpec)) placeJoinsCard

/-- THE SECOND FORM's CARD OF 'galleylaw2.PlaceStarts'. -/
def placeStartsUptoCard : Claim7 := { stood := { row := placeStartsUptoRow, standIns := [], harness := (true, "0fa5bbf6a3dfeea4b431ab2f7c517fd407460baca1182921d7dca531558e4a1f"), looks := false }, kinds := [], alts := [], laidByText := true, laidKinds := [.data, .data, .data], laidTests := true, laidLooks := .later }
def PlaceStartsUptoCardSaid : Prop := Claim7.holds Tryd.pinned (.plain (OpenSpec.upto placeStartsSpec)) placeStartsUptoCard

/-- THE SECOND FORM's CARD OF 'galleylaw2.PlaceAsks'. -/
def placeAsksUptoCard : Claim7 := { stood := { row := placeAsksUptoRow, standIns := [], harness := (true, "0fa5bbf6a3dfeea4b431ab2f7c517fd407460baca1182921d7dca531558e4a1f"), looks := false }, kinds := [], alts := [], laidByText := true, laidKinds := [.data, .data, .data], laidTests := true, laidLooks := .later }
def PlaceAsksUptoCardSaid : Prop := Claim7.holds Tryd.pinned (.plain (OpenSpec.upto placeAsksSpec)) placeAsksUptoCard

/-- THE SECOND FORM's CARD OF 'galleylaw2.PlaceBack'. -/
def placeBackUptoCard : Claim7 := { stood := { row := placeBackUptoRow, standIns := [], harness := (true, "0fa5bbf6a3dfeea4b431ab2f7c517fd407460baca1182921d7dca531558e4a1f"), looks := false }, kinds := [], alts := [], laidByText := true, laidKinds := [.data, .data, .data], laidTests := true, laidLooks := .later }
def PlaceBackUptoCardSaid : Prop := Claim7.holds Tryd.pinned (.plain (OpenSpec.upto placeBackSpec)) placeBackUptoCard

/-- THE SECOND FORM's CARD OF 'galleylaw2.PlaceJoins'. -/
def placeJoinsUptoCard : Claim7 := { stood := { row := placeJoinsUptoRow, standIns := [], harness := (true, "0fa5bbf6a3dfeea4b431ab2f7c517fd407460baca1182921d7dca531558e4a1f"), looks := false }, kinds := [], alts := [], laidByText := true, laidKinds := [.data, .data, .data], laidTests := true, laidLooks := .later }
def PlaceJoinsUptoCardSaid : Prop := Claim7.holds Tryd.pinned (.plain (OpenSpec.upto placeJoinsSpec)) placeJoinsUptoCard
end Rows
end Go.Proofs.YtngpiejigefhoaaDoor
