/-
  DERIVED. GIVEN WITH THE SEED: THE CARDS: each row of YtbjgoigdhijbgaaDoorRows.lean that lists a variable, with what it lists TIED to the program's text (the seventh form; the later family's looks); each row that meets fmt, with fmt's text TOLD by the authors' own Lean function (tested against real Go, not proved from fmt's source: count such statements apart). THE CARD IS WHAT COUNTS. Prove the row's statement (the work); the ties are given (YtbjgoigdhijbgaaDoorTie.lean); close each card by the builder's one call (the guide's Derived/Test/ToyasCard.lean, 'card_holds'). Laid BY PROGRAM, IN A SANDBOX (cutbox-door.mjs). By AI agents, Wed Nov 11 2026. No macro, syntax, notation, axiom, sorry.
-/
import Derived.Test.YtbjgoigdhijbgaaDoorRows
import GoSem.ClaimSeven
namespace Go.Proofs.YtbjgoigdhijbgaaDoor
namespace Rows

/-- THE TIED CARD OF 'galleylaw17.RenderAsks'. -/
def renderAsksCard : Claim7 := { stood := { row := renderAsksRow, standIns := [], harness := (true, "b596910548bab20bf52c76e4a434fa312c3def483845e89d933bbe4f97d01592"), looks := false }, kinds := [], alts := [], laidByText := true, laidKinds := [.data, .data, .data], laidTests := true, laidLooks := .later }
def RenderAsksCardSaid : Prop := Claim7.holds Tryd.pinned (.plain (OpenSpec.ofChange renderAsksSpec)) renderAsksCard

/-- THE TIED CARD OF 'galleylaw17.RenderTexts'. -/
def renderTextsCard : Claim7 := { stood := { row := renderTextsRow, standIns := [], harness := (true, "b596910548bab20bf52c76e4a434fa312c3def483845e89d933bbe4f97d01592"), looks := false }, kinds := [], alts := [], laidByText := true, laidKinds := [.data, .data, .data], laidTests := true, laidLooks := .later }
def RenderTextsCardSaid : Prop := Claim7.holds Tryd.pinned (.plain (OpenSpec.ofChange renderTextsSpec)) renderTextsCard

/-- THE TIED CARD OF 'galleylaw17.RenderWide'. -/
def renderWideCard : Claim7 := { stood := { row := renderWideRow, standIns := [], harness := (true, "b596910548bab20bf52c76e4a434fa312c3def483845e89d933bbe4f97d01592"), looks := false }, kinds := [], alts := [], laidByText := true, laidKinds := [.data, .data, .data], laidTests := true, laidLooks := .later }
def RenderWideCardSaid : Prop := Claim7.holds Tryd.pinned (.plain (OpenSpec.ofChange renderWideSpec)) renderWideCard

/-- THE TIED CARD OF 'galleylaw17.RenderLines'. -/
def renderLinesCard : Claim7 := { stood := { row := renderLinesRow, standIns := [], harness := (true, "b596910548bab20bf52c76e4a434fa312c3def483845e89d933bbe4f97d01592"), looks := false }, kinds := [], alts := [], laidByText := true, laidKinds := [.data, .data, .data], laidTests := true, laidLooks := .later }
def RenderLinesCardSaid : Prop := Claim7.holds Tryd.pinned (.plain (OpenSpec.ofChange renderLinesSpec)) renderLinesCard

/-- THE TIED CARD OF 'galleylaw17.RenderSame'. -/
def renderSameCard : Claim7 := { stood := { row := renderSameRow, standIns := [], harness := (true, "b596910548bab20bf52c76e4a434fa312c3def483845e89d933bbe4f97d01592"), looks := false }, kinds := [], alts := [], laidByText := true, laidKinds := [.data, .data, .data], laidTests := true, laidLooks := .later }
def RenderSameCardSaid : Prop := Claim7.holds Tryd.pinned (.plain (OpenSpec.ofChange renderSameSpec)) renderSameCard

/-- THE TIED CARD OF 'galleylaw17.RenderFits'. -/
def renderFitsCard : Claim7 := { stood := { row := renderFitsRow, standIns := [], harness := (true, "b596910548bab20bf52c76e4a434fa312c3def483845e89d933bbe4f97d01592"), looks := false }, kinds := [], alts := [], laidByText := true, laidKinds := [.data, .data, .data], laidTests := true, laidLooks := .later }
def RenderFitsCardSaid : Prop := Claim7.holds Tryd.pinned (.plain (OpenSpec.ofChange renderFitsSpec)) renderFitsCard

/-- THE SECOND FORM's CARD OF 'galleylaw17.RenderAsks'. -/
def renderAsksUptoCard : Claim7 := { stood := { row := renderAsksUptoRow, standIns := [], harness := (true, "b596910548bab20bf52c76e4a434fa312c3def483845e89d933bbe4f97d01592"), looks := false }, kinds := [], alts := [], laidByText := true, laidKinds := [.data, .data, .data], laidTests := true, laidLooks := .later }
def RenderAsksUptoCardSaid : Prop := Claim7.holds Tryd.pinned (.plain (OpenSpec.upto renderAsksSpec)) renderAsksUptoCard

/-- THE SECOND FORM's CARD OF 'galleylaw17.RenderTexts'. -/
def renderTextsUptoCard : Claim7 := { stood := { row := renderTextsUptoRow, standIns := [], harness := (true, "b596910548bab20bf52c76e4a434fa312c3def483845e89d933bbe4f97d01592"), looks := false }, kinds := [], alts := [], laidByText := true, laidKinds := [.data, .data, .data], laidTests := true, laidLooks := .later }
def RenderTextsUptoCardSaid : Prop := Claim7.holds Tryd.pinned (.plain (OpenSpec.upto renderTextsSpec)) renderTextsUptoCard

/-- THE SECOND FORM's CARD OF 'galleylaw17.RenderWide'. -/
def renderWideUptoCard : Claim7 := { stood := { row := renderWideUptoRow, standIns := [], harness := (true, "b596910548bab20bf52c76e4a434fa312c3def483845e89d933bbe4f97d01592"), looks := false }, kinds := [], alts := [], laidByText := true, laidKinds := [.data, .data, .data], laidTests := true, laidLooks := .later }
def RenderWideUptoCardSaid : Prop := Claim7.holds Tryd.pinned (.plain (OpenSpec.upto renderWideSpec)) renderWideUptoCard

/-- THE SECOND FORM's CARD OF 'galleylaw17.RenderLines'. -/
def renderLinesUptoCard : Claim7 := { stood := { row := renderLinesUptoRow, standIns := [], harness := (true, "b596910548bab20bf52c76e4a434fa312c3def483845e89d933bbe4f97d01592"), looks := false }, kinds := [], alts := [], laidByText := true, laidKinds := [.data, .data, .data], laidTests := true, laidLooks := .later }
def RenderLinesUptoCardSaid : Prop := Claim7.holds Tryd.pinned (.plain (OpenSpec.upto renderLinesSpec)) renderLinesUptoCard

/-- THE SECOND FORM's CARD OF 'galleylaw17.RenderSame'. -/
def renderSameUptoCard : Claim7 := { stood := { row := renderSameUptoRow, standIns := [], harness := (true, "b596910548bab20bf52c76e4a434fa312c3def483845e89d933bbe4f97d01592"), looks := false }, kinds := [], alts := [], laidByText := true, laidKinds := [.data, .data, .data], laidTests := true, laidLooks := .later }
def RenderSameUptoCardSaid : Prop := Claim7.holds Tryd.pinned (.plain (OpenSpec.upto renderSameSpec)) renderSameUptoCard

/-- THE SECOND FORM's CARD OF 'galleylaw17.RenderFits'. -/
def renderFitsUptoCard : Claim7 := { stood := { row := renderFitsUptoRow, standIns := [], harness := (true, "b596910548bab20bf52c76e4a434fa312c3def483845e89d933bbe4f97d01592"), looks := false }, kinds := [], alts := [], laidByText := true, laidKinds := [.data, .data, .data], laidTests := true, laidLooks := .later }
def RenderFitsUptoCardSaid : Prop := Claim7.holds Tryd.pinned (.plain (OpenSpec.upto renderFitsSpec)) renderFitsUptoCard
end Rows
end Go.Proofs.YtbjgoigdhijbgaaDoor
