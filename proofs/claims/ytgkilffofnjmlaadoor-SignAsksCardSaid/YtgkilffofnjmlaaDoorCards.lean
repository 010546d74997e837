/-
  DERIVED. GIVEN WITH THE SEED: THE CARDS: each row of YtgkilffofnjmlaaDoorRows.lean that lists a variable, with what it lists TIED to the program's text (the seventh form; the later family's looks); each row that meets fmt, with fmt's text TOLD by the authors' own Lean function (tested against real Go, not proved from fmt's source: count such statements apart). THE CARD IS WHAT COUNTS. Prove the row's statement (the work); the ties are given (YtgkilffofnjmlaaDoorTie.lean); close each card by the builder's one call (the guide's Derived/Test/ToyasCard.lean, 'card_holds'). Laid BY PROGRAM, IN A SANDBOX (cutbox-door.mjs). By AI agents, Wed Nov 11 2026. No macro, syntax, notation, axiom, sorry.
-/
import Derived.Test.YtgkilffofnjmlaaDoorRows
import GoSem.ClaimSeven
namespace Go.Proofs.YtgkilffofnjmlaaDoor
namespace Rows

/-- THE TIED CARD OF 'galleylaw5.SignAsks'. -/
def signAsksCard : Claim7 := { stood := { row := signAsksRow, standIns := [], harness := (true, "aa4031305b14ec49c39dee96444f66f7a2654aa576a925e3a2169daffdf775dd"), looks := false }, kinds := [], alts := [], laidByText := true, laidKinds := [.data], laidTests := true, laidLooks := .later }
def SignAsksCardSaid : Prop := Claim7.holds Tryd.pinned (.plain (OpenSpec.ofChange signAsksSpec)) signAsksCard

/-- THE TIED CARD OF 'galleylaw5.SignGreedy'. -/
def signGreedyCard : Claim7 := { stood := { row := signGreedyRow, standIns := [], harness := (true, "aa4031305b14ec49c39dee96444f66f7a2654aa576a925e3a2169daffdf775dd"), looks := false }, kinds := [], alts := [], laidByText := true, laidKinds := [.data], laidTests := true, laidLooks := .later }
def SignGreedyCardSaid : Prop := Claim7.holds Tryd.pinned (.plain (OpenSpec.ofChange signGreedySpec)) signGreedyCard

/-- THE TIED CARD OF 'galleylaw5.SignPairs'. -/
def signPairsCard : Claim7 := { stood := { row := signPairsRow, standIns := [], harness := (true, "aa4031305b14ec49c39dee96444f66f7a2654aa576a925e3a2169daffdf775dd"), looks := false }, kinds := [], alts := [], laidByText := true, laidKinds := [.data], laidTests := true, laidLooks := .later }
def SignPairsCardSaid : Prop := Claim7.holds Tryd.pinned (.plain (OpenSpec.ofChange signPairsSpec)) signPairsCard

/-- THE SECOND FORM's CARD OF 'galleylaw5.SignAsks'. -/
def signAsksUptoCard : Claim7 := { stood := { row := signAsksUptoRow, standIns := [], harness := (true, "aa4031305b14ec49c39dee96444f66f7a2654aa576a925e3a2169daffdf775dd"), looks := false }, kinds := [], alts := [], laidByText := true, laidKinds := [.data], laidTests := true, laidLooks := .later }
def SignAsksUptoCardSaid : Prop := Claim7.holds Tryd.pinned (.plain (OpenSpec.upto signAsksSpec)) signAsksUptoCard

/-- THE SECOND FORM's CARD OF 'galleylaw5.SignGreedy'. -/
def signGreedyUptoCard : Claim7 := { stood := { row := signGreedyUptoRow, standIns := [], harness := (true, "aa4031305b14ec49c39dee96444f66f7a2654aa576a925e3a2169daffdf775dd"), looks := false }, kinds := [], alts := [], laidByText := true, laidKinds := [.data], laidTests := true, laidLooks := .later }
def SignGreedyUptoCardSaid : Prop := Claim7.holds Tryd.pinned (.plain (OpenSpec.upto signGreedySpec)) signGreedyUptoCard

/-- THE SECOND FORM's CARD OF 'galleylaw5.SignPairs'. -/
def signPairsUptoCard : Claim7 := { stood := { row := signPairsUptoRow, standIns := [], harness := (true, "aa4031305b14ec49c39dee96444f66f7a2654aa576a925e3a2169daffdf775dd"), looks := false }, kinds := [], alts := [], laidByText := true, laidKinds := [.data], laidTests := true, laidLooks := .later }
def SignPairsUptoCardSaid : Prop := Claim7.holds Tryd.pinned (.plain (OpenSpec.upto signPairsSpec)) signPairsUptoCard
end Rows
end Go.Proofs.YtgkilffofnjmlaaDoor
