/-
  DERIVED. GIVEN WITH THE SEED: THE CARDS: each row of YtjohbepdmnigcaaDoorRows.lean that lists a variable, with what it lists TIED to the program's text (the seventh form; the later family's looks); each row that meets fmt, with fmt's text TOLD by the authors' own Lean function (tested against real Go, not proved from fmt's source: count such statements apart). THE CARD IS WHAT COUNTS. Prove the row's statement (the work); the ties are given (YtjohbepdmnigcaaDoorTie.lean); close each card by the builder's one call (the guide's Derived/Test/ToyasCard.lean, 'card_holds'). Laid BY PROGRAM, IN A SANDBOX (cutbox-door.mjs). By AI agents, Wed Nov 11 2026. No macro, syntax, notation, axiom, sorry.
-/
import Derived.Test.YtjohbepdmnigcaaDoorRows
import GoSem.ClaimSeven
namespace Go.Proofs.YtjohbepdmnigcaaDoor
namespace Rows

/-- THE TIED CARD OF 'avouchlaw03.CalcRuns'. -/
def calcRunsCard : Claim7 := { stood := { row := calcRunsRow, standIns := [], harness := (true, "7d237257545421314c326afc1276a189d64d2c25480912d88829e48c2ca6e0e5"), looks := false }, kinds := [], alts := [], laidByText := true, laidKinds := [.data, .data, .data], laidTests := true, laidLooks := .later }
def CalcRunsCardSaid : Prop := Claim7.holds Tryd.pinned (.plain (OpenSpec.ofChange calcRunsSpec)) calcRunsCard

/-- THE TIED CARD OF 'avouchlaw03.CalcPieces'. -/
def calcPiecesCard : Claim7 := { stood := { row := calcPiecesRow, standIns := [], harness := (true, "7d237257545421314c326afc1276a189d64d2c25480912d88829e48c2ca6e0e5"), looks := false }, kinds := [], alts := [], laidByText := true, laidKinds := [.data, .data, .data], laidTests := true, laidLooks := .later }
def CalcPiecesCardSaid : Prop := Claim7.holds Tryd.pinned (.plain (OpenSpec.ofChange calcPiecesSpec)) calcPiecesCard

/-- THE TIED CARD OF 'avouchlaw03.CalcUndoes'. -/
def calcUndoesCard : Claim7 := { stood := { row := calcUndoesRow, standIns := [], harness := (true, "7d237257545421314c326afc1276a189d64d2c25480912d88829e48c2ca6e0e5"), looks := false }, kinds := [], alts := [], laidByText := true, laidKinds := [.data, .data, .data], laidTests := true, laidLooks := .later }
def CalcUndoesCardSaid : Prop := Claim7.holds Tryd.pinned (.plain (OpenSpec.ofChange calcUndoesSpec)) calcUndoesCard

/-- THE TIED CARD OF 'avouchlaw03.CalcDepth'. -/
def calcDepthCard : Claim7 := { stood := { row := calcDepthRow, standIns := [], harness := (true, "7d237257545421314c326afc1276a189d64d2c25480912d88829e48c2ca6e0e5"), looks := false }, kinds := [], alts := [], laidByText := true, laidKinds := [.data, .data, .data], laidTests := true, laidLooks := .later }
def CalcDepthCardSaid : Prop := Claim7.holds Tryd.pinned (.plain (OpenSpec.ofChange calcDepthSpec)) calcDepthCard

/-- THE SECOND FORM's CARD OF 'avouchlaw03.CalcRuns'. -/
def calcRunsUptoCard : Claim7 := { stood := { row := calcRunsUptoRow, standIns := [], harness := (true, "7d237257545421314c326afc1276a189d64d2c25480912d88829e48c2ca6e0e5"), looks := false }, kinds := [], alts := [], laidByText := true, laidKinds := [.data, .data, .data], laidTests := true, laidLooks := .later }
def CalcRunsUptoCardSaid : Prop := Claim7.holds Tryd.pinned (.plain (OpenSpec.upto calcRunsSpec)) calcRunsUptoCard

/-- THE SECOND FORM's CARD OF 'avouchlaw03.CalcPieces'. -/
def calcPiecesUptoCard : Claim7 := { stood := { row := calcPiecesUptoRow, standIns := [], harness := (true, "7d237257545421314c326afc1276a189d64d2c25480912d88829e48c2ca6e0e5"), looks := false }, kinds := [], alts := [], laidByText := true, laidKinds := [.data, .data, .data], laidTests := true, laidLooks := .later }
def CalcPiecesUptoCardSaid : Prop := Claim7.holds Tryd.pinned (.plain (OpenSpec.upto calcPiecesSpec)) calcPiecesUptoCard

/-- THE SECOND FORM's CARD OF 'avouchlaw03.CalcUndoes'. -/
def calcUndoesUptoCard : Claim7 := { stood := { row := calcUndoesUptoRow, standIns := [], harness := (true, "7d237257545421314c326afc1276a189d64d2c25480912d88829e48c2ca6e0e5"), looks := false }, kinds := [], alts := [], laidByText := true, laidKinds := [.data, .data, .data], laidTests := true, laidLooks := .later }
def CalcUndoesUptoCardSaid : Prop := Claim7.holds Tryd.pinned (.plain (OpenSpec.upto calcUndoesSpec)) calcUndoesUptoCard

/-- THE SECOND FORM's CARD OF 'avouchlaw03.CalcDepth'. -/
def calcDepthUptoCard : Claim7 := { stood := { row := calcDepthUptoRow, standIns := [], harness := (true, "7d237257545421314c326afc1276a189d64d2c25480912d88829e48c2ca6e0e5"), looks := false }, kinds := [], alts := [], laidByText := true, laidKinds := [.data, .data, .data], laidTests := true, laidLooks := .later }
def CalcDepthUptoCardSaid : Prop := Claim7.holds Tryd.pinned (.plain (OpenSpec.upto calcDepthSpec)) calcDepthUptoCard
end Rows
end Go.Proofs.YtjohbepdmnigcaaDoor
