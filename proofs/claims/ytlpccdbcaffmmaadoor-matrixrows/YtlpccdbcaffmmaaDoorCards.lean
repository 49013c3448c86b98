/-
  DERIVED. GIVEN WITH THE SEED: THE CARDS: each row of YtlpccdbcaffmmaaDoorRows.lean that lists a variable, with what it lists TIED to the program's text (the seventh form; the later family's looks); each row that meets fmt, with fmt's text TOLD by the authors' own Lean function (tested against real Go, not proved from fmt's source: count such statements apart). THE CARD IS WHAT COUNTS. Prove the row's statement (the work); the ties are given (YtlpccdbcaffmmaaDoorTie.lean); close each card by the builder's one call (the guide's Derived/Test/ToyasCard.lean, 'card_holds'). Laid BY PROGRAM, IN A SANDBOX (cutbox-door.mjs). By AI agents, Wed Nov 11 2026. No macro, syntax, notation, axiom, sorry.
-/
import Derived.Test.YtlpccdbcaffmmaaDoorRows
import GoSem.ClaimSeven
namespace Go.Proofs.YtlpccdbcaffmmaaDoor
namespace Rows

/-- THE TIED CARD OF 'avouchlaw09.MatrixReckons'. -/
def matrixReckonsCard : Claim7 := { stood := { row := matrixReckonsRow, standIns := [], harness := (true, "62bd87f4a74c3753e65fc1b2703de0548429a1da73e9efad3b14b1080e438e9d"), looks := false }, kinds := [], alts := [], laidByText := true, laidKinds := [.data, .data], laidTests := true, laidLooks := .later }
def MatrixReckonsCardSaid : Prop := Claim7.holds Tryd.pinned (.plain (OpenSpec.ofChange matrixReckonsSpec)) matrixReckonsCard

/-- THE TIED CARD OF 'avouchlaw09.MatrixMinors'. -/
def matrixMinorsCard : Claim7 := { stood := { row := matrixMinorsRow, standIns := [], harness := (true, "62bd87f4a74c3753e65fc1b2703de0548429a1da73e9efad3b14b1080e438e9d"), looks := false }, kinds := [], alts := [], laidByText := true, laidKinds := [.data, .data], laidTests := true, laidLooks := .later }
def MatrixMinorsCardSaid : Prop := Claim7.holds Tryd.pinned (.plain (OpenSpec.ofChange matrixMinorsSpec)) matrixMinorsCard

/-- THE TIED CARD OF 'avouchlaw09.MatrixLaws'. -/
def matrixLawsCard : Claim7 := { stood := { row := matrixLawsRow, standIns := [], harness := (true, "62bd87f4a74c3753e65fc1b2703de0548429a1da73e9efad3b14b1080e438e9d"), looks := false }, kinds := [], alts := [], laidByText := true, laidKinds := [.data, .data], laidTests := true, laidLooks := .later }
def MatrixLawsCardSaid : Prop := Claim7.holds Tryd.pinned (.plain (OpenSpec.ofChange matrixLawsSpec)) matrixLawsCard

/-- THE TIED CARD OF 'avouchlaw09.MatrixRows'. -/
def matrixRowsCard : Claim7 := { stood := { row := matrixRowsRow, standIns := [], harness := (true, "62bd87f4a74c3753e65fc1b2703de0548429a1da73e9efad3b14b1080e438e9d"), looks := false }, kinds := [], alts := [], laidByText := true, laidKinds := [.data, .data], laidTests := true, laidLooks := .later }
def MatrixRowsCardSaid : Prop := Claim7.holds Tryd.pinned (.plain (OpenSpec.ofChange matrixRowsSpec)) matrixRowsCard

/-- THE SECOND FORM's CARD OF 'avouchlaw09.MatrixReckons'. -/
def matrixReckonsUptoCard : Claim7 := { stood := { row := matrixReckonsUptoRow, standIns := [], harness := (true, "62bd87f4a74c3753e65fc1b2703de0548429a1da73e9efad3b14b1080e438e9d"), looks := false }, kinds := [], alts := [], laidByText := true, laidKinds := [.data, .data], laidTests := true, laidLooks := .later }
def MatrixReckonsUptoCardSaid : Prop := Claim7.holds Tryd.pinned (.plain (OpenSpec.upto matrixReckonsSpec)) matrixReckonsUptoCard

/-- THE SECOND FORM's CARD OF 'avouchlaw09.MatrixMinors'. -/
def matrixMinorsUptoCard : Claim7 := { stood := { row := matrixMinorsUptoRow, standIns := [], harness := (true, "62bd87f4a74c3753e65fc1b2703de0548429a1da73e9efad3b14b1080e438e9d"), looks := false }, kinds := [], alts := [], laidByText := true, laidKinds := [.data, .data], laidTests := true, laidLooks := .later }
def MatrixMinorsUptoCardSaid : Prop := Claim7.holds Tryd.pinned (.plain (OpenSpec.upto matrixMinorsSpec)) matrixMinorsUptoCard

/-- THE SECOND FORM's CARD OF 'avouchlaw09.MatrixLaws'. -/
def matrixLawsUptoCard : Claim7 := { stood := { row := matrixLawsUptoRow, standIns := [], harness := (true, "62bd87f4a74c3753e65fc1b2703de0548429a1da73e9efad3b14b1080e438e9d"), looks := false }, kinds := [], alts := [], laidByText := true, laidKinds := [.data, .data], laidTests := true, laidLooks := .later }
def MatrixLawsUptoCardSaid : Prop := Claim7.holds Tryd.pinned (.plain (OpenSpec.upto matrixLawsSpec)) matrixLawsUptoCard

/-- THE SECOND FORM's CARD OF 'avouchlaw09.MatrixRows'. -/
def matrixRowsUptoCard : Claim7 := { stood := { row := matrixRowsUptoRow, standIns := [], harness := (true, "62bd87f4a74c3753e65fc1b2703de0548429a1da73e9efad3b14b1080e438e9d"), looks := false }, kinds := [], alts := [], laidByText := true, laidKinds := [.data, .data], laidTests := true, laidLooks := .later }
def MatrixRowsUptoCardSaid : Prop := Claim7.holds Tryd.pinned (.plain (OpenSpec.upto matrixRowsSpec)) matrixRowsUptoCard
end Rows
end Go.Proofs.YtlpccdbcaffmmaaDoor
