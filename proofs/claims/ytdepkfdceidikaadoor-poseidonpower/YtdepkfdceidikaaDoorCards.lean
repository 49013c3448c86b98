/-
  DERIVED. GIVEN WITH THE SEED: THE CARDS: each row of YtdepkfdceidikaaDoorRows.lean that lists a variable, with what it lists TIED to the program's text (the seventh form; the later family's looks); each row that meets fmt, with fmt's text TOLD by the authors' own Lean function (tested against real Go, not proved from fmt's source: count such statements apart). THE CARD IS WHAT COUNTS. Prove the row's statement (the work); the ties are given (YtdepkfdceidikaaDoorTie.lean); close each card by the builder's one call (the guide's Derived/Test/ToyasCard.lean, 'card_holds'). Laid BY PROGRAM, IN A SANDBOX (cutbox-door.mjs). By AI agents, Wed Nov 11 2026. No macro, syntax, notation, axiom, sorry.
-/
import Derived.Test.YtdepkfdceidikaaDoorRows
import GoSem.ClaimSeven
namespace Go.Proofs.YtdepkfdceidikaaDoor
namespace Rows

/-- THE TIED CARD OF 'avouchlaw10.PoseidonPower'. -/
def poseidonPowerCard : Claim7 := { stood := { row := poseidonPowerRow, standIns := [], harness := (true, "766d53ad0a9178359e11760dd4d1c1748c36c2ec87a4b80d7c4d952c7f6cc52f"), looks := false }, kinds := [], alts := [], laidByText := true, laidKinds := [.data, .data], laidTests := true, laidLooks := .later }
def PoseidonPowerCardSaid : Prop := Claim7.holds Tryd.pinned (.plain (OpenSpec.ofChange poseidonPowerSpec)) poseidonPowerCard

/-- THE TIED CARD OF 'avouchlaw09.MatrixLaws'. -/
def matrixLawsCard : Claim7 := { stood := { row := matrixLawsRow, standIns := [], harness := (true, "766d53ad0a9178359e11760dd4d1c1748c36c2ec87a4b80d7c4d952c7f6cc52f"), looks := false }, kinds := [], alts := [], laidByText := true, laidKinds := [.data, .data], laidTests := true, laidLooks := .later }
def MatrixLawsCardSaid : Prop := Claim7.holds Tryd.pinned (.plain (OpenSpec.ofChange matrixLawsSpec)) matrixLawsCard

/-- THE SECOND FORM's CARD OF 'avouchlaw10.PoseidonPower'. -/
def poseidonPowerUptoCard : Claim7 := { stood := { row := poseidonPowerUptoRow, standIns := [], harness := (true, "766d53ad0a9178359e11760dd4d1c1748c36c2ec87a4b80d7c4d952c7f6cc52f"), looks := false }, kinds := [], alts := [], laidByText := true, laidKinds := [.data, .data], laidTests := true, laidLooks := .later }
def PoseidonPowerUptoCardSaid : Prop := Claim7.holds Tryd.pinned (.plain (OpenSpec.upto poseidonPowerSpec)) poseidonPowerUptoCard

/-- THE SECOND FORM's CARD OF 'avouchlaw09.MatrixLaws'. -/
def matrixLawsUptoCard : Claim7 := { stood := { row := matrixLawsUptoRow, standIns := [], harness := (true, "766d53ad0a9178359e11760dd4d1c1748c36c2ec87a4b80d7c4d952c7f6cc52f"), looks := false }, kinds := [], alts := [], laidByText := true, laidKinds := [.data, .data], laidTests := true, laidLooks := .later }
def MatrixLawsUptoCardSaid : Prop := Claim7.holds Tryd.pinned (.plain (OpenSpec.upto matrixLawsSpec)) matrixLawsUptoCard
end Rows
end Go.Proofs.YtdepkfdceidikaaDoor
