/-
  DERIVED. GIVEN WITH THE SEED: THE CARDS: each row of YtpjjobophplleaaDoorRows.lean that lists a variable, with what it lists TIED to the program's text (the seventh form; the later family's looks); each row that meets fmt, with fmt's text TOLD by the authors' own Lean function (tested against real Go, not proved from fmt's source: count such statements apart). THE CARD IS WHAT COUNTS. Prove the row's statement (the work); the ties are given (YtpjjobophplleaaDoorTie.lean); close each card by the builder's one call (the guide's Derived/Test/ToyasCard.lean, 'card_holds'). Laid BY PROGRAM, IN A SANDBOX (cutbox-door.mjs). By AI agents, Wed Nov 11 2026. No macro, syntax, notation, axiom, sorry.
-/
import Derived.Test.YtpjjobophplleaaDoorRows
import GoSem.ClaimSeven
namespace Go.Proofs.YtpjjobophplleaaDoor
namespace Rows

/-- THE TIED CARD OF 'avouchlaw08.GrainElements'. -/
def grainElementsCard : Claim7 := { stood := { row := grainElementsRow, standIns := [], harness := (true, "625d4fc737e3b7d3a89d94e8f2333cebf9c027db4ed35878589d21022fc996ff"), looks := false }, kinds := [], alts := [], laidByText := true, laidKinds := [.data, .data], laidTests := true, laidLooks := .later }
def GrainElementsCardSaid : Prop := Claim7.holds Tryd.pinned (.plain (OpenSpec.ofChange grainElementsSpec)) grainElementsCard

/-- THE TIED CARD OF 'avouchlaw08.GrainSkips'. -/
def grainSkipsCard : Claim7 := { stood := { row := grainSkipsRow, standIns := [], harness := (true, "625d4fc737e3b7d3a89d94e8f2333cebf9c027db4ed35878589d21022fc996ff"), looks := false }, kinds := [], alts := [], laidByText := true, laidKinds := [.data, .data], laidTests := true, laidLooks := .later }
def GrainSkipsCardSaid : Prop := Claim7.holds Tryd.pinned (.plain (OpenSpec.ofChange grainSkipsSpec)) grainSkipsCard

/-- THE SECOND FORM's CARD OF 'avouchlaw08.GrainElements'. -/
def grainElementsUptoCard : Claim7 := { stood := { row := grainElementsUptoRow, standIns := [], harness := (true, "625d4fc737e3b7d3a89d94e8f2333cebf9c027db4ed35878589d21022fc996ff"), looks := false }, kinds := [], alts := [], laidByText := true, laidKinds := [.data, .data], laidTests := true, laidLooks := .later }
def GrainElementsUptoCardSaid : Prop := Claim7.holds Tryd.pinned (.plain (OpenSpec.upto grainElementsSpec)) grainElementsUptoCard

/-- THE SECOND FORM's CARD OF 'avouchlaw08.GrainSkips'. -/
def grainSkipsUptoCard : Claim7 := { stood := { row := grainSkipsUptoRow, standIns := [], harness := (true, "625d4fc737e3b7d3a89d94e8f2333cebf9c027db4ed35878589d21022fc996ff"), looks := false }, kinds := [], alts := [], laidByText := true, laidKinds := [.data, .data], laidTests := true, laidLooks := .later }
def GrainSkipsUptoCardSaid : Prop := Claim7.holds Tryd.pinned (.plain (OpenSpec.upto grainSkipsSpec)) grainSkipsUptoCard
end Rows
end Go.Proofs.YtpjjobophplleaaDoor
