/-
  DERIVED. GIVEN WITH THE SEED: THE CARDS: each row of YtdepkfdceidikaaGreatDoorRows.lean that lists a variable, with what it lists TIED to the program's text (the seventh form; the later family's looks); each row that meets fmt, with fmt's text TOLD by the authors' own Lean function (tested against real Go, not proved from fmt's source: count such statements apart). THE CARD IS WHAT COUNTS. Prove the row's statement (the work); the ties are given (YtdepkfdceidikaaGreatDoorTie.lean); close each card by the builder's one call (the guide's Derived/Test/ToyasCard.lean, 'card_holds'). Laid BY PROGRAM, IN A SANDBOX (cutbox-door.mjs). By AI agents, Wed Nov 11 2026. No macro, syntax, notation, axiom, sorry.
-/
import Derived.Test.YtdepkfdceidikaaGreatDoorRows
import GoSem.ClaimSeven
namespace Go.Proofs.YtdepkfdceidikaaGreatDoor
namespace Rows

/-- THE TIED CARD OF 'avouchlaw10.PoseidonPermutes'. -/
def poseidonPermutesCard : Claim7 := { stood := { row := poseidonPermutesRow, standIns := [], harness := (true, "21e64cab811e750d3386d136b109aceecad580dcaa73497d810a48d49fcedae9"), looks := false }, kinds := [], alts := [], laidByText := true, laidKinds := [.data, .data], laidTests := true, laidLooks := .later }
def PoseidonPermutesCardSaid : Prop := Claim7.holds Tryz.pinned (.plain (OpenSpec.ofChange poseidonPermutesSpec)) poseidonPermutesCard

/-- THE TIED CARD OF 'avouchlaw10.PoseidonConstants'. -/
def poseidonConstantsCard : Claim7 := { stood := { row := poseidonConstantsRow, standIns := [], harness := (true, "21e64cab811e750d3386d136b109aceecad580dcaa73497d810a48d49fcedae9"), looks := false }, kinds := [], alts := [], laidByText := true, laidKinds := [.data, .data], laidTests := true, laidLooks := .later }
def PoseidonConstantsCardSaid : Prop := Claim7.holds Tryz.pinned (.plain (OpenSpec.ofChange poseidonConstantsSpec)) poseidonConstantsCard

/-- THE TIED CARD OF 'avouchlaw10.PoseidonUnlike'. -/
def poseidonUnlikeCard : Claim7 := { stood := { row := poseidonUnlikeRow, standIns := [], harness := (true, "21e64cab811e750d3386d136b109aceecad580dcaa73497d810a48d49fcedae9"), looks := false }, kinds := [], alts := [], laidByText := true, laidKinds := [.data, .data], laidTests := true, laidLooks := .later }
def PoseidonUnlikeCardSaid : Prop := Claim7.holds Tryz.pinned (.plain (OpenSpec.ofChange poseidonUnlikeSpec)) poseidonUnlikeCard

/-- THE TIED CARD OF 'avouchlaw10.PoseidonSteps'. -/
def poseidonStepsCard : Claim7 := { stood := { row := poseidonStepsRow, standIns := [], harness := (true, "21e64cab811e750d3386d136b109aceecad580dcaa73497d810a48d49fcedae9"), looks := false }, kinds := [], alts := [], laidByText := true, laidKinds := [.data, .data], laidTests := true, laidLooks := .later }
def PoseidonStepsCardSaid : Prop := Claim7.holds Tryz.pinned (.plain (OpenSpec.ofChange poseidonStepsSpec)) poseidonStepsCard

/-- THE SECOND FORM's CARD OF 'avouchlaw10.PoseidonPermutes'. -/
def poseidonPermutesUptoCard : Claim7 := { stood := { row := poseidonPermutesUptoRow, standIns := [], harness := (true, "21e64cab811e750d3386d136b109aceecad580dcaa73497d810a48d49fcedae9"), looks := false }, kinds := [], alts := [], laidByText := true, laidKinds := [.data, .data], laidTests := true, laidLooks := .later }
def PoseidonPermutesUptoCardSaid : Prop := Claim7.holds Tryz.pinned (.plain (OpenSpec.upto poseidonPermutesSpec)) poseidonPermutesUptoCard

/-- THE SECOND FORM's CARD OF 'avouchlaw10.PoseidonConstants'. -/
def poseidonConstantsUptoCard : Claim7 := { stood := { row := poseidonConstantsUptoRow, standIns := [], harness := (true, "21e64cab811e750d3386d136b109aceecad580dcaa73497d810a48d49fcedae9"), looks := false }, kinds := [], alts := [], laidByText := true, laidKinds := [.data, .data], laidTests := true, laidLooks := .later }
def PoseidonConstantsUptoCardSaid : Prop := Claim7.holds Tryz.pinned (.plain (OpenSpec.upto poseidonConstantsSpec)) poseidonConstantsUptoCard

/-- THE SECOND FORM's CARD OF 'avouchlaw10.PoseidonUnlike'. -/
def poseidonUnlikeUptoCard : Claim7 := { stood := { row := poseidonUnlikeUptoRow, standIns := [], harness := (true, "21e64cab811e750d3386d136b109aceecad580dcaa73497d810a48d49fcedae9"), looks := false }, kinds := [], alts := [], laidByText := true, laidKinds := [.data, .data], laidTests := true, laidLooks := .later }
def PoseidonUnlikeUptoCardSaid : Prop := Claim7.holds Tryz.pinned (.plain (OpenSpec.upto poseidonUnlikeSpec)) poseidonUnlikeUptoCard

/-- THE SECOND FORM's CARD OF 'avouchlaw10.PoseidonSteps'. -/
def poseidonStepsUptoCard : Claim7 := { stood := { row := poseidonStepsUptoRow, standIns := [], harness := (true, "21e64cab811e750d3386d136b109aceecad580dcaa73497d810a48d49fcedae9"), looks := false }, kinds := [], alts := [], laidByText := true, laidKinds := [.data, .data], laidTests := true, laidLooks := .later }
def PoseidonStepsUptoCardSaid : Prop := Claim7.holds Tryz.pinned (.plain (OpenSpec.upto poseidonStepsSpec)) poseidonStepsUptoCard
end Rows
end Go.Proofs.YtdepkfdceidikaaGreatDoor
