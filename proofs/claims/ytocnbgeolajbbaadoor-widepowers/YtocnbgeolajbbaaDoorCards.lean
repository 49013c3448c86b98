/-
  DERIVED. GIVEN WITH THE SEED: THE CARDS: each row of YtocnbgeolajbbaaDoorRows.lean that lists a variable, with what it lists TIED to the program's text (the seventh form; the later family's looks); each row that meets fmt, with fmt's text TOLD by the authors' own Lean function (tested against real Go, not proved from fmt's source: count such statements apart). THE CARD IS WHAT COUNTS. Prove the row's statement (the work); the ties are given (YtocnbgeolajbbaaDoorTie.lean); close each card by the builder's one call (the guide's Derived/Test/ToyasCard.lean, 'card_holds'). Laid BY PROGRAM, IN A SANDBOX (cutbox-door.mjs). By AI agents, Wed Nov 11 2026. No macro, syntax, notation, axiom, sorry.
-/
import Derived.Test.YtocnbgeolajbbaaDoorRows
import GoSem.ClaimSeven
namespace Go.Proofs.YtocnbgeolajbbaaDoor
namespace Rows

/-- THE TIED CARD OF 'avouchlaw04.WideReads'. -/
def wideReadsCard : Claim7 := { stood := { row := wideReadsRow, standIns := [], harness := (true, "5faba20f4d588b95d080d5162370cd07fcec06de4667e25104911c92d4b99894"), looks := false }, kinds := [], alts := [], laidByText := true, laidKinds := [.data], laidTests := true, laidLooks := .later }
def WideReadsCardSaid : Prop := Claim7.holds Tryd.pinned (.plain (OpenSpec.ofChange wideReadsSpec)) wideReadsCard

/-- THE TIED CARD OF 'avouchlaw04.WideReckons'. -/
def wideReckonsCard : Claim7 := { stood := { row := wideReckonsRow, standIns := [], harness := (true, "5faba20f4d588b95d080d5162370cd07fcec06de4667e25104911c92d4b99894"), looks := false }, kinds := [], alts := [], laidByText := true, laidKinds := [.data], laidTests := true, laidLooks := .later }
def WideReckonsCardSaid : Prop := Claim7.holds Tryd.pinned (.plain (OpenSpec.ofChange wideReckonsSpec)) wideReckonsCard

/-- THE TIED CARD OF 'avouchlaw04.WidePowers'. -/
def widePowersCard : Claim7 := { stood := { row := widePowersRow, standIns := [], harness := (true, "5faba20f4d588b95d080d5162370cd07fcec06de4667e25104911c92d4b99894"), looks := false }, kinds := [], alts := [], laidByText := true, laidKinds := [.data], laidTests := true, laidLooks := .later }
def WidePowersCardSaid : Prop := Claim7.holds Tryd.pinned (.plain (OpenSpec.ofChange widePowersSpec)) widePowersCard

/-- THE TIED CARD OF 'avouchlaw04.WideFermat'. -/
def wideFermatCard : Claim7 := { stood := { row := wideFermatRow, standIns := [], harness := (true, "5faba20f4d588b95d080d5162370cd07fcec06de4667e25104911c92d4b99894"), looks := false }, kinds := [], alts := [], laidByText := true, laidKinds := [.data], laidTests := true, laidLooks := .later }
def WideFermatCardSaid : Prop := Claim7.holds Tryd.pinned (.plain (OpenSpec.ofChange wideFermatSpec)) wideFermatCard

/-- THE TIED CARD OF 'avouchlaw04.WideHalves'. -/
def wideHalvesCard : Claim7 := { stood := { row := wideHalvesRow, standIns := [], harness := (true, "5faba20f4d588b95d080d5162370cd07fcec06de4667e25104911c92d4b99894"), looks := false }, kinds := [], alts := [], laidByText := true, laidKinds := [.data], laidTests := true, laidLooks := .later }
def WideHalvesCardSaid : Prop := Claim7.holds Tryd.pinned (.plain (OpenSpec.ofChange wideHalvesSpec)) wideHalvesCard

/-- THE SECOND FORM's CARD OF 'avouchlaw04.WideReads'. -/
def wideReadsUptoCard : Claim7 := { stood := { row := wideReadsUptoRow, standIns := [], harness := (true, "5faba20f4d588b95d080d5162370cd07fcec06de4667e25104911c92d4b99894"), looks := false }, kinds := [], alts := [], laidByText := true, laidKinds := [.data], laidTests := true, laidLooks := .later }
def WideReadsUptoCardSaid : Prop := Claim7.holds Tryd.pinned (.plain (OpenSpec.upto wideReadsSpec)) wideReadsUptoCard

/-- THE SECOND FORM's CARD OF 'avouchlaw04.WideReckons'. -/
def wideReckonsUptoCard : Claim7 := { stood := { row := wideReckonsUptoRow, standIns := [], harness := (true, "5faba20f4d588b95d080d5162370cd07fcec06de4667e25104911c92d4b99894"), looks := false }, kinds := [], alts := [], laidByText := true, laidKinds := [.data], laidTests := true, laidLooks := .later }
def WideReckonsUptoCardSaid : Prop := Claim7.holds Tryd.pinned (.plain (OpenSpec.upto wideReckonsSpec)) wideReckonsUptoCard

/-- THE SECOND FORM's CARD OF 'avouchlaw04.WidePowers'. -/
def widePowersUptoCard : Claim7 := { stood := { row := widePowersUptoRow, standIns := [], harness := (true, "5faba20f4d588b95d080d5162370cd07fcec06de4667e25104911c92d4b99894"), looks := false }, kinds := [], alts := [], laidByText := true, laidKinds := [.data], laidTests := true, laidLooks := .later }
def WidePowersUptoCardSaid : Prop := Claim7.holds Tryd.pinned (.plain (OpenSpec.upto widePowersSpec)) widePowersUptoCard

/-- THE SECOND FORM's CARD OF 'avouchlaw04.WideFermat'. -/
def wideFermatUptoCard : Claim7 := { stood := { row := wideFermatUptoRow, standIns := [], harness := (true, "5faba20f4d588b95d080d5162370cd07fcec06de4667e25104911c92d4b99894"), looks := false }, kinds := [], alts := [], laidByText := true, laidKinds := [.data], laidTests := true, laidLooks := .later }
def WideFermatUptoCardSaid : Prop := Claim7.holds Tryd.pinned (.plain (OpenSpec.upto wideFermatSpec)) wideFermatUptoCard

/-- THE SECOND FORM's CARD OF 'avouchlaw04.WideHalves'. -/
def wideHalvesUptoCard : Claim7 := { stood := { row := wideHalvesUptoRow, standIns := [], harness := (true, "5faba20f4d588b95d080d5162370cd07fcec06de4667e25104911c92d4b99894"), looks := false }, kinds := [], alts := [], laidByText := true, laidKinds := [.data], laidTests := true, laidLooks := .later }
def WideHalvesUptoCardSaid : Prop := Claim7.holds Tryd.pinned (.plain (OpenSpec.upto wideHalvesSpec)) wideHalvesUptoCard
end Rows
end Go.Proofs.YtocnbgeolajbbaaDoor
