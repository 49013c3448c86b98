/-
  DERIVED. GIVEN WITH THE SEED: THE CARDS: each row of YtfonpmahcdmajaaDoorRows.lean that lists a variable, with what it lists TIED to the program's text (the seventh form; the later family's looks); each row that meets fmt, with fmt's text TOLD by the authors' own Lean function (tested against real Go, not proved from fmt's source: count such statements apart). THE CARD IS WHAT COUNTS. Prove the row's statement (the work); the ties are given (YtfonpmahcdmajaaDoorTie.lean); close each card by the builder's one call (the guide's Derived/Test/ToyasCard.lean, 'card_holds'). Laid BY PROGRAM, IN A SANDBOX (cutbox-door.mjs). By AI agents, Wed Nov 11 2026. No macro, syntax, notation, axiom, sorry.
-/
import Derived.Test.YtfonpmahcdmajaaDoorRows
import GoSem.ClaimSeven
namespace Go.Proofs.YtfonpmahcdmajaaDoor
namespace Rows

/-- THE TIED CARD OF 'avouchlaw04.WideFermat'. -/
def wideFermatCard : Claim7 := { stood := { row := wideFermatRow, standIns := [], harness := (true, "46e07c3933979b62a552f17697ddfecf25a863f6b83740fa82edde770882c0ee"), looks := false }, kinds := [], alts := [], laidByText := true, laidKinds := [.data], laidTests := true, laidLooks := .later }
def WideFermatCardSaid : Prop := Claim7.holds Tryd.pinned (.plain (OpenSpec.ofChange wideFermatSpec)) wideFermatCard

/-- THE TIED CARD OF 'avouchlaw05.GroupReads'. -/
def groupReadsCard : Claim7 := { stood := { row := groupReadsRow, standIns := [], harness := (true, "46e07c3933979b62a552f17697ddfecf25a863f6b83740fa82edde770882c0ee"), looks := false }, kinds := [], alts := [], laidByText := true, laidKinds := [.data], laidTests := true, laidLooks := .later }
def GroupReadsCardSaid : Prop := Claim7.holds Tryd.pinned (.plain (OpenSpec.ofChange groupReadsSpec)) groupReadsCard

/-- THE TIED CARD OF 'avouchlaw05.GroupPowers'. -/
def groupPowersCard : Claim7 := { stood := { row := groupPowersRow, standIns := [], harness := (true, "46e07c3933979b62a552f17697ddfecf25a863f6b83740fa82edde770882c0ee"), looks := false }, kinds := [], alts := [], laidByText := true, laidKinds := [.data], laidTests := true, laidLooks := .later }
def GroupPowersCardSaid : Prop := Claim7.holds Tryd.pinned (.plain (OpenSpec.ofChange groupPowersSpec)) groupPowersCard

/-- THE TIED CARD OF 'avouchlaw05.GroupScalars'. -/
def groupScalarsCard : Claim7 := { stood := { row := groupScalarsRow, standIns := [], harness := (true, "46e07c3933979b62a552f17697ddfecf25a863f6b83740fa82edde770882c0ee"), looks := false }, kinds := [], alts := [], laidByText := true, laidKinds := [.data, .data, .data], laidTests := true, laidLooks := .later }
def GroupScalarsCardSaid : Prop := Claim7.holds Tryd.pinned (.plain (OpenSpec.ofChange groupScalarsSpec)) groupScalarsCard

/-- THE TIED CARD OF 'avouchlaw05.GroupLaws'. -/
def groupLawsCard : Claim7 := { stood := { row := groupLawsRow, standIns := [], harness := (true, "46e07c3933979b62a552f17697ddfecf25a863f6b83740fa82edde770882c0ee"), looks := false }, kinds := [], alts := [], laidByText := true, laidKinds := [.data], laidTests := true, laidLooks := .later }
def GroupLawsCardSaid : Prop := Claim7.holds Tryd.pinned (.plain (OpenSpec.ofChange groupLawsSpec)) groupLawsCard

/-- THE TIED CARD OF 'avouchlaw05.GroupCloses'. -/
def groupClosesCard : Claim7 := { stood := { row := groupClosesRow, standIns := [], harness := (true, "46e07c3933979b62a552f17697ddfecf25a863f6b83740fa82edde770882c0ee"), looks := false }, kinds := [], alts := [], laidByText := true, laidKinds := [.data], laidTests := true, laidLooks := .later }
def GroupClosesCardSaid : Prop := Claim7.holds Tryd.pinned (.plain (OpenSpec.ofChange groupClosesSpec)) groupClosesCard

/-- THE SECOND FORM's CARD OF 'avouchlaw04.WideFermat'. -/
def wideFermatUptoCard : Claim7 := { stood := { row := wideFermatUptoRow, standIns := [], harness := (true, "46e07c3933979b62a552f17697ddfecf25a863f6b83740fa82edde770882c0ee"), looks := false }, kinds := [], alts := [], laidByText := true, laidKinds := [.data], laidTests := true, laidLooks := .later }
def WideFermatUptoCardSaid : Prop := Claim7.holds Tryd.pinned (.plain (OpenSpec.upto wideFermatSpec)) wideFermatUptoCard

/-- THE SECOND FORM's CARD OF 'avouchlaw05.GroupReads'. -/
def groupReadsUptoCard : Claim7 := { stood := { row := groupReadsUptoRow, standIns := [], harness := (true, "46e07c3933979b62a552f17697ddfecf25a863f6b83740fa82edde770882c0ee"), looks := false }, kinds := [], alts := [], laidByText := true, laidKinds := [.data], laidTests := true, laidLooks := .later }
def GroupReadsUptoCardSaid : Prop := Claim7.holds Tryd.pinned (.plain (OpenSpec.upto groupReadsSpec)) groupReadsUptoCard

/-- THE SECOND FORM's CARD OF 'avouchlaw05.GroupPowers'. -/
def groupPowersUptoCard : Claim7 := { stood := { row := groupPowersUptoRow, standIns := [], harness := (true, "46e07c3933979b62a552f17697ddfecf25a863f6b83740fa82edde770882c0ee"), looks := false }, kinds := [], alts := [], laidByText := true, laidKinds := [.data], laidTests := true, laidLooks := .later }
def GroupPowersUptoCardSaid : Prop := Claim7.holds Tryd.pinned (.plain (OpenSpec.upto groupPowersSpec)) groupPowersUptoCard

/-- THE SECOND FORM's CARD OF 'avouchlaw05.GroupScalars'. -/
def groupScalarsUptoCard : Claim7 := { stood := { row := groupScalarsUptoRow, standIns := [], harness := (true, "46e07c3933979b62a552f17697ddfecf25a863f6b83740fa82edde770882c0ee"), looks := false }, kinds := [], alts := [], laidByText := true, laidKinds := [.data, .data, .data], laidTests := true, laidLooks := .later }
def GroupScalarsUptoCardSaid : Prop := Claim7.holds Tryd.pinned (.plain (OpenSpec.upto groupScalarsSpec)) groupScalarsUptoCard

/-- THE SECOND FORM's CARD OF 'avouchlaw05.GroupLaws'. -/
def groupLawsUptoCard : Claim7 := { stood := { row := groupLawsUptoRow, standIns := [], harness := (true, "46e07c3933979b62a552f17697ddfecf25a863f6b83740fa82edde770882c0ee"), looks := false }, kinds := [], alts := [], laidByText := true, laidKinds := [.data], laidTests := true, laidLooks := .later }
def GroupLawsUptoCardSaid : Prop := Claim7.holds Tryd.pinned (.plain (OpenSpec.upto groupLawsSpec)) groupLawsUptoCard

/-- THE SECOND FORM's CARD OF 'avouchlaw05.GroupCloses'. -/
def groupClosesUptoCard : Claim7 := { stood := { row := groupClosesUptoRow, standIns := [], harness := (true, "46e07c3933979b62a552f17697ddfecf25a863f6b83740fa82edde770882c0ee"), looks := false }, kinds := [], alts := [], laidByText := true, laidKinds := [.data], laidTests := true, laidLooks := .later }
def GroupClosesUptoCardSaid : Prop := Claim7.holds Tryd.pinned (.plain (OpenSpec.upto groupClosesSpec)) groupClosesUptoCard
end Rows
end Go.Proofs.YtfonpmahcdmajaaDoor
