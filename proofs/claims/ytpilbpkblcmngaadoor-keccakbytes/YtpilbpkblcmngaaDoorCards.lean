/-
  DERIVED. GIVEN WITH THE SEED: THE CARDS: each row of YtpilbpkblcmngaaDoorRows.lean that lists a variable, with what it lists TIED to the program's text (the seventh form; the later family's looks); each row that meets fmt, with fmt's text TOLD by the authors' own Lean function (tested against real Go, not proved from fmt's source: count such statements apart). THE CARD IS WHAT COUNTS. Prove the row's statement (the work); the ties are given (YtpilbpkblcmngaaDoorTie.lean); close each card by the builder's one call (the guide's Derived/Test/ToyasCard.lean, 'card_holds'). Laid BY PROGRAM, IN A SANDBOX (cutbox-door.mjs). By AI agents, Wed Nov 11 2026. No macro, syntax, notation, axiom, sorry.
-/
import Derived.Test.YtpilbpkblcmngaaDoorRows
import GoSem.ClaimSeven
namespace Go.Proofs.YtpilbpkblcmngaaDoor
namespace Rows

/-- THE TIED CARD OF 'avouchlaw06.KeccakPermutes'. -/
def keccakPermutesCard : Claim7 := { stood := { row := keccakPermutesRow, standIns := [], harness := (true, "85958fa44619ed696bb01fc23d8095cefa7ee7a39ff6a583f353e0aec534243e"), looks := false }, kinds := [], alts := [], laidByText := true, laidKinds := [.data, .data], laidTests := true, laidLooks := .later }
def KeccakPermutesCardSaid : Prop := Claim7.holds Tryd.pinned (.plain (OpenSpec.ofChange keccakPermutesSpec)) keccakPermutesCard

/-- THE TIED CARD OF 'avouchlaw06.KeccakConstants'. -/
def keccakConstantsCard : Claim7 := { stood := { row := keccakConstantsRow, standIns := [], harness := (true, "85958fa44619ed696bb01fc23d8095cefa7ee7a39ff6a583f353e0aec534243e"), looks := false }, kinds := [], alts := [], laidByText := true, laidKinds := [.data, .data], laidTests := true, laidLooks := .later }
def KeccakConstantsCardSaid : Prop := Claim7.holds Tryd.pinned (.plain (OpenSpec.ofChange keccakConstantsSpec)) keccakConstantsCard

/-- THE TIED CARD OF 'avouchlaw06.KeccakBytes'. -/
def keccakBytesCard : Claim7 := { stood := { row := keccakBytesRow, standIns := [], harness := (true, "85958fa44619ed696bb01fc23d8095cefa7ee7a39ff6a583f353e0aec534243e"), looks := false }, kinds := [], alts := [], laidByText := true, laidKinds := [.data, .data], laidTests := true, laidLooks := .later }
def KeccakBytesCardSaid : Prop := Claim7.holds Tryd.pinned (.plain (OpenSpec.ofChange keccakBytesSpec)) keccakBytesCard

/-- THE TIED CARD OF 'avouchlaw06.KeccakUnlike'. -/
def keccakUnlikeCard : Claim7 := { stood := { row := keccakUnlikeRow, standIns := [], harness := (true, "85958fa44619ed696bb01fc23d8095cefa7ee7a39ff6a583f353e0aec534243e"), looks := false }, kinds := [], alts := [], laidByText := true, laidKinds := [.data, .data], laidTests := true, laidLooks := .later }
def KeccakUnlikeCardSaid : Prop := Claim7.holds Tryd.pinned (.plain (OpenSpec.ofChange keccakUnlikeSpec)) keccakUnlikeCard

/-- THE TIED CARD OF 'avouchlaw06.KeccakIota'. -/
def keccakIotaCard : Claim7 := { stood := { row := keccakIotaRow, standIns := [], harness := (true, "85958fa44619ed696bb01fc23d8095cefa7ee7a39ff6a583f353e0aec534243e"), looks := false }, kinds := [], alts := [], laidByText := true, laidKinds := [.data, .data], laidTests := true, laidLooks := .later }
def KeccakIotaCardSaid : Prop := Claim7.holds Tryd.pinned (.plain (OpenSpec.ofChange keccakIotaSpec)) keccakIotaCard

/-- THE SECOND FORM's CARD OF 'avouchlaw06.KeccakPermutes'. -/
def keccakPermutesUptoCard : Claim7 := { stood := { row := keccakPermutesUptoRow, standIns := [], harness := (true, "85958fa44619ed696bb01fc23d8095cefa7ee7a39ff6a583f353e0aec534243e"), looks := false }, kinds := [], alts := [], laidByText := true, laidKinds := [.data, .data], laidTests := true, laidLooks := .later }
def KeccakPermutesUptoCardSaid : Prop := Claim7.holds Tryd.pinned (.plain (OpenSpec.upto keccakPermutesSpec)) keccakPermutesUptoCard

/-- THE SECOND FORM's CARD OF 'avouchlaw06.KeccakConstants'. -/
def keccakConstantsUptoCard : Claim7 := { stood := { row := keccakConstantsUptoRow, standIns := [], harness := (true, "85958fa44619ed696bb01fc23d8095cefa7ee7a39ff6a583f353e0aec534243e"), looks := false }, kinds := [], alts := [], laidByText := true, laidKinds := [.data, .data], laidTests := true, laidLooks := .later }
def KeccakConstantsUptoCardSaid : Prop := Claim7.holds Tryd.pinned (.plain (OpenSpec.upto keccakConstantsSpec)) keccakConstantsUptoCard

/-- THE SECOND FORM's CARD OF 'avouchlaw06.KeccakBytes'. -/
def keccakBytesUptoCard : Claim7 := { stood := { row := keccakBytesUptoRow, standIns := [], harness := (true, "85958fa44619ed696bb01fc23d8095cefa7ee7a39ff6a583f353e0aec534243e"), looks := false }, kinds := [], alts := [], laidByText := true, laidKinds := [.data, .data], laidTests := true, laidLooks := .later }
def KeccakBytesUptoCardSaid : Prop := Claim7.holds Tryd.pinned (.plain (OpenSpec.upto keccakBytesSpec)) keccakBytesUptoCard

/-- THE SECOND FORM's CARD OF 'avouchlaw06.KeccakUnlike'. -/
def keccakUnlikeUptoCard : Claim7 := { stood := { row := keccakUnlikeUptoRow, standIns := [], harness := (true, "85958fa44619ed696bb01fc23d8095cefa7ee7a39ff6a583f353e0aec534243e"), looks := false }, kinds := [], alts := [], laidByText := true, laidKinds := [.data, .data], laidTests := true, laidLooks := .later }
def KeccakUnlikeUptoCardSaid : Prop := Claim7.holds Tryd.pinned (.plain (OpenSpec.upto keccakUnlikeSpec)) keccakUnlikeUptoCard

/-- THE SECOND FORM's CARD OF 'avouchlaw06.KeccakIota'. -/
def keccakIotaUptoCard : Claim7 := { stood := { row := keccakIotaUptoRow, standIns := [], harness := (true, "85958fa44619ed696bb01fc23d8095cefa7ee7a39ff6a583f353e0aec534243e"), looks := false }, kinds := [], alts := [], laidByText := true, laidKinds := [.data, .data], laidTests := true, laidLooks := .later }
def KeccakIotaUptoCardSaid : Prop := Claim7.holds Tryd.pinned (.plain (OpenSpec.upto keccakIotaSpec)) keccakIotaUptoCard
end Rows
end Go.Proofs.YtpilbpkblcmngaaDoor
