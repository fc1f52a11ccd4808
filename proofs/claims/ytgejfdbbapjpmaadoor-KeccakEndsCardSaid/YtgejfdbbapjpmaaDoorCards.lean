/-
  DERIVED. GIVEN WITH THE SEED: THE CARDS: each row of YtgejfdbbapjpmaaDoorRows.lean that lists a variable, with what it lists TIED to the program's text (the seventh form; the later family's looks); each row that meets fmt, with fmt's text TOLD by the authors' own Lean function (tested against real Go, not proved from fmt's source: count such statements apart). THE CARD IS WHAT COUNTS. Prove the row's statement (the work); the ties are given (YtgejfdbbapjpmaaDoorTie.lean); close each card by the builder's one call (the guide's Derived/Test/ToyasCard.lean, 'card_holds'). Laid BY PROGRAM, IN A SANDBOX (cutbox-door.mjs). By AI agents, Wed Nov 11 2026. No macro, syntax, notation, axiom, sorry.
-/
import Derived.Test.YtgejfdbbapjpmaaDoorRows
import GoSem.ClaimSeven
namespace Go.Proofs.YtgejfdbbapjpmaaDoor
namespace Rows

/-- THE TIED CARD OF 'smithylaw05.KeccakTurns'. -/
def keccakTurnsCard : Claim7 := { stood := { row := keccakTurnsRow, standIns := [], harness := (true, "3583bed672a7fb28c71243afb387cfb7ad1893e1010f95751d7fef02b8b8b789"), looks := false }, kinds := [], alts := [], laidByText := true, laidKinds := [.data, .data], laidTests := true, laidLooks := .later }
def KeccakTurnsCardSaid : Prop := Claim7.holds Tryd.pinned (.plain (OpenSpec.ofChange keccakTurnsSpec)) keccakTurnsCard

/-- THE TIED CARD OF 'smithylaw05.KeccakSums'. -/
def keccakSumsCard : Claim7 := { stood := { row := keccakSumsRow, standIns := [], harness := (true, "3583bed672a7fb28c71243afb387cfb7ad1893e1010f95751d7fef02b8b8b789"), looks := false }, kinds := [], alts := [], laidByText := true, laidKinds := [.data, .data], laidTests := true, laidLooks := .later }
def KeccakSumsCardSaid : Prop := Claim7.holds Tryd.pinned (.plain (OpenSpec.ofChange keccakSumsSpec)) keccakSumsCard

/-- THE TIED CARD OF 'smithylaw05.KeccakEnds'. -/
def keccakEndsCard : Claim7 := { stood := { row := keccakEndsRow, standIns := [], harness := (true, "3583bed672a7fb28c71243afb387cfb7ad1893e1010f95751d7fef02b8b8b789"), looks := false }, kinds := [], alts := [], laidByText := true, laidKinds := [.data, .data], laidTests := true, laidLooks := .later }
def KeccakEndsCardSaid : Prop := Claim7.holds Tryd.pinned (.plain (OpenSpec.ofChange keccakEndsSpec)) keccakEndsCard

/-- THE SECOND FORM's CARD OF 'smithylaw05.KeccakTurns'. -/
def keccakTurnsUptoCard : Claim7 := { stood := { row := keccakTurnsUptoRow, standIns := [], harness := (true, "3583bed672a7fb28c71243afb387cfb7ad1893e1010f95751d7fef02b8b8b789"), looks := false }, kinds := [], alts := [], laidByText := true, laidKinds := [.data, .data], laidTests := true, laidLooks := .later }
def KeccakTurnsUptoCardSaid : Prop := Claim7.holds Tryd.pinned (.plain (OpenSpec.upto keccakTurnsSpec)) keccakTurnsUptoCard

/-- THE SECOND FORM's CARD OF 'smithylaw05.KeccakSums'. -/
def keccakSumsUptoCard : Claim7 := { stood := { row := keccakSumsUptoRow, standIns := [], harness := (true, "3583bed672a7fb28c71243afb387cfb7ad1893e1010f95751d7fef02b8b8b789"), looks := false }, kinds := [], alts := [], laidByText := true, laidKinds := [.data, .data], laidTests := true, laidLooks := .later }
def KeccakSumsUptoCardSaid : Prop := Claim7.holds Tryd.pinned (.plain (OpenSpec.upto keccakSumsSpec)) keccakSumsUptoCard

/-- THE SECOND FORM's CARD OF 'smithylaw05.KeccakEnds'. -/
def keccakEndsUptoCard : Claim7 := { stood := { row := keccakEndsUptoRow, standIns := [], harness := (true, "3583bed672a7fb28c71243afb387cfb7ad1893e1010f95751d7fef02b8b8b789"), looks := false }, kinds := [], alts := [], laidByText := true, laidKinds := [.data, .data], laidTests := true, laidLooks := .later }
def KeccakEndsUptoCardSaid : Prop := Claim7.holds Tryd.pinned (.plain (OpenSpec.upto keccakEndsSpec)) keccakEndsUptoCard
end Rows
end Go.Proofs.YtgejfdbbapjpmaaDoor
