/-
  DERIVED. GIVEN WITH THE SEED: THE CARDS: each row of YtlplncfonphkeaaDoorRows.lean that lists a variable, with what it lists TIED to the program's text (the seventh form; the later family's looks); each row that meets fmt, with fmt's text TOLD by the authors' own Lean function (tested against real Go, not proved from fmt's source: count such statements apart). THE CARD IS WHAT COUNTS. Prove the row's statement (the work); the ties are given (YtlplncfonphkeaaDoorTie.lean); close each card by the builder's one call (the guide's Derived/Test/ToyasCard.lean, 'card_holds'). Laid BY PROGRAM, IN A SANDBOX (cutbox-door.mjs). By AI agents, Wed Nov 11 2026. No macro, syntax, notation, axiom, sorry.
-/
import Derived.Test.YtlplncfonphkeaaDoorRows
import GoSem.ClaimSeven
namespace Go.Proofs.YtlplncfonphkeaaDoor
namespace Rows

/-- THE TIED CARD OF 'smithylaw04.HexTexts'. -/
def hexTextsCard : Claim7 := { stood := { row := hexTextsRow, standIns := [], harness := (true, "358acfb47ce8a90e76b64e4879ad43dcb669baf2a11d48f3e5b4fd6ff1c679b2"), looks := false }, kinds := [], alts := [], laidByText := true, laidKinds := [.data, .pinned], laidTests := true, laidLooks := .later }
def HexTextsCardSaid : Prop := Claim7.holds Tryd.pinned (.plain (OpenSpec.ofChange hexTextsSpec)) hexTextsCard

/-- THE TIED CARD OF 'smithylaw04.HexReads'. -/
def hexReadsCard : Claim7 := { stood := { row := hexReadsRow, standIns := [], harness := (true, "358acfb47ce8a90e76b64e4879ad43dcb669baf2a11d48f3e5b4fd6ff1c679b2"), looks := false }, kinds := [], alts := [], laidByText := true, laidKinds := [.data, .pinned], laidTests := true, laidLooks := .later }
def HexReadsCardSaid : Prop := Claim7.holds Tryd.pinned (.plain (OpenSpec.ofChange hexReadsSpec)) hexReadsCard

/-- THE TIED CARD OF 'smithylaw04.HexAddresses'. -/
def hexAddressesCard : Claim7 := { stood := { row := hexAddressesRow, standIns := [], harness := (true, "358acfb47ce8a90e76b64e4879ad43dcb669baf2a11d48f3e5b4fd6ff1c679b2"), looks := false }, kinds := [], alts := [], laidByText := true, laidKinds := [.data, .pinned], laidTests := true, laidLooks := .later }
def HexAddressesCardSaid : Prop := Claim7.holds Tryd.pinned (.plain (OpenSpec.ofChange hexAddressesSpec)) hexAddressesCard

/-- THE SECOND FORM's CARD OF 'smithylaw04.HexTexts'. -/
def hexTextsUptoCard : Claim7 := { stood := { row := hexTextsUptoRow, standIns := [], harness := (true, "358acfb47ce8a90e76b64e4879ad43dcb669baf2a11d48f3e5b4fd6ff1c679b2"), looks := false }, kinds := [], alts := [], laidByText := true, laidKinds := [.data, .pinned], laidTests := true, laidLooks := .later }
def HexTextsUptoCardSaid : Prop := Claim7.holds Tryd.pinned (.plain (OpenSpec.upto hexTextsSpec)) hexTextsUptoCard

/-- THE SECOND FORM's CARD OF 'smithylaw04.HexReads'. -/
def hexReadsUptoCard : Claim7 := { stood := { row := hexReadsUptoRow, standIns := [], harness := (true, "358acfb47ce8a90e76b64e4879ad43dcb669baf2a11d48f3e5b4fd6ff1c679b2"), looks := false }, kinds := [], alts := [], laidByText := true, laidKinds := [.data, .pinned], laidTests := true, laidLooks := .later }
def HexReadsUptoCardSaid : Prop := Claim7.holds Tryd.pinned (.plain (OpenSpec.upto hexReadsSpec)) hexReadsUptoCard

/-- THE SECOND FORM's CARD OF 'smithylaw04.HexAddresses'. -/
def hexAddressesUptoCard : Claim7 := { stood := { row := hexAddressesUptoRow, standIns := [], harness := (true, "358acfb47ce8a90e76b64e4879ad43dcb669baf2a11d48f3e5b4fd6ff1c679b2"), looks := false }, kinds := [], alts := [], laidByText := true, laidKinds := [.data, .pinned], laidTests := true, laidLooks := .later }
def HexAddressesUptoCardSaid : Prop := Claim7.holds Tryd.pinned (.plain (OpenSpec.upto hexAddressesSpec)) hexAddressesUptoCard
end Rows
end Go.Proofs.YtlplncfonphkeaaDoor
