/-
  DERIVED. GIVEN WITH THE SEED: THE CARDS: each row of YtmcbaolecmkpdaaDoorRows.lean that lists a variable, with what it lists TIED to the program's text (the seventh form; the later family's looks); each row that meets fmt, with fmt's text TOLD by the authors' own Lean function (tested against real Go, not proved from fmt's source: count such statements apart). THE CARD IS WHAT COUNTS. Prove the row's statement (the work); the ties are given (YtmcbaolecmkpdaaDoorTie.lean); close each card by the builder's one call (the guide's Derived/Test/ToyasCard.lean, 'card_holds'). Laid BY PROGRAM, IN A SANDBOX (cutbox-door.mjs). By AI agents, Wed Nov 11 2026. No macro, syntax, notation, axiom, sorry.
-/
import Derived.Test.YtmcbaolecmkpdaaDoorRows
import GoSem.ClaimSeven
namespace Go.Proofs.YtmcbaolecmkpdaaDoor
namespace Rows

/-- THE TIED CARD OF 'smithylaw08.AddrWords'. -/
def addrWordsCard : Claim7 := { stood := { row := addrWordsRow, standIns := [], harness := (true, "fde04bafc3f5244bdb22891e91a1ab31de7f79208def101058a3a6d11fd8556c"), looks := false }, kinds := [], alts := [], laidByText := true, laidKinds := [.data, .data], laidTests := true, laidLooks := .later }
def AddrWordsCardSaid : Prop := Claim7.holds Tryd.pinned (.plain (OpenSpec.ofChange addrWordsSpec)) addrWordsCard

/-- THE TIED CARD OF 'smithylaw08.AddrCreates'. -/
def addrCreatesCard : Claim7 := { stood := { row := addrCreatesRow, standIns := [], harness := (true, "fde04bafc3f5244bdb22891e91a1ab31de7f79208def101058a3a6d11fd8556c"), looks := false }, kinds := [], alts := [], laidByText := true, laidKinds := [.data, .data], laidTests := true, laidLooks := .later }
def AddrCreatesCardSaid : Prop := Claim7.holds Tryd.pinned (.plain (OpenSpec.ofChange addrCreatesSpec)) addrCreatesCard

/-- THE TIED CARD OF 'smithylaw08.AddrSalts'. -/
def addrSaltsCard : Claim7 := { stood := { row := addrSaltsRow, standIns := [], harness := (true, "fde04bafc3f5244bdb22891e91a1ab31de7f79208def101058a3a6d11fd8556c"), looks := false }, kinds := [], alts := [], laidByText := true, laidKinds := [.data, .data], laidTests := true, laidLooks := .later }
def AddrSaltsCardSaid : Prop := Claim7.holds Tryd.pinned (.plain (OpenSpec.ofChange addrSaltsSpec)) addrSaltsCard

/-- THE TIED CARD OF 'smithylaw08.AddrOrder'. -/
def addrOrderCard : Claim7 := { stood := { row := addrOrderRow, standIns := [], harness := (true, "fde04bafc3f5244bdb22891e91a1ab31de7f79208def101058a3a6d11fd8556c"), looks := false }, kinds := [], alts := [], laidByText := true, laidKinds := [.data, .data], laidTests := true, laidLooks := .later }
def AddrOrderCardSaid : Prop := Claim7.holds Tryd.pinned (.plain (OpenSpec.ofChange addrOrderSpec)) addrOrderCard

/-- THE SECOND FORM's CARD OF 'smithylaw08.AddrWords'. -/
def addrWordsUptoCard : Claim7 := { stood := { row := addrWordsUptoRow, standIns := [], harness := (true, "fde04bafc3f5244bdb22891e91a1ab31de7f79208def101058a3a6d11fd8556c"), looks := false }, kinds := [], alts := [], laidByText := true, laidKinds := [.data, .data], laidTests := true, laidLooks := .later }
def AddrWordsUptoCardSaid : Prop := Claim7.holds Tryd.pinned (.plain (OpenSpec.upto addrWordsSpec)) addrWordsUptoCard

/-- THE SECOND FORM's CARD OF 'smithylaw08.AddrCreates'. -/
def addrCreatesUptoCard : Claim7 := { stood := { row := addrCreatesUptoRow, standIns := [], harness := (true, "fde04bafc3f5244bdb22891e91a1ab31de7f79208def101058a3a6d11fd8556c"), looks := false }, kinds := [], alts := [], laidByText := true, laidKinds := [.data, .data], laidTests := true, laidLooks := .later }
def AddrCreatesUptoCardSaid : Prop := Claim7.holds Tryd.pinned (.plain (OpenSpec.upto addrCreatesSpec)) addrCreatesUptoCard

/-- THE SECOND FORM's CARD OF 'smithylaw08.AddrSalts'. -/
def addrSaltsUptoCard : Claim7 := { stood := { row := addrSaltsUptoRow, standIns := [], harness := (true, "fde04bafc3f5244bdb22891e91a1ab31de7f79208def101058a3a6d11fd8556c"), looks := false }, kinds := [], alts := [], laidByText := true, laidKinds := [.data, .data], laidTests := true, laidLooks := .later }
def AddrSaltsUptoCardSaid : Prop := Claim7.holds Tryd.pinned (.plain (OpenSpec.upto addrSaltsSpec)) addrSaltsUptoCard

/-- THE SECOND FORM's CARD OF 'smithylaw08.AddrOrder'. -/
def addrOrderUptoCard : Claim7 := { stood := { row := addrOrderUptoRow, standIns := [], harness := (true, "fde04bafc3f5244bdb22891e91a1ab31de7f79208def101058a3a6d11fd8556c"), looks := false }, kinds := [], alts := [], laidByText := true, laidKinds := [.data, .data], laidTests := true, laidLooks := .later }
def AddrOrderUptoCardSaid : Prop := Claim7.holds Tryd.pinned (.plain (OpenSpec.upto addrOrderSpec)) addrOrderUptoCard
end Rows
end Go.Proofs.YtmcbaolecmkpdaaDoor
