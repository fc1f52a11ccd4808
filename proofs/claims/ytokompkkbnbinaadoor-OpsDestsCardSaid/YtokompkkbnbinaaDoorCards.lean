/-
  DERIVED. GIVEN WITH THE SEED: THE CARDS: each row of YtokompkkbnbinaaDoorRows.lean that lists a variable, with what it lists TIED to the program's text (the seventh form; the later family's looks); each row that meets fmt, with fmt's text TOLD by the authors' own Lean function (tested against real Go, not proved from fmt's source: count such statements apart). THE CARD IS WHAT COUNTS. Prove the row's statement (the work); the ties are given (YtokompkkbnbinaaDoorTie.lean); close each card by the builder's one call (the guide's Derived/Test/ToyasCard.lean, 'card_holds'). Laid BY PROGRAM, IN A SANDBOX (cutbox-door.mjs). By AI agents, Wed Nov 11 2026. No macro, syntax, notation, axiom, sorry.
-/
import Derived.Test.YtokompkkbnbinaaDoorRows
import GoSem.ClaimSeven
namespace Go.Proofs.YtokompkkbnbinaaDoor
namespace Rows

/-- THE TIED CARD OF 'smithylaw11.OpsInfo'. -/
def opsInfoCard : Claim7 := { stood := { row := opsInfoRow, standIns := [], harness := (true, "26eb806fddd7e919e424ff995aa9605ab6abb93414e3b07e520a546011724e92"), looks := false }, kinds := [], alts := [], laidByText := true, laidKinds := [.data, .data, .data], laidTests := true, laidLooks := .later }
def OpsInfoCardSaid : Prop := Claim7.holds Tryd.pinned (.plain (OpenSpec.ofChange opsInfoSpec)) opsInfoCard

/-- THE TIED CARD OF 'smithylaw11.OpsDests'. -/
def opsDestsCard : Claim7 := { stood := { row := opsDestsRow, standIns := [], harness := (true, "26eb806fddd7e919e424ff995aa9605ab6abb93414e3b07e520a546011724e92"), looks := false }, kinds := [], alts := [], laidByText := true, laidKinds := [.data, .data, .data], laidTests := true, laidLooks := .later }
def OpsDestsCardSaid : Prop := Claim7.holds Tryd.pinned (.plain (OpenSpec.ofChange opsDestsSpec)) opsDestsCard

/-- THE TIED CARD OF 'smithylaw11.OpsWhole'. -/
def opsWholeCard : Claim7 := { stood := { row := opsWholeRow, standIns := [], harness := (true, "26eb806fddd7e919e424ff995aa9605ab6abb93414e3b07e520a546011724e92"), looks := false }, kinds := [], alts := [], laidByText := true, laidKinds := [.data, .data, .data], laidTests := true, laidLooks := .later }
def OpsWholeCardSaid : Prop := Claim7.holds Tryd.pinned (.plain (OpenSpec.ofChange opsWholeSpec)) opsWholeCard

/-- THE SECOND FORM's CARD OF 'smithylaw11.OpsInfo'. -/
def opsInfoUptoCard : Claim7 := { stood := { row := opsInfoUptoRow, standIns := [], harness := (true, "26eb806fddd7e919e424ff995aa9605ab6abb93414e3b07e520a546011724e92"), looks := false }, kinds := [], alts := [], laidByText := true, laidKinds := [.data, .data, .data], laidTests := true, laidLooks := .later }
def OpsInfoUptoCardSaid : Prop := Claim7.holds Tryd.pinned (.plain (OpenSpec.upto opsInfoSpec)) opsInfoUptoCard

/-- THE SECOND FORM's CARD OF 'smithylaw11.OpsDests'. -/
def opsDestsUptoCard : Claim7 := { stood := { row := opsDestsUptoRow, standIns := [], harness := (true, "26eb806fddd7e919e424ff995aa9605ab6abb93414e3b07e520a546011724e92"), looks := false }, kinds := [], alts := [], laidByText := true, laidKinds := [.data, .data, .data], laidTests := true, laidLooks := .later }
def OpsDestsUptoCardSaid : Prop := Claim7.holds Tryd.pinned (.plain (OpenSpec.upto opsDestsSpec)) opsDestsUptoCard

/-- THE SECOND FORM's CARD OF 'smithylaw11.OpsWhole'. -/
def opsWholeUptoCard : Claim7 := { stood := { row := opsWholeUptoRow, standIns := [], harness := (true, "26eb806fddd7e919e424ff995aa9605ab6abb93414e3b07e520a546011724e92"), looks := false }, kinds := [], alts := [], laidByText := true, laidKinds := [.data, .data, .data], laidTests := true, laidLooks := .later }
def OpsWholeUptoCardSaid : Prop := Claim7.holds Tryd.pinned (.plain (OpenSpec.upto opsWholeSpec)) opsWholeUptoCard
end Rows
end Go.Proofs.YtokompkkbnbinaaDoor
