/-
  DERIVED. GIVEN WITH THE SEED: THE CARDS: each row of YtihefgpicnhdjaaDoorRows.lean that lists a variable, with what it lists TIED to the program's text (the seventh form; the later family's looks); each row that meets fmt, with fmt's text TOLD by the authors' own Lean function (tested against real Go, not proved from fmt's source: count such statements apart). THE CARD IS WHAT COUNTS. Prove the row's statement (the work); the ties are given (YtihefgpicnhdjaaDoorTie.lean); close each card by the builder's one call (the guide's Derived/Test/ToyasCard.lean, 'card_holds'). Laid BY PROGRAM, IN A SANDBOX (cutbox-door.mjs). By AI agents, Wed Nov 11 2026. No macro, syntax, notation, axiom, sorry.
-/
import Derived.Test.YtihefgpicnhdjaaDoorRows
import GoSem.ClaimSeven
namespace Go.Proofs.YtihefgpicnhdjaaDoor
namespace Rows

/-- THE TIED CARD OF 'smithylaw16.PrecRuns'. -/
def precRunsCard : Claim7 := { stood := { row := precRunsRow, standIns := [], harness := (true, "6d840b2ac7c51180e13f7a098f3e4a9a896b6e379472527d7da22ea3aa3447ba"), looks := false }, kinds := [], alts := [], laidByText := true, laidKinds := [.data], laidTests := true, laidLooks := .later }
def PrecRunsCardSaid : Prop := Claim7.holds Tryd.pinned (.plain (OpenSpec.ofChange precRunsSpec)) precRunsCard

/-- THE TIED CARD OF 'smithylaw16.PrecPaid'. -/
def precPaidCard : Claim7 := { stood := { row := precPaidRow, standIns := [], harness := (true, "6d840b2ac7c51180e13f7a098f3e4a9a896b6e379472527d7da22ea3aa3447ba"), looks := false }, kinds := [], alts := [], laidByText := true, laidKinds := [.data], laidTests := true, laidLooks := .later }
def PrecPaidCardSaid : Prop := Claim7.holds Tryd.pinned (.plain (OpenSpec.ofChange precPaidSpec)) precPaidCard

/-- THE SECOND FORM's CARD OF 'smithylaw16.PrecRuns'. -/
def precRunsUptoCard : Claim7 := { stood := { row := precRunsUptoRow, standIns := [], harness := (true, "6d840b2ac7c51180e13f7a098f3e4a9a896b6e379472527d7da22ea3aa3447ba"), looks := false }, kinds := [], alts := [], laidByText := true, laidKinds := [.data], laidTests := true, laidLooks := .later }
def PrecRunsUptoCardSaid : Prop := Claim7.holds Tryd.pinned (.plain (OpenSpec.upto precRunsSpec)) precRunsUptoCard

/-- THE SECOND FORM's CARD OF 'smithylaw16.PrecPaid'. -/
def precPaidUptoCard : Claim7 := { stood := { row := precPaidUptoRow, standIns := [], harness := (true, "6d840b2ac7c51180e13f7a098f3e4a9a896b6e379472527d7da22ea3aa3447ba"), looks := false }, kinds := [], alts := [], laidByText := true, laidKinds := [.data], laidTests := true, laidLooks := .later }
def PrecPaidUptoCardSaid : Prop := Claim7.holds Tryd.pinned (.plain (OpenSpec.upto precPaidSpec)) precPaidUptoCard
end Rows
end Go.Proofs.YtihefgpicnhdjaaDoor
