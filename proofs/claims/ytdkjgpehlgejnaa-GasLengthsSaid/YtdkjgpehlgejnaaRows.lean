/-
  No cell of these rows narrows 'for every input' (looked for: loops, veiled, ifaces, maps, wideKeys, modest, calm, conditions, laid).
  DERIVED. THE GIVEN ROWS OF THIS SEAT. 6 by the template 'for every input the law returns true; each argument reads behind the call as it read before'; 0 by the template 'total and deterministic' (their statements: YtdkjgpehlgejnaaTotals.lean).
  GIVEN WITH THE SEED: the statements are not yours to turn. If you find one false, say at which input.
  Laid BY PROGRAM, IN A SANDBOX (cutbox-rows.mjs): the forced cells as the released guide's own fill.sh prints them over the translation 8500b4b01e0b3650… (all of the seat's roots in one cut). By AI agents, Wed Nov 11 2026. No macro, syntax, notation, axiom, sorry.
-/
import Derived.Test.YtdkjgpehlgejnaaChecked
import GoSem.Claim
import GoSem.ClaimJoined
import GoSem.ClaimMapViews
import Derived.JoinedTies
import Derived.KernelRfl
namespace Go.Proofs.Ytdkjgpehlgejnaa
/- THE CELL 'sum', in the pinned program and in every row, IS THE sha256 OF THE DUMP (.gsa) THAT YtdkjgpehlgejnaaProg.lean LOADS. Nothing in Lean hashes anything: it is a label: what it is worth is what the hold of that sum in a sandbox is worth. -/
noncomputable def Try.pinned : Pinned := { name := "ytdkjgpehlgejnaa", sum := "8500b4b01e0b3650a4b3a279d8aefe4f9a365bd47947acd0e86baa1b9940c3e5", checked := Try.checked }
namespace Rows
def none {H : Type} : Left H := { results := [], args := [] }

/-- 'smithylaw12.GasLengths': WHATEVER THE INPUT: true; the input reads as it did. -/
def gasLengthsSpec : ChangeSpec := { name := "gasLengths", fn := fun _ => fun
  | [d1, d2, d3, d4] => { results := [.lit (.bool true)], args := [d1, d2, d3, d4] }
  | _ => none }
def gasLengthsRow : OpenClaim := { program := "ytdkjgpehlgejnaa", sum := "8500b4b01e0b3650a4b3a279d8aefe4f9a365bd47947acd0e86baa1b9940c3e5", func := "smithy/smithylaw12.GasLengths", spec := "gasLengths", apart := false }
def GasLengthsSaid : Prop := gasLengthsRow.holds Try.pinned (OpenSpec.ofChange gasLengthsSpec)

/-- ITS FALSE NEIGHBOUR: 'it returns false'. Refute it at one input. -/
def gasLengthsWrong : ChangeSpec := { name := "gasLengths", fn := fun _ => fun
  | [d1, d2, d3, d4] => { results := [.lit (.bool false)], args := [d1, d2, d3, d4] }
  | _ => none }
def GasLengthsWrongFalsely : Prop := gasLengthsRow.holds Try.pinned (OpenSpec.ofChange gasLengthsWrong)

/-- 'smithylaw12.GasAccounts': WHATEVER THE INPUT: true; the input reads as it did. -/
def gasAccountsSpec : ChangeSpec := { name := "gasAccounts", fn := fun _ => fun
  | [d1, d2, d3] => { results := [.lit (.bool true)], args := [d1, d2, d3] }
  | _ => none }
def gasAccountsRow : OpenClaim := { program := "ytdkjgpehlgejnaa", sum := "8500b4b01e0b3650a4b3a279d8aefe4f9a365bd47947acd0e86baa1b9940c3e5", func := "smithy/smithylaw12.GasAccounts", spec := "gasAccounts", apart := false }
def GasAccountsSaid : Prop := gasAccountsRow.holds Try.pinned (OpenSpec.ofChange gasAccountsSpec)

/-- ITS FALSE NEIGHBOUR: 'it returns false'. Refute it at one input. -/
def gasAccountsWrong : ChangeSpec := { name := "gasAccounts", fn := fun _ => fun
  | [d1, d2, d3] => { results := [.lit (.bool false)], args := [d1, d2, d3] }
  | _ => none }
def GasAccountsWrongFalsely : Prop := gasAccountsRow.holds Try.pinned (OpenSpec.ofChange gasAccountsWrong)

/-- 'smithylaw12.GasStores': WHATEVER THE INPUT: true; the input reads as it did. -/
def gasStoresSpec : ChangeSpec := { name := "gasStores", fn := fun _ => fun
  | [d1, d2, d3, d4] => { results := [.lit (.bool true)], args := [d1, d2, d3, d4] }
  | _ => none }
def gasStoresRow : OpenClaim := { program := "ytdkjgpehlgejnaa", sum := "8500b4b01e0b3650a4b3a279d8aefe4f9a365bd47947acd0e86baa1b9940c3e5", func := "smithy/smithylaw12.GasStores", spec := "gasStores", apart := false }
def GasStoresSaid : Prop := gasStoresRow.holds Try.pinned (OpenSpec.ofChange gasStoresSpec)

/-- ITS FALSE NEIGHBOUR: 'it returns false'. Refute it at one input. -/
def gasStoresWrong : ChangeSpec := { name := "gasStores", fn := fun _ => fun
  | [d1, d2, d3, d4] => { results := [.lit (.bool false)], args := [d1, d2, d3, d4] }
  | _ => none }
def GasStoresWrongFalsely : Prop := gasStoresRow.holds Try.pinned (OpenSpec.ofChange gasStoresWrong)

/-- 'smithylaw12.GasNever': WHATEVER THE INPUT: true; the input reads as it did. -/
def gasNeverSpec : ChangeSpec := { name := "gasNever", fn := fun _ => fun
  | [d1, d2] => { results := [.lit (.bool true)], args := [d1, d2] }
  | _ => none }
def gasNeverRow : OpenClaim := { program := "ytdkjgpehlgejnaa", sum := "8500b4b01e0b3650a4b3a279d8aefe4f9a365bd47947acd0e86baa1b9940c3e5", func := "smithy/smithylaw12.GasNever", spec := "gasNever", apart := false }
def GasNeverSaid : Prop := gasNeverRow.holds Try.pinned (OpenSpec.ofChange gasNeverSpec)

/-- ITS FALSE NEIGHBOUR: 'it returns false'. Refute it at one input. -/
def gasNeverWrong : ChangeSpec := { name := "gasNever", fn := fun _ => fun
  | [d1, d2] => { results := [.lit (.bool false)], args := [d1, d2] }
  | _ => none }
def GasNeverWrongFalsely : Prop := gasNeverRow.holds Try.pinned (OpenSpec.ofChange gasNeverWrong)

/-- 'smithylaw12.GasIntrinsic': WHATEVER THE INPUT: true; the input reads as it did. -/
def gasIntrinsicSpec : ChangeSpec := { name := "gasIntrinsic", fn := fun _ => fun
  | [d1, d2, d3, d4] => { results := [.lit (.bool true)], args := [d1, d2, d3, d4] }
  | _ => none }
def gasIntrinsicRow : OpenClaim := { program := "ytdkjgpehlgejnaa", sum := "8500b4b01e0b3650a4b3a279d8aefe4f9a365bd47947acd0e86baa1b9940c3e5", func := "smithy/smithylaw12.GasIntrinsic", spec := "gasIntrinsic", apart := false }
def GasIntrinsicSaid : Prop := gasIntrinsicRow.holds Try.pinned (OpenSpec.ofChange gasIntrinsicSpec)

/-- ITS FALSE NEIGHBOUR: 'it returns false'. Refute it at one input. -/
def gasIntrinsicWrong : ChangeSpec := { name := "gasIntrinsic", fn := fun _ => fun
  | [d1, d2, d3, d4] => { results := [.lit (.bool false)], args := [d1, d2, d3, d4] }
  | _ => none }
def GasIntrinsicWrongFalsely : Prop := gasIntrinsicRow.holds Try.pinned (OpenSpec.ofChange gasIntrinsicWrong)

/-- 'smithylaw12.GasParts': WHATEVER THE INPUT: true; the input reads as it did. -/
def gasPartsSpec : ChangeSpec := { name := "gasParts", fn := fun _ => fun
  | [d1, d2, d3] => { results := [.lit (.bool true)], args := [d1, d2, d3] }
  | _ => none }
def gasPartsRow : OpenClaim := { program := "ytdkjgpehlgejnaa", sum := "8500b4b01e0b3650a4b3a279d8aefe4f9a365bd47947acd0e86baa1b9940c3e5", func := "smithy/smithylaw12.GasParts", spec := "gasParts", apart := false }
def GasPartsSaid : Prop := gasPartsRow.holds Try.pinned (OpenSpec.ofChange gasPartsSpec)

/-- ITS FALSE NEIGHBOUR: 'it returns false'. Refute it at one input. -/
def gasPartsWrong : ChangeSpec := { name := "gasParts", fn := fun _ => fun
  | [d1, d2, d3] => { results := [.lit (.bool false)], args := [d1, d2, d3] }
  | _ => none }
def GasPartsWrongFalsely : Prop := gasPartsRow.holds Try.pinned (OpenSpec.ofChange gasPartsWrong)

/- THE SECOND FORM. 'bulk': how many values and letters a reading holds, each counted each time it is reached (what is shared counts as often as it is met; a slice's spare places count too). A statement '..UptoSaid' is the law's where the arguments, and the package variables that the reading takes, are together of bulk at most 1048576: NARROWER than '..Said'. Prove '..Said' where nothing that the law and all that it calls make is longer than what came in: it says more and counts as full. Else prove '..UptoSaid'. A law counts once. -/
mutual
def uptoBulk {H : Type} : DataW H → Nat
  | .lit (.string bytes) => bytes.length + 1
  | .lit _ => 1
  | .nil => 1
  | .ptr d => uptoBulk d + 1
  | .slice elems spare => uptoBulkAll elems + uptoBulkAll spare + 1
  | .agg parts => uptoBulkAll parts + 1
  | .iface _ d => uptoBulk d + 1
  | .map entries => uptoBulkEntries entries + 1
  | .held _ => 1
def uptoBulkAll {H : Type} : List (DataW H) → Nat
  | [] => 0
  | d :: r => uptoBulk d + uptoBulkAll r
def uptoBulkEntries {H : Type} : List (Lit × DataW H) → Nat
  | [] => 0
  | x :: r => uptoBulkEntry x + uptoBulkEntries r
def uptoBulkEntry {H : Type} : Lit × DataW H → Nat
  | (.string bytes, d) => bytes.length + uptoBulk d + 1
  | (_, d) => uptoBulk d + 1
 end
def uptoSmall : (H : Type) → List (DataW H) → Bool := fun _ ds => decide (uptoBulkAll ds ≤ 1048576)
def OpenSpec.upto (s : _root_.Go.ChangeSpec) : _root_.Go.OpenSpec := { _root_.Go.OpenSpec.ofChange s with cond := some uptoSmall }

/-- 'smithylaw12.GasLengths', WHERE WHAT IT READS IS OF BULK AT MOST 1048576: true; the input reads as it did. -/
def gasLengthsUptoRow : OpenClaim := { program := "ytdkjgpehlgejnaa", sum := "8500b4b01e0b3650a4b3a279d8aefe4f9a365bd47947acd0e86baa1b9940c3e5", func := "smithy/smithylaw12.GasLengths", spec := "gasLengths", apart := false, narrowed := true }
def GasLengthsUptoSaid : Prop := gasLengthsUptoRow.holds Try.pinned (OpenSpec.upto gasLengthsSpec)

/-- 'smithylaw12.GasAccounts', WHERE WHAT IT READS IS OF BULK AT MOST 1048576: true; the input reads as it did. -/
def gasAccountsUptoRow : OpenClaim := { program := "ytdkjgpehlgejnaa", sum := "8500b4b01e0b3650a4b3a279d8aefe4f9a365bd47947acd0e86baa1b9940c3e5", func := "smithy/smithylaw12.GasAccounts", spec := "gasAccounts", apart := false, narrowed := true }
def GasAccountsUptoSaid : Prop := gasAccountsUptoRow.holds Try.pinned (OpenSpec.upto gasAccountsSpec)

/-- 'smithylaw12.GasStores', WHERE WHAT IT READS IS OF BULK AT MOST 1048576: true; the input reads as it did. -/
def gasStoresUptoRow : OpenClaim := { program := "ytdkjgpehlgejnaa", sum := "8500b4b01e0b3650a4b3a279d8aefe4f9a365bd47947acd0e86baa1b9940c3e5", func := "smithy/smithylaw12.GasStores", spec := "gasStores", apart := false, narrowed := true }
def GasStoresUptoSaid : Prop := gasStoresUptoRow.holds Try.pinned (OpenSpec.upto gasStoresSpec)

/-- 'smithylaw12.GasNever', WHERE WHAT IT READS IS OF BULK AT MOST 1048576: true; the input reads as it did. -/
def gasNeverUptoRow : OpenClaim := { program := "ytdkjgpehlgejnaa", sum := "8500b4b01e0b3650a4b3a279d8aefe4f9a365bd47947acd0e86baa1b9940c3e5", func := "smithy/smithylaw12.GasNever", spec := "gasNever", apart := false, narrowed := true }
def GasNeverUptoSaid : Prop := gasNeverUptoRow.holds Try.pinned (OpenSpec.upto gasNeverSpec)

/-- 'smithylaw12.GasIntrinsic', WHERE WHAT IT READS IS OF BULK AT MOST 1048576: true; the input reads as it did. -/
def gasIntrinsicUptoRow : OpenClaim := { program := "ytdkjgpehlgejnaa", sum := "8500b4b01e0b3650a4b3a279d8aefe4f9a365bd47947acd0e86baa1b9940c3e5", func := "smithy/smithylaw12.GasIntrinsic", spec := "gasIntrinsic", apart := false, narrowed := true }
def GasIntrinsicUptoSaid : Prop := gasIntrinsicUptoRow.holds Try.pinned (OpenSpec.upto gasIntrinsicSpec)

/-- 'smithylaw12.GasParts', WHERE WHAT IT READS IS OF BULK AT MOST 1048576: true; the input reads as it did. -/
def gasPartsUptoRow : OpenClaim := { program := "ytdkjgpehlgejnaa", sum := "8500b4b01e0b3650a4b3a279d8aefe4f9a365bd47947acd0e86baa1b9940c3e5", func := "smithy/smithylaw12.GasParts", spec := "gasParts", apart := false, narrowed := true }
def GasPartsUptoSaid : Prop := gasPartsUptoRow.holds Try.pinned (OpenSpec.upto gasPartsSpec)

end Rows
end Go.Proofs.Ytdkjgpehlgejnaa
