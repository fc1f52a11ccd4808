/-
  No cell of these rows narrows 'for every input' (looked for: loops, veiled, ifaces, maps, wideKeys, modest, calm, conditions, laid).
  DERIVED. THE GIVEN ROWS OF THIS SEAT. 5 by the template 'for every input the law returns true; each argument reads behind the call as it read before'; 0 by the template 'total and deterministic' (their statements: YtflpdlpfclbcgaaTotals.lean).
  GIVEN WITH THE SEED: the statements are not yours to turn. If you find one false, say at which input.
  Laid BY PROGRAM, IN A SANDBOX (cutbox-rows.mjs): the forced cells as the released guide's own fill.sh prints them over the translation f4dbcb1dbb473f49… (all of the seat's roots in one cut). By AI agents, Wed Nov 11 2026. No macro, syntax, notation, axiom, sorry.
-/
import Derived.Test.YtflpdlpfclbcgaaChecked
import GoSem.Claim
import GoSem.ClaimJoined
import GoSem.ClaimMapViews
import Derived.JoinedTies
import Derived.KernelRfl
namespace Go.Proofs.Ytflpdlpfclbcgaa
/- THE CELL 'sum', in the pinned program and in every row, IS THE sha256 OF THE DUMP (.gsa) THAT YtflpdlpfclbcgaaProg.lean LOADS. Nothing in Lean hashes anything: it is a label: what it is worth is what the hold of that sum in a sandbox is worth. -/
noncomputable def Try.pinned : Pinned := { name := "ytflpdlpfclbcgaa", sum := "f4dbcb1dbb473f4912a3f4cf448fec3416543d64164758bead9d17b280872ca6", checked := Try.checked }
namespace Rows
def none {H : Type} : Left H := { results := [], args := [] }

/-- 'smithylaw09.ModexpPowers': WHATEVER THE INPUT: true; the input reads as it did. -/
def modexpPowersSpec : ChangeSpec := { name := "modexpPowers", fn := fun _ => fun
  | [d1, d2, d3] => { results := [.lit (.bool true)], args := [d1, d2, d3] }
  | _ => none }
def modexpPowersRow : OpenClaim := { program := "ytflpdlpfclbcgaa", sum := "f4dbcb1dbb473f4912a3f4cf448fec3416543d64164758bead9d17b280872ca6", func := "smithy/smithylaw09.ModexpPowers", spec := "modexpPowers", inPlace := ["math/bits.Add64", "math/bits.Sub64"], named := ["math/bits.divideError", "math/bits.overflowError"], apart := false }
def ModexpPowersSaid : Prop := modexpPowersRow.holds Try.pinned (OpenSpec.ofChange modexpPowersSpec)

/-- ITS FALSE NEIGHBOUR: 'it returns false'. Refute it at one input. -/
def modexpPowersWrong : ChangeSpec := { name := "modexpPowers", fn := fun _ => fun
  | [d1, d2, d3] => { results := [.lit (.bool false)], args := [d1, d2, d3] }
  | _ => none }
def ModexpPowersWrongFalsely : Prop := modexpPowersRow.holds Try.pinned (OpenSpec.ofChange modexpPowersWrong)

/-- 'smithylaw09.ModexpBytes': WHATEVER THE INPUT: true; the input reads as it did. -/
def modexpBytesSpec : ChangeSpec := { name := "modexpBytes", fn := fun _ => fun
  | [d1, d2, d3, d4] => { results := [.lit (.bool true)], args := [d1, d2, d3, d4] }
  | _ => none }
def modexpBytesRow : OpenClaim := { program := "ytflpdlpfclbcgaa", sum := "f4dbcb1dbb473f4912a3f4cf448fec3416543d64164758bead9d17b280872ca6", func := "smithy/smithylaw09.ModexpBytes", spec := "modexpBytes", inPlace := ["math/bits.Add64", "math/bits.Sub64"], named := ["math/bits.divideError", "math/bits.overflowError"], apart := false }
def ModexpBytesSaid : Prop := modexpBytesRow.holds Try.pinned (OpenSpec.ofChange modexpBytesSpec)

/-- ITS FALSE NEIGHBOUR: 'it returns false'. Refute it at one input. -/
def modexpBytesWrong : ChangeSpec := { name := "modexpBytes", fn := fun _ => fun
  | [d1, d2, d3, d4] => { results := [.lit (.bool false)], args := [d1, d2, d3, d4] }
  | _ => none }
def ModexpBytesWrongFalsely : Prop := modexpBytesRow.holds Try.pinned (OpenSpec.ofChange modexpBytesWrong)

/-- 'smithylaw09.ModexpNoughts': WHATEVER THE INPUT: true; the input reads as it did. -/
def modexpNoughtsSpec : ChangeSpec := { name := "modexpNoughts", fn := fun _ => fun
  | [d1, d2, d3, d4] => { results := [.lit (.bool true)], args := [d1, d2, d3, d4] }
  | _ => none }
def modexpNoughtsRow : OpenClaim := { program := "ytflpdlpfclbcgaa", sum := "f4dbcb1dbb473f4912a3f4cf448fec3416543d64164758bead9d17b280872ca6", func := "smithy/smithylaw09.ModexpNoughts", spec := "modexpNoughts", inPlace := ["math/bits.Add64", "math/bits.Sub64"], named := ["math/bits.divideError", "math/bits.overflowError"], apart := false }
def ModexpNoughtsSaid : Prop := modexpNoughtsRow.holds Try.pinned (OpenSpec.ofChange modexpNoughtsSpec)

/-- ITS FALSE NEIGHBOUR: 'it returns false'. Refute it at one input. -/
def modexpNoughtsWrong : ChangeSpec := { name := "modexpNoughts", fn := fun _ => fun
  | [d1, d2, d3, d4] => { results := [.lit (.bool false)], args := [d1, d2, d3, d4] }
  | _ => none }
def ModexpNoughtsWrongFalsely : Prop := modexpNoughtsRow.holds Try.pinned (OpenSpec.ofChange modexpNoughtsWrong)

/-- 'smithylaw09.ModexpGas': WHATEVER THE INPUT: true; the input reads as it did. -/
def modexpGasSpec : ChangeSpec := { name := "modexpGas", fn := fun _ => fun
  | [d] => { results := [.lit (.bool true)], args := [d] }
  | _ => none }
def modexpGasRow : OpenClaim := { program := "ytflpdlpfclbcgaa", sum := "f4dbcb1dbb473f4912a3f4cf448fec3416543d64164758bead9d17b280872ca6", func := "smithy/smithylaw09.ModexpGas", spec := "modexpGas", inPlace := ["math/bits.Add64", "math/bits.Sub64"], named := ["math/bits.divideError", "math/bits.overflowError"], apart := false }
def ModexpGasSaid : Prop := modexpGasRow.holds Try.pinned (OpenSpec.ofChange modexpGasSpec)

/-- ITS FALSE NEIGHBOUR: 'it returns false'. Refute it at one input. -/
def modexpGasWrong : ChangeSpec := { name := "modexpGas", fn := fun _ => fun
  | [d] => { results := [.lit (.bool false)], args := [d] }
  | _ => none }
def ModexpGasWrongFalsely : Prop := modexpGasRow.holds Try.pinned (OpenSpec.ofChange modexpGasWrong)

/-- 'smithylaw09.ModexpRuns': WHATEVER THE INPUT: true; the input reads as it did. -/
def modexpRunsSpec : ChangeSpec := { name := "modexpRuns", fn := fun _ => fun
  | [d] => { results := [.lit (.bool true)], args := [d] }
  | _ => none }
def modexpRunsRow : OpenClaim := { program := "ytflpdlpfclbcgaa", sum := "f4dbcb1dbb473f4912a3f4cf448fec3416543d64164758bead9d17b280872ca6", func := "smithy/smithylaw09.ModexpRuns", spec := "modexpRuns", inPlace := ["math/bits.Add64", "math/bits.Sub64"], named := ["math/bits.divideError", "math/bits.overflowError"], apart := false }
def ModexpRunsSaid : Prop := modexpRunsRow.holds Try.pinned (OpenSpec.ofChange modexpRunsSpec)

/-- ITS FALSE NEIGHBOUR: 'it returns false'. Refute it at one input. -/
def modexpRunsWrong : ChangeSpec := { name := "modexpRuns", fn := fun _ => fun
  | [d] => { results := [.lit (.bool false)], args := [d] }
  | _ => none }
def ModexpRunsWrongFalsely : Prop := modexpRunsRow.holds Try.pinned (OpenSpec.ofChange modexpRunsWrong)

/- THE SECOND FORM. 'bulk': how many values and letters a reading holds, each counted each time it is reached (what is shared counts as often as it is met; a slice's spare places count too). A statement '..UptoSaid' is the law's where the arguments, and the package variables that the reading takes, are together of bulk at most 1048576: NARROWER than '..Said'. Prove '..Said' where nothing that the law and all that it calls make is longer than what came in: it says more and counts as full. Else prove '..UptoSaid'. A law counts once. -/
mutual
def uptoBulk {H : Type} : DataW H → Nat
  | .lit (.string bytes) => bytes.length + 1
  | .lit _ => 1
  | .nil => 1
  | .ptr d => uptoBulk d + 1
  | .slice elems spare => uptoBulkAll elems + uptoBulkAll spare + 1
  | .agg parts => uptoBulkAll parts + 1
  | .iface _ d => uptoBulk d + 1
  | .map entries => uptoBulkEntries entries + 1
  | .held _ => 1
def uptoBulkAll {H : Type} : List (DataW H) → Nat
  | [] => 0
  | d :: r => uptoBulk d + uptoBulkAll r
def uptoBulkEntries {H : Type} : List (Lit × DataW H) → Nat
  | [] => 0
  | x :: r => uptoBulkEntry x + uptoBulkEntries r
def uptoBulkEntry {H : Type} : Lit × DataW H → Nat
  | (.string bytes, d) => bytes.length + uptoBulk d + 1
  | (_, d) => uptoBulk d + 1
 end
def uptoSmall : (H : Type) → List (DataW H) → Bool := fun _ ds => decide (uptoBulkAll ds ≤ 1048576)
def OpenSpec.upto (s : _root_.Go.ChangeSpec) : _root_.Go.OpenSpec := { _root_.Go.OpenSpec.ofChange s with cond := some uptoSmall }

/-- 'smithylaw09.ModexpPowers', WHERE WHAT IT READS IS OF BULK AT MOST 1048576: true; the input reads as it did. -/
def modexpPowersUptoRow : OpenClaim := { program := "ytflpdlpfclbcgaa", sum := "f4dbcb1dbb473f4912a3f4cf448fec3416543d64164758bead9d17b280872ca6", func := "smithy/smithylaw09.ModexpPowers", spec := "modexpPowers", inPlace := ["math/bits.Add64", "math/bits.Sub64"], named := ["math/bits.divideError", "math/bits.overflowError"], apart := false, narrowed := true }
def ModexpPowersUptoSaid : Prop := modexpPowersUptoRow.holds Try.pinned (OpenSpec.upto modexpPowersSpec)

/-- 'smithylaw09.ModexpBytes', WHERE WHAT IT READS IS OF BULK AT MOST 1048576: true; the input reads as it did. -/
def modexpBytesUptoRow : OpenClaim := { program := "ytflpdlpfclbcgaa", sum := "f4dbcb1dbb473f4912a3f4cf448fec3416543d64164758bead9d17b280872ca6", func := "smithy/smithylaw09.ModexpBytes", spec := "modexpBytes", inPlace := ["math/bits.Add64", "math/bits.Sub64"], named := ["math/bits.divideError", "math/bits.overflowError"], apart := false, narrowed := true }
def ModexpBytesUptoSaid : Prop := modexpBytesUptoRow.holds Try.pinned (OpenSpec.upto modexpBytesSpec)

/-- 'smithylaw09.ModexpNoughts', WHERE WHAT IT READS IS OF BULK AT MOST 1048576: true; the input reads as it did. -/
def modexpNoughtsUptoRow : OpenClaim := { program := "ytflpdlpfclbcgaa", sum := "f4dbcb1dbb473f4912a3f4cf448fec3416543d64164758bead9d17b280872ca6", func := "smithy/smithylaw09.ModexpNoughts", spec := "modexpNoughts", inPlace := ["math/bits.Add64", "math/bits.Sub64"], named := ["math/bits.divideError", "math/bits.overflowError"], apart := false, narrowed := true }
def ModexpNoughtsUptoSaid : Prop := modexpNoughtsUptoRow.holds Try.pinned (OpenSpec.upto modexpNoughtsSpec)

/-- 'smithylaw09.ModexpGas', WHERE WHAT IT READS IS OF BULK AT MOST 1048576: true; the input reads as it did. -/
def modexpGasUptoRow : OpenClaim := { program := "ytflpdlpfclbcgaa", sum := "f4dbcb1dbb473f4912a3f4cf448fec3416543d64164758bead9d17b280872ca6", func := "smithy/smithylaw09.ModexpGas", spec := "modexpGas", inPlace := ["math/bits.Add64", "math/bits.Sub64"], named := ["math/bits.divideError", "math/bits.overflowError"], apart := false, narrowed := true }
def ModexpGasUptoSaid : Prop := modexpGasUptoRow.holds Try.pinned (OpenSpec.upto modexpGasSpec)

/-- 'smithylaw09.ModexpRuns', WHERE WHAT IT READS IS OF BULK AT MOST 1048576: true; the input reads as it did. -/
def modexpRunsUptoRow : OpenClaim := { program := "ytflpdlpfclbcgaa", sum := "f4dbcb1dbb473f4912a3f4cf448fec3416543d64164758bead9d17b280872ca6", func := "smithy/smithylaw09.ModexpRuns", spec := "modexpRuns", inPlace := ["math/bits.Add64", "math/bits.Sub64"], named := ["math/bits.divideError", "math/bits.overflowError"], apart := false, narrowed := true }
def ModexpRunsUptoSaid : Prop := modexpRunsUptoRow.holds Try.pinned (OpenSpec.upto modexpRunsSpec)

end Rows
end Go.Proofs.Ytflpdlpfclbcgaa
