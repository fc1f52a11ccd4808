/-
  No cell of these rows narrows 'for every input' (looked for: loops, veiled, ifaces, maps, wideKeys, modest, calm, conditions, laid).
  DERIVED. THE GIVEN ROWS OF THIS SEAT. 4 by the template 'for every input the law returns true; each argument reads behind the call as it read before'; 0 by the template 'total and deterministic' (their statements: YtfpeliolngfkpaaTotals.lean).
  GIVEN WITH THE SEED: the statements are not yours to turn. If you find one false, say at which input.
  Laid BY PROGRAM, IN A SANDBOX (cutbox-rows.mjs): the forced cells as the released guide's own fill.sh prints them over the translation dcec98cc09944487… (all of the seat's roots in one cut). By AI agents, Wed Nov 11 2026. No macro, syntax, notation, axiom, sorry.
-/
import Derived.Test.YtfpeliolngfkpaaChecked
import GoSem.Claim
import GoSem.ClaimJoined
import GoSem.ClaimMapViews
import Derived.JoinedTies
import Derived.KernelRfl
namespace Go.Proofs.Ytfpeliolngfkpaa
/- THE CELL 'sum', in the pinned program and in every row, IS THE sha256 OF THE DUMP (.gsa) THAT YtfpeliolngfkpaaProg.lean LOADS. Nothing in Lean hashes anything: it is a label: what it is worth is what the hold of that sum in a sandbox is worth. -/
noncomputable def Try.pinned : Pinned := { name := "ytfpeliolngfkpaa", sum := "dcec98cc09944487f5a3464aba9058a8c0066754f45a1b9579bf520bed20f3c2", checked := Try.checked }
namespace Rows
def none {H : Type} : Left H := { results := [], args := [] }

/-- 'smithylaw07.RlpEncodes': WHATEVER THE INPUT: true; the input reads as it did. -/
def rlpEncodesSpec : ChangeSpec := { name := "rlpEncodes", fn := fun _ => fun
  | [d] => { results := [.lit (.bool true)], args := [d] }
  | _ => none }
def rlpEncodesRow : OpenClaim := { program := "ytfpeliolngfkpaa", sum := "dcec98cc09944487f5a3464aba9058a8c0066754f45a1b9579bf520bed20f3c2", func := "smithy/smithylaw07.RlpEncodes", spec := "rlpEncodes", recurses := true, apart := false }
def RlpEncodesSaid : Prop := rlpEncodesRow.holds Try.pinned (OpenSpec.ofChange rlpEncodesSpec)

/-- ITS FALSE NEIGHBOUR: 'it returns false'. Refute it at one input. -/
def rlpEncodesWrong : ChangeSpec := { name := "rlpEncodes", fn := fun _ => fun
  | [d] => { results := [.lit (.bool false)], args := [d] }
  | _ => none }
def RlpEncodesWrongFalsely : Prop := rlpEncodesRow.holds Try.pinned (OpenSpec.ofChange rlpEncodesWrong)

/-- 'smithylaw07.RlpDecodes': WHATEVER THE INPUT: true; the input reads as it did. -/
def rlpDecodesSpec : ChangeSpec := { name := "rlpDecodes", fn := fun _ => fun
  | [d] => { results := [.lit (.bool true)], args := [d] }
  | _ => none }
def rlpDecodesRow : OpenClaim := { program := "ytfpeliolngfkpaa", sum := "dcec98cc09944487f5a3464aba9058a8c0066754f45a1b9579bf520bed20f3c2", func := "smithy/smithylaw07.RlpDecodes", spec := "rlpDecodes", recurses := true, apart := false }
def RlpDecodesSaid : Prop := rlpDecodesRow.holds Try.pinned (OpenSpec.ofChange rlpDecodesSpec)

/-- ITS FALSE NEIGHBOUR: 'it returns false'. Refute it at one input. -/
def rlpDecodesWrong : ChangeSpec := { name := "rlpDecodes", fn := fun _ => fun
  | [d] => { results := [.lit (.bool false)], args := [d] }
  | _ => none }
def RlpDecodesWrongFalsely : Prop := rlpDecodesRow.holds Try.pinned (OpenSpec.ofChange rlpDecodesWrong)

/-- 'smithylaw07.RlpNumbers': WHATEVER THE INPUT: true; the input reads as it did. -/
def rlpNumbersSpec : ChangeSpec := { name := "rlpNumbers", fn := fun _ => fun
  | [d] => { results := [.lit (.bool true)], args := [d] }
  | _ => none }
def rlpNumbersRow : OpenClaim := { program := "ytfpeliolngfkpaa", sum := "dcec98cc09944487f5a3464aba9058a8c0066754f45a1b9579bf520bed20f3c2", func := "smithy/smithylaw07.RlpNumbers", spec := "rlpNumbers", apart := false }
def RlpNumbersSaid : Prop := rlpNumbersRow.holds Try.pinned (OpenSpec.ofChange rlpNumbersSpec)

/-- ITS FALSE NEIGHBOUR: 'it returns false'. Refute it at one input. -/
def rlpNumbersWrong : ChangeSpec := { name := "rlpNumbers", fn := fun _ => fun
  | [d] => { results := [.lit (.bool false)], args := [d] }
  | _ => none }
def RlpNumbersWrongFalsely : Prop := rlpNumbersRow.holds Try.pinned (OpenSpec.ofChange rlpNumbersWrong)

/-- 'smithylaw07.RlpNests': WHATEVER THE INPUT: true; the input reads as it did. -/
def rlpNestsSpec : ChangeSpec := { name := "rlpNests", fn := fun _ => fun
  | [d1, d2] => { results := [.lit (.bool true)], args := [d1, d2] }
  | _ => none }
def rlpNestsRow : OpenClaim := { program := "ytfpeliolngfkpaa", sum := "dcec98cc09944487f5a3464aba9058a8c0066754f45a1b9579bf520bed20f3c2", func := "smithy/smithylaw07.RlpNests", spec := "rlpNests", recurses := true, apart := false }
def RlpNestsSaid : Prop := rlpNestsRow.holds Try.pinned (OpenSpec.ofChange rlpNestsSpec)

/-- ITS FALSE NEIGHBOUR: 'it returns false'. Refute it at one input. -/
def rlpNestsWrong : ChangeSpec := { name := "rlpNests", fn := fun _ => fun
  | [d1, d2] => { results := [.lit (.bool false)], args := [d1, d2] }
  | _ => none }
def RlpNestsWrongFalsely : Prop := rlpNestsRow.holds Try.pinned (OpenSpec.ofChange rlpNestsWrong)

/- THE SECOND FORM. 'bulk': how many values and letters a reading holds, each counted each time it is reached (what is shared counts as often as it is met; a slice's spare places count too). A statement '..UptoSaid' is the law's where the arguments, and the package variables that the reading takes, are together of bulk at most 1048576: NARROWER than '..Said'. Prove '..Said' where nothing that the law and all that it calls make is longer than what came in: it says more and counts as full. Else prove '..UptoSaid'. A law counts once. -/
mutual
def uptoBulk {H : Type} : DataW H → Nat
  | .lit (.string bytes) => bytes.length + 1
  | .lit _ => 1
  | .nil => 1
  | .ptr d => uptoBulk d + 1
  | .slice elems spare => uptoBulkAll elems + uptoBulkAll spare + 1
  | .agg parts => uptoBulkAll parts + 1
  | .iface _ d => uptoBulk d + 1
  | .map entries => uptoBulkEntries entries + 1
  | .held _ => 1
def uptoBulkAll {H : Type} : List (DataW H) → Nat
  | [] => 0
  | d :: r => uptoBulk d + uptoBulkAll r
def uptoBulkEntries {H : Type} : List (Lit × DataW H) → Nat
  | [] => 0
  | x :: r => uptoBulkEntry x + uptoBulkEntries r
def uptoBulkEntry {H : Type} : Lit × DataW H → Nat
  | (.string bytes, d) => bytes.length + uptoBulk d + 1
  | (_, d) => uptoBulk d + 1
 end
def uptoSmall : (H : Type) → List (DataW H) → Bool := fun _ ds => decide (uptoBulkAll ds ≤ 1048576)
def OpenSpec.upto (s : _root_.Go.ChangeSpec) : _root_.Go.OpenSpec := { _root_.Go.OpenSpec.ofChange s with cond := some uptoSmall }

/-- 'smithylaw07.RlpEncodes', WHERE WHAT IT READS IS OF BULK AT MOST 1048576: true; the input reads as it did. -/
def rlpEncodesUptoRow : OpenClaim := { program := "ytfpeliolngfkpaa", sum := "dcec98cc09944487f5a3464aba9058a8c0066754f45a1b9579bf520bed20f3c2", func := "smithy/smithylaw07.RlpEncodes", spec := "rlpEncodes", recurses := true, apart := false, narrowed := true }
def RlpEncodesUptoSaid : Prop := rlpEncodesUptoRow.holds Try.pinned (OpenSpec.upto rlpEncodesSpec)

/-- 'smithylaw07.RlpDecodes', WHERE WHAT IT READS IS OF BULK AT MOST 1048576: true; the input reads as it did. -/
def rlpDecodesUptoRow : OpenClaim := { program := "ytfpeliolngfkpaa", sum := "dcec98cc09944487f5a3464aba9058a8c0066754f45a1b9579bf520bed20f3c2", func := "smithy/smithylaw07.RlpDecodes", spec := "rlpDecodes", recurses := true, apart := false, narrowed := true }
def RlpDecodesUptoSaid : Prop := rlpDecodesUptoRow.holds Try.pinned (OpenSpec.upto rlpDecodesSpec)

/-- 'smithylaw07.RlpNumbers', WHERE WHAT IT READS IS OF BULK AT MOST 1048576: true; the input reads as it did. -/
def rlpNumbersUptoRow : OpenClaim := { program := "ytfpeliolngfkpaa", sum := "dcec98cc09944487f5a3464aba9058a8c0066754f45a1b9579bf520bed20f3c2", func := "smithy/smithylaw07.RlpNumbers", spec := "rlpNumbers", apart := false, narrowed := true }
def RlpNumbersUptoSaid : Prop := rlpNumbersUptoRow.holds Try.pinned (OpenSpec.upto rlpNumbersSpec)

/-- 'smithylaw07.RlpNests', WHERE WHAT IT READS IS OF BULK AT MOST 1048576: true; the input reads as it did. -/
def rlpNestsUptoRow : OpenClaim := { program := "ytfpeliolngfkpaa", sum := "dcec98cc09944487f5a3464aba9058a8c0066754f45a1b9579bf520bed20f3c2", func := "smithy/smithylaw07.RlpNests", spec := "rlpNests", recurses := true, apart := false, narrowed := true }
def RlpNestsUptoSaid : Prop := rlpNestsUptoRow.holds Try.pinned (OpenSpec.upto rlpNestsSpec)

end Rows
end Go.Proofs.Ytfpeliolngfkpaa
