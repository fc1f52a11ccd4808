/-
  No cell of these rows narrows 'for every input' (looked for: loops, veiled, ifaces, maps, wideKeys, modest, calm, conditions, laid).
  DERIVED. THE GIVEN ROWS OF THIS SEAT. 5 by the template 'for every input the law returns true; each argument reads behind the call as it read before'; 0 by the template 'total and deterministic' (their statements: YtlobchkbkdjccaaTotals.lean).
  GIVEN WITH THE SEED: the statements are not yours to turn. If you find one false, say at which input.
  Laid BY PROGRAM, IN A SANDBOX (cutbox-rows.mjs): the forced cells as the released guide's own fill.sh prints them over the translation 81f3f474d99bfc0d… (all of the seat's roots in one cut). By AI agents, Wed Nov 11 2026. No macro, syntax, notation, axiom, sorry.
-/
import Derived.Test.YtlobchkbkdjccaaChecked
import GoSem.Claim
import GoSem.ClaimJoined
import GoSem.ClaimMapViews
import Derived.JoinedTies
import Derived.KernelRfl
namespace Go.Proofs.Ytlobchkbkdjccaa
/- THE CELL 'sum', in the pinned program and in every row, IS THE sha256 OF THE DUMP (.gsa) THAT YtlobchkbkdjccaaProg.lean LOADS. Nothing in Lean hashes anything: it is a label: what it is worth is what the hold of that sum in a sandbox is worth. -/
noncomputable def Try.pinned : Pinned := { name := "ytlobchkbkdjccaa", sum := "81f3f474d99bfc0d571cd701ef6676053fcc2632aa114ec3ff1a1a912c51c571", checked := Try.checked }
namespace Rows
def none {H : Type} : Left H := { results := [], args := [] }

/-- 'smithylaw03.SignDivides': WHATEVER THE INPUT: true; the input reads as it did. -/
def signDividesSpec : ChangeSpec := { name := "signDivides", fn := fun _ => fun
  | [d1, d2] => { results := [.lit (.bool true)], args := [d1, d2] }
  | _ => none }
def signDividesRow : OpenClaim := { program := "ytlobchkbkdjccaa", sum := "81f3f474d99bfc0d571cd701ef6676053fcc2632aa114ec3ff1a1a912c51c571", func := "smithy/smithylaw03.SignDivides", spec := "signDivides", inPlace := ["math/bits.Sub64", "math/bits.Add64"], named := ["math/bits.divideError", "math/bits.overflowError"], apart := false }
def SignDividesSaid : Prop := signDividesRow.holds Try.pinned (OpenSpec.ofChange signDividesSpec)

/-- ITS FALSE NEIGHBOUR: 'it returns false'. Refute it at one input. -/
def signDividesWrong : ChangeSpec := { name := "signDivides", fn := fun _ => fun
  | [d1, d2] => { results := [.lit (.bool false)], args := [d1, d2] }
  | _ => none }
def SignDividesWrongFalsely : Prop := signDividesRow.holds Try.pinned (OpenSpec.ofChange signDividesWrong)

/-- 'smithylaw03.SignTogether': WHATEVER THE INPUT: true; the input reads as it did. -/
def signTogetherSpec : ChangeSpec := { name := "signTogether", fn := fun _ => fun
  | [d1, d2] => { results := [.lit (.bool true)], args := [d1, d2] }
  | _ => none }
def signTogetherRow : OpenClaim := { program := "ytlobchkbkdjccaa", sum := "81f3f474d99bfc0d571cd701ef6676053fcc2632aa114ec3ff1a1a912c51c571", func := "smithy/smithylaw03.SignTogether", spec := "signTogether", inPlace := ["math/bits.Sub64", "math/bits.Add64"], named := ["math/bits.divideError", "math/bits.overflowError"], apart := false }
def SignTogetherSaid : Prop := signTogetherRow.holds Try.pinned (OpenSpec.ofChange signTogetherSpec)

/-- ITS FALSE NEIGHBOUR: 'it returns false'. Refute it at one input. -/
def signTogetherWrong : ChangeSpec := { name := "signTogether", fn := fun _ => fun
  | [d1, d2] => { results := [.lit (.bool false)], args := [d1, d2] }
  | _ => none }
def SignTogetherWrongFalsely : Prop := signTogetherRow.holds Try.pinned (OpenSpec.ofChange signTogetherWrong)

/-- 'smithylaw03.SignLess': WHATEVER THE INPUT: true; the input reads as it did. -/
def signLessSpec : ChangeSpec := { name := "signLess", fn := fun _ => fun
  | [d1, d2] => { results := [.lit (.bool true)], args := [d1, d2] }
  | _ => none }
def signLessRow : OpenClaim := { program := "ytlobchkbkdjccaa", sum := "81f3f474d99bfc0d571cd701ef6676053fcc2632aa114ec3ff1a1a912c51c571", func := "smithy/smithylaw03.SignLess", spec := "signLess", inPlace := ["math/bits.Sub64", "math/bits.Add64"], named := ["math/bits.divideError", "math/bits.overflowError"], apart := false }
def SignLessSaid : Prop := signLessRow.holds Try.pinned (OpenSpec.ofChange signLessSpec)

/-- ITS FALSE NEIGHBOUR: 'it returns false'. Refute it at one input. -/
def signLessWrong : ChangeSpec := { name := "signLess", fn := fun _ => fun
  | [d1, d2] => { results := [.lit (.bool false)], args := [d1, d2] }
  | _ => none }
def SignLessWrongFalsely : Prop := signLessRow.holds Try.pinned (OpenSpec.ofChange signLessWrong)

/-- 'smithylaw03.SignExtends': WHATEVER THE INPUT: true; the input reads as it did. -/
def signExtendsSpec : ChangeSpec := { name := "signExtends", fn := fun _ => fun
  | [d1, d2] => { results := [.lit (.bool true)], args := [d1, d2] }
  | _ => none }
def signExtendsRow : OpenClaim := { program := "ytlobchkbkdjccaa", sum := "81f3f474d99bfc0d571cd701ef6676053fcc2632aa114ec3ff1a1a912c51c571", func := "smithy/smithylaw03.SignExtends", spec := "signExtends", inPlace := ["math/bits.Sub64", "math/bits.Add64"], named := ["math/bits.divideError", "math/bits.overflowError"], apart := false }
def SignExtendsSaid : Prop := signExtendsRow.holds Try.pinned (OpenSpec.ofChange signExtendsSpec)

/-- ITS FALSE NEIGHBOUR: 'it returns false'. Refute it at one input. -/
def signExtendsWrong : ChangeSpec := { name := "signExtends", fn := fun _ => fun
  | [d1, d2] => { results := [.lit (.bool false)], args := [d1, d2] }
  | _ => none }
def SignExtendsWrongFalsely : Prop := signExtendsRow.holds Try.pinned (OpenSpec.ofChange signExtendsWrong)

/-- 'smithylaw03.SignShifts': WHATEVER THE INPUT: true; the input reads as it did. -/
def signShiftsSpec : ChangeSpec := { name := "signShifts", fn := fun _ => fun
  | [d1, d2] => { results := [.lit (.bool true)], args := [d1, d2] }
  | _ => none }
def signShiftsRow : OpenClaim := { program := "ytlobchkbkdjccaa", sum := "81f3f474d99bfc0d571cd701ef6676053fcc2632aa114ec3ff1a1a912c51c571", func := "smithy/smithylaw03.SignShifts", spec := "signShifts", inPlace := ["math/bits.Sub64", "math/bits.Add64"], named := ["math/bits.divideError", "math/bits.overflowError"], apart := false }
def SignShiftsSaid : Prop := signShiftsRow.holds Try.pinned (OpenSpec.ofChange signShiftsSpec)

/-- ITS FALSE NEIGHBOUR: 'it returns false'. Refute it at one input. -/
def signShiftsWrong : ChangeSpec := { name := "signShifts", fn := fun _ => fun
  | [d1, d2] => { results := [.lit (.bool false)], args := [d1, d2] }
  | _ => none }
def SignShiftsWrongFalsely : Prop := signShiftsRow.holds Try.pinned (OpenSpec.ofChange signShiftsWrong)

/- THE SECOND FORM. 'bulk': how many values and letters a reading holds, each counted each time it is reached (what is shared counts as often as it is met; a slice's spare places count too). A statement '..UptoSaid' is the law's where the arguments, and the package variables that the reading takes, are together of bulk at most 1048576: NARROWER than '..Said'. Prove '..Said' where nothing that the law and all that it calls make is longer than what came in: it says more and counts as full. Else prove '..UptoSaid'. A law counts once. -/
mutual
def uptoBulk {H : Type} : DataW H → Nat
  | .lit (.string bytes) => bytes.length + 1
  | .lit _ => 1
  | .nil => 1
  | .ptr d => uptoBulk d + 1
  | .slice elems spare => uptoBulkAll elems + uptoBulkAll spare + 1
  | .agg parts => uptoBulkAll parts + 1
  | .iface _ d => uptoBulk d + 1
  | .map entries => uptoBulkEntries entries + 1
  | .held _ => 1
def uptoBulkAll {H : Type} : List (DataW H) → Nat
  | [] => 0
  | d :: r => uptoBulk d + uptoBulkAll r
def uptoBulkEntries {H : Type} : List (Lit × DataW H) → Nat
  | [] => 0
  | x :: r => uptoBulkEntry x + uptoBulkEntries r
def uptoBulkEntry {H : Type} : Lit × DataW H → Nat
  | (.string bytes, d) => bytes.length + uptoBulk d + 1
  | (_, d) => uptoBulk d + 1
 end
def uptoSmall : (H : Type) → List (DataW H) → Bool := fun _ ds => decide (uptoBulkAll ds ≤ 1048576)
def OpenSpec.upto (s : _root_.Go.ChangeSpec) : _root_.Go.OpenSpec := { _root_.Go.OpenSpec.ofChange s with cond := some uptoSmall }

/-- 'smithylaw03.SignDivides', WHERE WHAT IT READS IS OF BULK AT MOST 1048576: true; the input reads as it did. -/
def signDividesUptoRow : OpenClaim := { program := "ytlobchkbkdjccaa", sum := "81f3f474d99bfc0d571cd701ef6676053fcc2632aa114ec3ff1a1a912c51c571", func := "smithy/smithylaw03.SignDivides", spec := "signDivides", inPlace := ["math/bits.Sub64", "math/bits.Add64"], named := ["math/bits.divideError", "math/bits.overflowError"], apart := false, narrowed := true }
def SignDividesUptoSaid : Prop := signDividesUptoRow.holds Try.pinned (OpenSpec.upto signDividesSpec)

/-- 'smithylaw03.SignTogether', WHERE WHAT IT READS IS OF BULK AT MOST 1048576: true; the input reads as it did. -/
def signTogetherUptoRow : OpenClaim := { program := "ytlobchkbkdjccaa", sum := "81f3f474d99bfc0d571cd701ef6676053fcc2632aa114ec3ff1a1a912c51c571", func := "smithy/smithylaw03.SignTogether", spec := "signTogether", inPlace := ["math/bits.Sub64", "math/bits.Add64"], named := ["math/bits.divideError", "math/bits.overflowError"], apart := false, narrowed := true }
def SignTogetherUptoSaid : Prop := signTogetherUptoRow.holds Try.pinned (OpenSpec.upto signTogetherSpec)

/-- 'smithylaw03.SignLess', WHERE WHAT IT READS IS OF BULK AT MOST 1048576: true; the input reads as it did. -/
def signLessUptoRow : OpenClaim := { program := "ytlobchkbkdjccaa", sum := "81f3f474d99bfc0d571cd701ef6676053fcc2632aa114ec3ff1a1a912c51c571", func := "smithy/smithylaw03.SignLess", spec := "signLess", inPlace := ["math/bits.Sub64", "math/bits.Add64"], named := ["math/bits.divideError", "math/bits.overflowError"], apart := false, narrowed := true }
def SignLessUptoSaid : Prop := signLessUptoRow.holds Try.pinned (OpenSpec.upto signLessSpec)

/-- 'smithylaw03.SignExtends', WHERE WHAT IT READS IS OF BULK AT MOST 1048576: true; the input reads as it did. -/
def signExtendsUptoRow : OpenClaim := { program := "ytlobchkbkdjccaa", sum := "81f3f474d99bfc0d571cd701ef6676053fcc2632aa114ec3ff1a1a912c51c571", func := "smithy/smithylaw03.SignExtends", spec := "signExtends", inPlace := ["math/bits.Sub64", "math/bits.Add64"], named := ["math/bits.divideError", "math/bits.overflowError"], apart := false, narrowed := true }
def SignExtendsUptoSaid : Prop := signExtendsUptoRow.holds Try.pinned (OpenSpec.upto signExtendsSpec)

/-- 'smithylaw03.SignShifts', WHERE WHAT IT READS IS OF BULK AT MOST 1048576: true; the input reads as it did. -/
def signShiftsUptoRow : OpenClaim := { program := "ytlobchkbkdjccaa", sum := "81f3f474d99bfc0d571cd701ef6676053fcc2632aa114ec3ff1a1a912c51c571", func := "smithy/smithylaw03.SignShifts", spec := "signShifts", inPlace := ["math/bits.Sub64", "math/bits.Add64"], named := ["math/bits.divideError", "math/bits.overflowError"], apart := false, narrowed := true }
def SignShiftsUptoSaid : Prop := signShiftsUptoRow.holds Try.pinned (OpenSpec.upto signShiftsSpec)

end Rows
end Go.Proofs.Ytlobchkbkdjccaa
