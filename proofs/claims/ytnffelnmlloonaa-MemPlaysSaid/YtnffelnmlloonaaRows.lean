/-
  No cell of these rows narrows 'for every input' (looked for: loops, veiled, ifaces, maps, wideKeys, modest, calm, conditions, laid).
  DERIVED. THE GIVEN ROWS OF THIS SEAT. 7 by the template 'for every input the law returns true; each argument reads behind the call as it read before'; 0 by the template 'total and deterministic' (their statements: YtnffelnmlloonaaTotals.lean).
  GIVEN WITH THE SEED: the statements are not yours to turn. If you find one false, say at which input.
  Laid BY PROGRAM, IN A SANDBOX (cutbox-rows.mjs): the forced cells as the released guide's own fill.sh prints them over the translation c54a31dcf6ff3437… (all of the seat's roots in one cut). By AI agents, Wed Nov 11 2026. No macro, syntax, notation, axiom, sorry.
-/
import Derived.Test.YtnffelnmlloonaaChecked
import GoSem.Claim
import GoSem.ClaimJoined
import GoSem.ClaimMapViews
import Derived.JoinedTies
import Derived.KernelRfl
namespace Go.Proofs.Ytnffelnmlloonaa
/- THE CELL 'sum', in the pinned program and in every row, IS THE sha256 OF THE DUMP (.gsa) THAT YtnffelnmlloonaaProg.lean LOADS. Nothing in Lean hashes anything: it is a label: what it is worth is what the hold of that sum in a sandbox is worth. -/
noncomputable def Try.pinned : Pinned := { name := "ytnffelnmlloonaa", sum := "c54a31dcf6ff3437190cb252a9292fcb83d2b55624682895eb1ef677f6cfda94", checked := Try.checked }
namespace Rows
def none {H : Type} : Left H := { results := [], args := [] }

/-- 'smithylaw10.MemPlays': WHATEVER THE INPUT: true; the input reads as it did. -/
def memPlaysSpec : ChangeSpec := { name := "memPlays", fn := fun _ => fun
  | [d] => { results := [.lit (.bool true)], args := [d] }
  | _ => none }
def memPlaysRow : OpenClaim := { program := "ytnffelnmlloonaa", sum := "c54a31dcf6ff3437190cb252a9292fcb83d2b55624682895eb1ef677f6cfda94", func := "smithy/smithylaw10.MemPlays", spec := "memPlays", named := ["math/bits.divideError", "math/bits.overflowError"], apart := false }
def MemPlaysSaid : Prop := memPlaysRow.holds Try.pinned (OpenSpec.ofChange memPlaysSpec)

/-- ITS FALSE NEIGHBOUR: 'it returns false'. Refute it at one input. -/
def memPlaysWrong : ChangeSpec := { name := "memPlays", fn := fun _ => fun
  | [d] => { results := [.lit (.bool false)], args := [d] }
  | _ => none }
def MemPlaysWrongFalsely : Prop := memPlaysRow.holds Try.pinned (OpenSpec.ofChange memPlaysWrong)

/-- 'smithylaw10.MemPrices': WHATEVER THE INPUT: true; the input reads as it did. -/
def memPricesSpec : ChangeSpec := { name := "memPrices", fn := fun _ => fun
  | [d] => { results := [.lit (.bool true)], args := [d] }
  | _ => none }
def memPricesRow : OpenClaim := { program := "ytnffelnmlloonaa", sum := "c54a31dcf6ff3437190cb252a9292fcb83d2b55624682895eb1ef677f6cfda94", func := "smithy/smithylaw10.MemPrices", spec := "memPrices", named := ["math/bits.divideError", "math/bits.overflowError"], apart := false }
def MemPricesSaid : Prop := memPricesRow.holds Try.pinned (OpenSpec.ofChange memPricesSpec)

/-- ITS FALSE NEIGHBOUR: 'it returns false'. Refute it at one input. -/
def memPricesWrong : ChangeSpec := { name := "memPrices", fn := fun _ => fun
  | [d] => { results := [.lit (.bool false)], args := [d] }
  | _ => none }
def MemPricesWrongFalsely : Prop := memPricesRow.holds Try.pinned (OpenSpec.ofChange memPricesWrong)

/-- 'smithylaw10.MemFar': WHATEVER THE INPUT: true; the input reads as it did. -/
def memFarSpec : ChangeSpec := { name := "memFar", fn := fun _ => fun
  | [d1, d2] => { results := [.lit (.bool true)], args := [d1, d2] }
  | _ => none }
def memFarRow : OpenClaim := { program := "ytnffelnmlloonaa", sum := "c54a31dcf6ff3437190cb252a9292fcb83d2b55624682895eb1ef677f6cfda94", func := "smithy/smithylaw10.MemFar", spec := "memFar", named := ["math/bits.divideError", "math/bits.overflowError"], apart := false }
def MemFarSaid : Prop := memFarRow.holds Try.pinned (OpenSpec.ofChange memFarSpec)

/-- ITS FALSE NEIGHBOUR: 'it returns false'. Refute it at one input. -/
def memFarWrong : ChangeSpec := { name := "memFar", fn := fun _ => fun
  | [d1, d2] => { results := [.lit (.bool false)], args := [d1, d2] }
  | _ => none }
def MemFarWrongFalsely : Prop := memFarRow.holds Try.pinned (OpenSpec.ofChange memFarWrong)

/-- 'smithylaw10.MemStacks': WHATEVER THE INPUT: true; the input reads as it did. -/
def memStacksSpec : ChangeSpec := { name := "memStacks", fn := fun _ => fun
  | [d1, d2] => { results := [.lit (.bool true)], args := [d1, d2] }
  | _ => none }
def memStacksRow : OpenClaim := { program := "ytnffelnmlloonaa", sum := "c54a31dcf6ff3437190cb252a9292fcb83d2b55624682895eb1ef677f6cfda94", func := "smithy/smithylaw10.MemStacks", spec := "memStacks", named := ["math/bits.divideError", "math/bits.overflowError"], apart := false }
def MemStacksSaid : Prop := memStacksRow.holds Try.pinned (OpenSpec.ofChange memStacksSpec)

/-- ITS FALSE NEIGHBOUR: 'it returns false'. Refute it at one input. -/
def memStacksWrong : ChangeSpec := { name := "memStacks", fn := fun _ => fun
  | [d1, d2] => { results := [.lit (.bool false)], args := [d1, d2] }
  | _ => none }
def MemStacksWrongFalsely : Prop := memStacksRow.holds Try.pinned (OpenSpec.ofChange memStacksWrong)

/-- 'smithylaw10.MemNil': WHATEVER THE INPUT: true; the input reads as it did. -/
def memNilSpec : ChangeSpec := { name := "memNil", fn := fun _ => fun
  | [d] => { results := [.lit (.bool true)], args := [d] }
  | _ => none }
def memNilRow : OpenClaim := { program := "ytnffelnmlloonaa", sum := "c54a31dcf6ff3437190cb252a9292fcb83d2b55624682895eb1ef677f6cfda94", func := "smithy/smithylaw10.MemNil", spec := "memNil", named := ["math/bits.divideError", "math/bits.overflowError"], apart := false }
def MemNilSaid : Prop := memNilRow.holds Try.pinned (OpenSpec.ofChange memNilSpec)

/-- ITS FALSE NEIGHBOUR: 'it returns false'. Refute it at one input. -/
def memNilWrong : ChangeSpec := { name := "memNil", fn := fun _ => fun
  | [d] => { results := [.lit (.bool false)], args := [d] }
  | _ => none }
def MemNilWrongFalsely : Prop := memNilRow.holds Try.pinned (OpenSpec.ofChange memNilWrong)

/-- 'smithylaw10.MemSums': WHATEVER THE INPUT: true; the input reads as it did. -/
def memSumsSpec : ChangeSpec := { name := "memSums", fn := fun _ => fun
  | [d] => { results := [.lit (.bool true)], args := [d] }
  | _ => none }
def memSumsRow : OpenClaim := { program := "ytnffelnmlloonaa", sum := "c54a31dcf6ff3437190cb252a9292fcb83d2b55624682895eb1ef677f6cfda94", func := "smithy/smithylaw10.MemSums", spec := "memSums", named := ["math/bits.divideError", "math/bits.overflowError"], apart := false }
def MemSumsSaid : Prop := memSumsRow.holds Try.pinned (OpenSpec.ofChange memSumsSpec)

/-- ITS FALSE NEIGHBOUR: 'it returns false'. Refute it at one input. -/
def memSumsWrong : ChangeSpec := { name := "memSums", fn := fun _ => fun
  | [d] => { results := [.lit (.bool false)], args := [d] }
  | _ => none }
def MemSumsWrongFalsely : Prop := memSumsRow.holds Try.pinned (OpenSpec.ofChange memSumsWrong)

/-- 'smithylaw10.MemBack': WHATEVER THE INPUT: true; the input reads as it did. -/
def memBackSpec : ChangeSpec := { name := "memBack", fn := fun _ => fun
  | [d1, d2] => { results := [.lit (.bool true)], args := [d1, d2] }
  | _ => none }
def memBackRow : OpenClaim := { program := "ytnffelnmlloonaa", sum := "c54a31dcf6ff3437190cb252a9292fcb83d2b55624682895eb1ef677f6cfda94", func := "smithy/smithylaw10.MemBack", spec := "memBack", named := ["math/bits.divideError", "math/bits.overflowError"], apart := false }
def MemBackSaid : Prop := memBackRow.holds Try.pinned (OpenSpec.ofChange memBackSpec)

/-- ITS FALSE NEIGHBOUR: 'it returns false'. Refute it at one input. -/
def memBackWrong : ChangeSpec := { name := "memBack", fn := fun _ => fun
  | [d1, d2] => { results := [.lit (.bool false)], args := [d1, d2] }
  | _ => none }
def MemBackWrongFalsely : Prop := memBackRow.holds Try.pinned (OpenSpec.ofChange memBackWrong)

/- THE SECOND FORM. 'bulk': how many values and letters a reading holds, each counted each time it is reached (what is shared counts as often as it is met; a slice's spare places count too). A statement '..UptoSaid' is the law's where the arguments, and the package variables that the reading takes, are together of bulk at most 1048576: NARROWER than '..Said'. Prove '..Said' where nothing that the law and all that it calls make is longer than what came in: it says more and counts as full. Else prove '..UptoSaid'. A law counts once. -/
mutual
def uptoBulk {H : Type} : DataW H → Nat
  | .lit (.string bytes) => bytes.length + 1
  | .lit _ => 1
  | .nil => 1
  | .ptr d => uptoBulk d + 1
  | .slice elems spare => uptoBulkAll elems + uptoBulkAll spare + 1
  | .agg parts => uptoBulkAll parts + 1
  | .iface _ d => uptoBulk d + 1
  | .map entries => uptoBulkEntries entries + 1
  | .held _ => 1
def uptoBulkAll {H : Type} : List (DataW H) → Nat
  | [] => 0
  | d :: r => uptoBulk d + uptoBulkAll r
def uptoBulkEntries {H : Type} : List (Lit × DataW H) → Nat
  | [] => 0
  | x :: r => uptoBulkEntry x + uptoBulkEntries r
def uptoBulkEntry {H : Type} : Lit × DataW H → Nat
  | (.string bytes, d) => bytes.length + uptoBulk d + 1
  | (_, d) => uptoBulk d + 1
 end
def uptoSmall : (H : Type) → List (DataW H) → Bool := fun _ ds => decide (uptoBulkAll ds ≤ 1048576)
def OpenSpec.upto (s : _root_.Go.ChangeSpec) : _root_.Go.OpenSpec := { _root_.Go.OpenSpec.ofChange s with cond := some uptoSmall }

/-- 'smithylaw10.MemPlays', WHERE WHAT IT READS IS OF BULK AT MOST 1048576: true; the input reads as it did. -/
def memPlaysUptoRow : OpenClaim := { program := "ytnffelnmlloonaa", sum := "c54a31dcf6ff3437190cb252a9292fcb83d2b55624682895eb1ef677f6cfda94", func := "smithy/smithylaw10.MemPlays", spec := "memPlays", named := ["math/bits.divideError", "math/bits.overflowError"], apart := false, narrowed := true }
def MemPlaysUptoSaid : Prop := memPlaysUptoRow.holds Try.pinned (OpenSpec.upto memPlaysSpec)

/-- 'smithylaw10.MemPrices', WHERE WHAT IT READS IS OF BULK AT MOST 1048576: true; the input reads as it did. -/
def memPricesUptoRow : OpenClaim := { program := "ytnffelnmlloonaa", sum := "c54a31dcf6ff3437190cb252a9292fcb83d2b55624682895eb1ef677f6cfda94", func := "smithy/smithylaw10.MemPrices", spec := "memPrices", named := ["math/bits.divideError", "math/bits.overflowError"], apart := false, narrowed := true }
def MemPricesUptoSaid : Prop := memPricesUptoRow.holds Try.pinned (OpenSpec.upto memPricesSpec)

/-- 'smithylaw10.MemFar', WHERE WHAT IT READS IS OF BULK AT MOST 1048576: true; the input reads as it did. -/
def memFarUptoRow : OpenClaim := { program := "ytnffelnmlloonaa", sum := "c54a31dcf6ff3437190cb252a9292fcb83d2b55624682895eb1ef677f6cfda94", func := "smithy/smithylaw10.MemFar", spec := "memFar", named := ["math/bits.divideError", "math/bits.overflowError"], apart := false, narrowed := true }
def MemFarUptoSaid : Prop := memFarUptoRow.holds Try.pinned (OpenSpec.upto memFarSpec)

/-- 'smithylaw10.MemStacks', WHERE WHAT IT READS IS OF BULK AT MOST 1048576: true; the input reads as it did. -/
def memStacksUptoRow : OpenClaim := { program := "ytnffelnmlloonaa", sum := "c54a31dcf6ff3437190cb252a9292fcb83d2b55624682895eb1ef677f6cfda94", func := "smithy/smithylaw10.MemStacks", spec := "memStacks", named := ["math/bits.divideError", "math/bits.overflowError"], apart := false, narrowed := true }
def MemStacksUptoSaid : Prop := memStacksUptoRow.holds Try.pinned (OpenSpec.upto memStacksSpec)

/-- 'smithylaw10.MemNil', WHERE WHAT IT READS IS OF BULK AT MOST 1048576: true; the input reads as it did. -/
def memNilUptoRow : OpenClaim := { program := "ytnffelnmlloonaa", sum := "c54a31dcf6ff3437190cb252a9292fcb83d2b55624682895eb1ef677f6cfda94", func := "smithy/smithylaw10.MemNil", spec := "memNil", named := ["math/bits.divideError", "math/bits.overflowError"], apart := false, narrowed := true }
def MemNilUptoSaid : Prop := memNilUptoRow.holds Try.pinned (OpenSpec.upto memNilSpec)

/-- 'smithylaw10.MemSums', WHERE WHAT IT READS IS OF BULK AT MOST 1048576: true; the input reads as it did. -/
def memSumsUptoRow : OpenClaim := { program := "ytnffelnmlloonaa", sum := "c54a31dcf6ff3437190cb252a9292fcb83d2b55624682895eb1ef677f6cfda94", func := "smithy/smithylaw10.MemSums", spec := "memSums", named := ["math/bits.divideError", "math/bits.overflowError"], apart := false, narrowed := true }
def MemSumsUptoSaid : Prop := memSumsUptoRow.holds Try.pinned (OpenSpec.upto memSumsSpec)

/-- 'smithylaw10.MemBack', WHERE WHAT IT READS IS OF BULK AT MOST 1048576: true; the input reads as it did. -/
def memBackUptoRow : OpenClaim := { program := "ytnffelnmlloonaa", sum := "c54a31dcf6ff3437190cb252a9292fcb83d2b55624682895eb1ef677f6cfda94", func := "smithy/smithylaw10.MemBack", spec := "memBack", named := ["math/bits.divideError", "math/bits.overflowError"], apart := false, narrowed := true }
def MemBackUptoSaid : Prop := memBackUptoRow.holds Try.pinned (OpenSpec.upto memBackSpec)

end Rows
end Go.Proofs.Ytnffelnmlloonaa
