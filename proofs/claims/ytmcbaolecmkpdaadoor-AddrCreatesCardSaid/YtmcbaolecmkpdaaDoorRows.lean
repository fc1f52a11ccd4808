/-
  NARROWER THAN 'FOR EVERY INPUT', by the rows' own cells (each row's printed sentence says how): AddrWords: laid · AddrCreates: laid · AddrSalts: laid · AddrOrder: laid.
  DERIVED. THE GIVEN ROWS OF THIS SEAT. 4 by the template 'for every input the law returns true; each argument reads behind the call as it read before'; 0 by the template 'total and deterministic' (their statements: YtmcbaolecmkpdaaDoorTotals.lean).
  GIVEN WITH THE SEED: the statements are not yours to turn. If you find one false, say at which input.
  Laid BY PROGRAM, IN A SANDBOX (cutbox-rows.mjs): the forced cells as the released guide's own fill.sh prints them over the translation 88ac2af18dd96242… (all of the seat's roots in one cut). By AI agents, Wed Nov 11 2026. No macro, syntax, notation, axiom, sorry.
-/
import Derived.Test.YtmcbaolecmkpdaaDoorChecked
import GoSem.Claim
import GoSem.ClaimJoined
import GoSem.ClaimMapViews
import Derived.JoinedTies
import Derived.KernelRfl
namespace Go.Proofs.YtmcbaolecmkpdaaDoor
/- THE CELL 'sum', in the pinned program and in every row, IS THE sha256 OF THE DUMP (.gsa) THAT YtmcbaolecmkpdaaDoorProg.lean LOADS. Nothing in Lean hashes anything: it is a label: what it is worth is what the hold of that sum in a sandbox is worth. -/
noncomputable def Tryd.pinned : Pinned := { name := "ytmcbaolecmkpdaadoor", sum := "88ac2af18dd9624287893a35e11c324248563cd3f0f1c0cf6b80bc4eee74b052", checked := Tryd.checked }
namespace Rows
def none {H : Type} : Left H := { results := [], args := [] }

/- WHAT THE LISTED PACKAGE-LEVEL VARIABLES READ AS WHEN THE CALL BEGINS. Each datum BY PROGRAM (the guide's laid-datum.mjs) off the statement by which the dump's own 'gosem.cut.vars' lays the variable. In a bare row this is a premise. The card (YtmcbaolecmkpdaaDoorCards.lean) ties it to the program's text. -/
def laid_smithy_keccak_constants {H : Type} : DataW H := .agg [.lit (.int .u64 1), .lit (.int .u64 32898), .lit (.int .u64 9223372036854808714), .lit (.int .u64 9223372039002292224), .lit (.int .u64 32907), .lit (.int .u64 2147483649), .lit (.int .u64 9223372039002292353), .lit (.int .u64 9223372036854808585), .lit (.int .u64 138), .lit (.int .u64 136), .lit (.int .u64 2147516425), .lit (.int .u64 2147483658), .lit (.int .u64 2147516555), .lit (.int .u64 9223372036854775947), .lit (.int .u64 9223372036854808713), .lit (.int .u64 9223372036854808579), .lit (.int .u64 9223372036854808578), .lit (.int .u64 9223372036854775936), .lit (.int .u64 32778), .lit (.int .u64 9223372039002259466), .lit (.int .u64 9223372039002292353), .lit (.int .u64 9223372036854808704), .lit (.int .u64 2147483649), .lit (.int .u64 9223372039002292232)]
def laid_smithy_keccak_way {H : Type} : DataW H := .agg [.lit (.int .i64 10), .lit (.int .i64 7), .lit (.int .i64 11), .lit (.int .i64 17), .lit (.int .i64 18), .lit (.int .i64 3), .lit (.int .i64 5), .lit (.int .i64 16), .lit (.int .i64 8), .lit (.int .i64 21), .lit (.int .i64 24), .lit (.int .i64 4), .lit (.int .i64 15), .lit (.int .i64 23), .lit (.int .i64 19), .lit (.int .i64 13), .lit (.int .i64 12), .lit (.int .i64 2), .lit (.int .i64 20), .lit (.int .i64 14), .lit (.int .i64 22), .lit (.int .i64 9), .lit (.int .i64 6), .lit (.int .i64 1)]

/-- 'smithylaw08.AddrWords': WHATEVER THE INPUT: true; the input reads as it did. -/
def addrWordsSpec : ChangeSpec := { name := "addrWords", fn := fun _ => fun
  | [d1, d2] => { results := [.lit (.bool true)], args := [d1, d2] }
  | _ => none }
def addrWordsRow : OpenClaim := { program := "ytmcbaolecmkpdaadoor", sum := "88ac2af18dd9624287893a35e11c324248563cd3f0f1c0cf6b80bc4eee74b052", func := "smithy/smithylaw08.AddrWords", spec := "addrWords", named := ["smithy/keccak.constants", "smithy/keccak.way"], apart := false, laid := [("smithy/keccak.constants", laid_smithy_keccak_constants), ("smithy/keccak.way", laid_smithy_keccak_way)] }
def AddrWordsSaid : Prop := addrWordsRow.holds Tryd.pinned (OpenSpec.ofChange addrWordsSpec)

/-- ITS FALSE NEIGHBOUR: 'it returns false'. Refute it at one input. -/
def addrWordsWrong : ChangeSpec := { name := "addrWords", fn := fun _ => fun
  | [d1, d2] => { results := [.lit (.bool false)], args := [d1, d2] }
  | _ => none }
def AddrWordsWrongFalsely : Prop := addrWordsRow.holds Tryd.pinned (OpenSpec.ofChange addrWordsWrong)

/-- 'smithylaw08.AddrCreates': WHATEVER THE INPUT: true; the input reads as it did. -/
def addrCreatesSpec : ChangeSpec := { name := "addrCreates", fn := fun _ => fun
  | [d1, d2] => { results := [.lit (.bool true)], args := [d1, d2] }
  | _ => none }
def addrCreatesRow : OpenClaim := { program := "ytmcbaolecmkpdaadoor", sum := "88ac2af18dd9624287893a35e11c324248563cd3f0f1c0cf6b80bc4eee74b052", func := "smithy/smithylaw08.AddrCreates", spec := "addrCreates", named := ["smithy/keccak.constants", "smithy/keccak.way"], apart := false, laid := [("smithy/keccak.constants", laid_smithy_keccak_constants), ("smithy/keccak.way", laid_smithy_keccak_way)] }
def AddrCreatesSaid : Prop := addrCreatesRow.holds Tryd.pinned (OpenSpec.ofChange addrCreatesSpec)

/-- ITS FALSE NEIGHBOUR: 'it returns false'. Refute it at one input. -/
def addrCreatesWrong : ChangeSpec := { name := "addrCreates", fn := fun _ => fun
  | [d1, d2] => { results := [.lit (.bool false)], args := [d1, d2] }
  | _ => none }
def AddrCreatesWrongFalsely : Prop := addrCreatesRow.holds Tryd.pinned (OpenSpec.ofChange addrCreatesWrong)

/-- 'smithylaw08.AddrSalts': WHATEVER THE INPUT: true; the input reads as it did. -/
def addrSaltsSpec : ChangeSpec := { name := "addrSalts", fn := fun _ => fun
  | [d1, d2, d3] => { results := [.lit (.bool true)], args := [d1, d2, d3] }
  | _ => none }
def addrSaltsRow : OpenClaim := { program := "ytmcbaolecmkpdaadoor", sum := "88ac2af18dd9624287893a35e11c324248563cd3f0f1c0cf6b80bc4eee74b052", func := "smithy/smithylaw08.AddrSalts", spec := "addrSalts", named := ["smithy/keccak.constants", "smithy/keccak.way"], apart := false, laid := [("smithy/keccak.constants", laid_smithy_keccak_constants), ("smithy/keccak.way", laid_smithy_keccak_way)] }
def AddrSaltsSaid : Prop := addrSaltsRow.holds Tryd.pinned (OpenSpec.ofChange addrSaltsSpec)

/-- ITS FALSE NEIGHBOUR: 'it returns false'. Refute it at one input. -/
def addrSaltsWrong : ChangeSpec := { name := "addrSalts", fn := fun _ => fun
  | [d1, d2, d3] => { results := [.lit (.bool false)], args := [d1, d2, d3] }
  | _ => none }
def AddrSaltsWrongFalsely : Prop := addrSaltsRow.holds Tryd.pinned (OpenSpec.ofChange addrSaltsWrong)

/-- 'smithylaw08.AddrOrder': WHATEVER THE INPUT: true; the input reads as it did. -/
def addrOrderSpec : ChangeSpec := { name := "addrOrder", fn := fun _ => fun
  | [d1, d2] => { results := [.lit (.bool true)], args := [d1, d2] }
  | _ => none }
def addrOrderRow : OpenClaim := { program := "ytmcbaolecmkpdaadoor", sum := "88ac2af18dd9624287893a35e11c324248563cd3f0f1c0cf6b80bc4eee74b052", func := "smithy/smithylaw08.AddrOrder", spec := "addrOrder", inPlace := ["internal/bytealg.Compare"], named := ["smithy/keccak.constants", "smithy/keccak.way"], apart := false, laid := [("smithy/keccak.constants", laid_smithy_keccak_constants), ("smithy/keccak.way", laid_smithy_keccak_way)] }
def AddrOrderSaid : Prop := addrOrderRow.holds Tryd.pinned (OpenSpec.ofChange addrOrderSpec)

/-- ITS FALSE NEIGHBOUR: 'it returns false'. Refute it at one input. -/
def addrOrderWrong : ChangeSpec := { name := "addrOrder", fn := fun _ => fun
  | [d1, d2] => { results := [.lit (.bool false)], args := [d1, d2] }
  | _ => none }
def AddrOrderWrongFalsely : Prop := addrOrderRow.holds Tryd.pinned (OpenSpec.ofChange addrOrderWrong)

/- THE SECOND FORM. 'bulk': how many values and letters a reading holds, each counted each time it is reached (what is shared counts as often as it is met; a slice's spare places count too). A statement '..UptoSaid' is the law's where the arguments, and the package variables that the reading takes, are together of bulk at most 1048576: NARROWER than '..Said'. Prove '..Said' where nothing that the law and all that it calls make is longer than what came in: it says more and counts as full. Else prove '..UptoSaid'. A law counts once. -/
mutual
def uptoBulk {H : Type} : DataW H → Nat
  | .lit (.string bytes) => bytes.length + 1
  | .lit _ => 1
  | .nil => 1
  | .ptr d => uptoBulk d + 1
  | .slice elems spare => uptoBulkAll elems + uptoBulkAll spare + 1
  | .agg parts => uptoBulkAll parts + 1
  | .iface _ d => uptoBulk d + 1
  | .map entries => uptoBulkEntries entries + 1
  | .held _ => 1
def uptoBulkAll {H : Type} : List (DataW H) → Nat
  | [] => 0
  | d :: r => uptoBulk d + uptoBulkAll r
def uptoBulkEntries {H : Type} : List (Lit × DataW H) → Nat
  | [] => 0
  | x :: r => uptoBulkEntry x + uptoBulkEntries r
def uptoBulkEntry {H : Type} : Lit × DataW H → Nat
  | (.string bytes, d) => bytes.length + uptoBulk d + 1
  | (_, d) => uptoBulk d + 1
 end
def uptoSmall : (H : Type) → List (DataW H) → Bool := fun _ ds => decide (uptoBulkAll ds ≤ 1048576)
def OpenSpec.upto (s : _root_.Go.ChangeSpec) : _root_.Go.OpenSpec := { _root_.Go.OpenSpec.ofChange s with cond := some uptoSmall }

/-- 'smithylaw08.AddrWords', WHERE WHAT IT READS IS OF BULK AT MOST 1048576: true; the input reads as it did. -/
def addrWordsUptoRow : OpenClaim := { program := "ytmcbaolecmkpdaadoor", sum := "88ac2af18dd9624287893a35e11c324248563cd3f0f1c0cf6b80bc4eee74b052", func := "smithy/smithylaw08.AddrWords", spec := "addrWords", named := ["smithy/keccak.constants", "smithy/keccak.way"], apart := false, laid := [("smithy/keccak.constants", laid_smithy_keccak_constants), ("smithy/keccak.way", laid_smithy_keccak_way)], narrowed := true }
def AddrWordsUptoSaid : Prop := addrWordsUptoRow.holds Tryd.pinned (OpenSpec.upto addrWordsSpec)

/-- 'smithylaw08.AddrCreates', WHERE WHAT IT READS IS OF BULK AT MOST 1048576: true; the input reads as it did. -/
def addrCreatesUptoRow : OpenClaim := { program := "ytmcbaolecmkpdaadoor", sum := "88ac2af18dd9624287893a35e11c324248563cd3f0f1c0cf6b80bc4eee74b052", func := "smithy/smithylaw08.AddrCreates", spec := "addrCreates", named := ["smithy/keccak.constants", "smithy/keccak.way"], apart := false, laid := [("smithy/keccak.constants", laid_smithy_keccak_constants), ("smithy/keccak.way", laid_smithy_keccak_way)], narrowed := true }
def AddrCreatesUptoSaid : Prop := addrCreatesUptoRow.holds Tryd.pinned (OpenSpec.upto addrCreatesSpec)

/-- 'smithylaw08.AddrSalts', WHERE WHAT IT READS IS OF BULK AT MOST 1048576: true; the input reads as it did. -/
def addrSaltsUptoRow : OpenClaim := { program := "ytmcbaolecmkpdaadoor", sum := "88ac2af18dd9624287893a35e11c324248563cd3f0f1c0cf6b80bc4eee74b052", func := "smithy/smithylaw08.AddrSalts", spec := "addrSalts", named := ["smithy/keccak.constants", "smithy/keccak.way"], apart := false, laid := [("smithy/keccak.constants", laid_smithy_keccak_constants), ("smithy/keccak.way", laid_smithy_keccak_way)], narrowed := true }
def AddrSaltsUptoSaid : Prop := addrSaltsUptoRow.holds Tryd.pinned (OpenSpec.upto addrSaltsSpec)

/-- 'smithylaw08.AddrOrder', WHERE WHAT IT READS IS OF BULK AT MOST 1048576: true; the input reads as it did. -/
def addrOrderUptoRow : OpenClaim := { program := "ytmcbaolecmkpdaadoor", sum := "88ac2af18dd9624287893a35e11c324248563cd3f0f1c0cf6b80bc4eee74b052", func := "smithy/smithylaw08.AddrOrder", spec := "addrOrder", inPlace := ["internal/bytealg.Compare"], named := ["smithy/keccak.constants", "smithy/keccak.way"], apart := false, laid := [("smithy/keccak.constants", laid_smithy_keccak_constants), ("smithy/keccak.way", laid_smithy_keccak_way)], narrowed := true }
def AddrOrderUptoSaid : Prop := addrOrderUptoRow.holds Tryd.pinned (OpenSpec.upto addrOrderSpec)

end Rows
end Go.Proofs.YtmcbaolecmkpdaaDoor
