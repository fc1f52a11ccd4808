/-
  NARROWER THAN 'FOR EVERY INPUT', by the rows' own cells (each row's printed sentence says how): KeccakTurns: laid · KeccakSums: laid · KeccakEnds: laid.
  DERIVED. THE GIVEN ROWS OF THIS SEAT. 3 by the template 'for every input the law returns true; each argument reads behind the call as it read before'; 0 by the template 'total and deterministic' (their statements: YtgejfdbbapjpmaaDoorTotals.lean).
  GIVEN WITH THE SEED: the statements are not yours to turn. If you find one false, say at which input.
  Laid BY PROGRAM, IN A SANDBOX (cutbox-rows.mjs): the forced cells as the released guide's own fill.sh prints them over the translation e4a99978da97f218… (all of the seat's roots in one cut). By AI agents, Wed Nov 11 2026. No macro, syntax, notation, axiom, sorry.
-/
import Derived.Test.YtgejfdbbapjpmaaDoorChecked
import GoSem.Claim
import GoSem.ClaimJoined
import GoSem.ClaimMapViews
import Derived.JoinedTies
import Derived.KernelRfl
namespace Go.Proofs.YtgejfdbbapjpmaaDoor
/- THE CELL 'sum', in the pinned program and in every row, IS THE sha256 OF THE DUMP (.gsa) THAT YtgejfdbbapjpmaaDoorProg.lean LOADS. Nothing in Lean hashes anything: it is a label: what it is worth is what the hold of that sum in a sandbox is worth. -/
noncomputable def Tryd.pinned : Pinned := { name := "ytgejfdbbapjpmaadoor", sum := "e4a99978da97f2186db3eca278d5822fa960a97134e6ebe1dbdbfa20b174e0e1", checked := Tryd.checked }
namespace Rows
def none {H : Type} : Left H := { results := [], args := [] }

/- WHAT THE LISTED PACKAGE-LEVEL VARIABLES READ AS WHEN THE CALL BEGINS. Each datum BY PROGRAM (the guide's laid-datum.mjs) off the statement by which the dump's own 'gosem.cut.vars' lays the variable. In a bare row this is a premise. The card (YtgejfdbbapjpmaaDoorCards.lean) ties it to the program's text. -/
def laid_smithy_keccak_constants {H : Type} : DataW H := .agg [.lit (.int .u64 1), .lit (.int .u64 32898), .lit (.int .u64 9223372036854808714), .lit (.int .u64 9223372039002292224), .lit (.int .u64 32907), .lit (.int .u64 2147483649), .lit (.int .u64 9223372039002292353), .lit (.int .u64 9223372036854808585), .lit (.int .u64 138), .lit (.int .u64 136), .lit (.int .u64 2147516425), .lit (.int .u64 2147483658), .lit (.int .u64 2147516555), .lit (.int .u64 9223372036854775947), .lit (.int .u64 9223372036854808713), .lit (.int .u64 9223372036854808579), .lit (.int .u64 9223372036854808578), .lit (.int .u64 9223372036854775936), .lit (.int .u64 32778), .lit (.int .u64 9223372039002259466), .lit (.int .u64 9223372039002292353), .lit (.int .u64 9223372036854808704), .lit (.int .u64 2147483649), .lit (.int .u64 9223372039002292232)]
def laid_smithy_keccak_way {H : Type} : DataW H := .agg [.lit (.int .i64 10), .lit (.int .i64 7), .lit (.int .i64 11), .lit (.int .i64 17), .lit (.int .i64 18), .lit (.int .i64 3), .lit (.int .i64 5), .lit (.int .i64 16), .lit (.int .i64 8), .lit (.int .i64 21), .lit (.int .i64 24), .lit (.int .i64 4), .lit (.int .i64 15), .lit (.int .i64 23), .lit (.int .i64 19), .lit (.int .i64 13), .lit (.int .i64 12), .lit (.int .i64 2), .lit (.int .i64 20), .lit (.int .i64 14), .lit (.int .i64 22), .lit (.int .i64 9), .lit (.int .i64 6), .lit (.int .i64 1)]

/-- 'smithylaw05.KeccakTurns': WHATEVER THE INPUT: true; the input reads as it did. -/
def keccakTurnsSpec : ChangeSpec := { name := "keccakTurns", fn := fun _ => fun
  | [d] => { results := [.lit (.bool true)], args := [d] }
  | _ => none }
def keccakTurnsRow : OpenClaim := { program := "ytgejfdbbapjpmaadoor", sum := "e4a99978da97f2186db3eca278d5822fa960a97134e6ebe1dbdbfa20b174e0e1", func := "smithy/smithylaw05.KeccakTurns", spec := "keccakTurns", named := ["smithy/keccak.constants", "smithy/keccak.way"], apart := false, laid := [("smithy/keccak.constants", laid_smithy_keccak_constants), ("smithy/keccak.way", laid_smithy_keccak_way)] }
def KeccakTurnsSaid : Prop := keccakTurnsRow.holds Tryd.pinned (OpenSpec.ofChange keccakTurnsSpec)

/-- ITS FALSE NEIGHBOUR: 'it returns false'. Refute it at one input. -/
def keccakTurnsWrong : ChangeSpec := { name := "keccakTurns", fn := fun _ => fun
  | [d] => { results := [.lit (.bool false)], args := [d] }
  | _ => none }
def KeccakTurnsWrongFalsely : Prop := keccakTurnsRow.holds Tryd.pinned (OpenSpec.ofChange keccakTurnsWrong)

/-- 'smithylaw05.KeccakSums': WHATEVER THE INPUT: true; the input reads as it did. -/
def keccakSumsSpec : ChangeSpec := { name := "keccakSums", fn := fun _ => fun
  | [d] => { results := [.lit (.bool true)], args := [d] }
  | _ => none }
def keccakSumsRow : OpenClaim := { program := "ytgejfdbbapjpmaadoor", sum := "e4a99978da97f2186db3eca278d5822fa960a97134e6ebe1dbdbfa20b174e0e1", func := "smithy/smithylaw05.KeccakSums", spec := "keccakSums", named := ["smithy/keccak.constants", "smithy/keccak.way"], apart := false, laid := [("smithy/keccak.constants", laid_smithy_keccak_constants), ("smithy/keccak.way", laid_smithy_keccak_way)] }
def KeccakSumsSaid : Prop := keccakSumsRow.holds Tryd.pinned (OpenSpec.ofChange keccakSumsSpec)

/-- ITS FALSE NEIGHBOUR: 'it returns false'. Refute it at one input. -/
def keccakSumsWrong : ChangeSpec := { name := "keccakSums", fn := fun _ => fun
  | [d] => { results := [.lit (.bool false)], args := [d] }
  | _ => none }
def KeccakSumsWrongFalsely : Prop := keccakSumsRow.holds Tryd.pinned (OpenSpec.ofChange keccakSumsWrong)

/-- 'smithylaw05.KeccakEnds': WHATEVER THE INPUT: true; the input reads as it did. -/
def keccakEndsSpec : ChangeSpec := { name := "keccakEnds", fn := fun _ => fun
  | [d1, d2] => { results := [.lit (.bool true)], args := [d1, d2] }
  | _ => none }
def keccakEndsRow : OpenClaim := { program := "ytgejfdbbapjpmaadoor", sum := "e4a99978da97f2186db3eca278d5822fa960a97134e6ebe1dbdbfa20b174e0e1", func := "smithy/smithylaw05.KeccakEnds", spec := "keccakEnds", named := ["smithy/keccak.constants", "smithy/keccak.way"], apart := false, laid := [("smithy/keccak.constants", laid_smithy_keccak_constants), ("smithy/keccak.way", laid_smithy_keccak_way)] }
def KeccakEndsSaid : Prop := keccakEndsRow.holds Tryd.pinned (OpenSpec.ofChange keccakEndsSpec)

/-- ITS FALSE NEIGHBOUR: 'it returns false'. Refute it at one input. -/
def keccakEndsWrong : ChangeSpec := { name := "keccakEnds", fn := fun _ => fun
  | [d1, d2] => { results := [.lit (.bool false)], args := [d1, d2] }
  | _ => none }
def KeccakEndsWrongFalsely : Prop := keccakEndsRow.holds Tryd.pinned (OpenSpec.ofChange keccakEndsWrong)

/- THE SECOND FORM. 'bulk': how many values and letters a reading holds, each counted each time it is reached (what is shared counts as often as it is met; a slice's spare places count too). A statement '..UptoSaid' is the law's where the arguments, and the package variables that the reading takes, are together of bulk at most 1048576: NARROWER than '..Said'. Prove '..Said' where nothing that the law and all that it calls make is longer than what came in: it says more and counts as full. Else prove '..UptoSaid'. A law counts once. -/
mutual
def uptoBulk {H : Type} : DataW H → Nat
  | .lit (.string bytes) => bytes.length + 1
  | .lit _ => 1
  | .nil => 1
  | .ptr d => uptoBulk d + 1
  | .slice elems spare => uptoBulkAll elems + uptoBulkAll spare + 1
  | .agg parts => uptoBulkAll parts + 1
  | .iface _ d => uptoBulk d + 1
  | .map entries => uptoBulkEntries entries + 1
  | .held _ => 1
def uptoBulkAll {H : Type} : List (DataW H) → Nat
  | [] => 0
  | d :: r => uptoBulk d + uptoBulkAll r
def uptoBulkEntries {H : Type} : List (Lit × DataW H) → Nat
  | [] => 0
  | x :: r => uptoBulkEntry x + uptoBulkEntries r
def uptoBulkEntry {H : Type} : Lit × DataW H → Nat
  | (.string bytes, d) => bytes.length + uptoBulk d + 1
  | (_, d) => uptoBulk d + 1
 end
def uptoSmall : (H : Type) → List (DataW H) → Bool := fun _ ds => decide (uptoBulkAll ds ≤ 1048576)
def OpenSpec.upto (s : _root_.Go.ChangeSpec) : _root_.Go.OpenSpec := { _root_.Go.OpenSpec.ofChange s with cond := some uptoSmall }

/-- 'smithylaw05.KeccakTurns', WHERE WHAT IT READS IS OF BULK AT MOST 1048576: true; the input reads as it did. -/
def keccakTurnsUptoRow : OpenClaim := { program := "ytgejfdbbapjpmaadoor", sum := "e4a99978da97f2186db3eca278d5822fa960a97134e6ebe1dbdbfa20b174e0e1", func := "smithy/smithylaw05.KeccakTurns", spec := "keccakTurns", named := ["smithy/keccak.constants", "smithy/keccak.way"], apart := false, laid := [("smithy/keccak.constants", laid_smithy_keccak_constants), ("smithy/keccak.way", laid_smithy_keccak_way)], narrowed := true }
def KeccakTurnsUptoSaid : Prop := keccakTurnsUptoRow.holds Tryd.pinned (OpenSpec.upto keccakTurnsSpec)

/-- 'smithylaw05.KeccakSums', WHERE WHAT IT READS IS OF BULK AT MOST 1048576: true; the input reads as it did. -/
def keccakSumsUptoRow : OpenClaim := { program := "ytgejfdbbapjpmaadoor", sum := "e4a99978da97f2186db3eca278d5822fa960a97134e6ebe1dbdbfa20b174e0e1", func := "smithy/smithylaw05.KeccakSums", spec := "keccakSums", named := ["smithy/keccak.constants", "smithy/keccak.way"], apart := false, laid := [("smithy/keccak.constants", laid_smithy_keccak_constants), ("smithy/keccak.way", laid_smithy_keccak_way)], narrowed := true }
def KeccakSumsUptoSaid : Prop := keccakSumsUptoRow.holds Tryd.pinned (OpenSpec.upto keccakSumsSpec)

/-- 'smithylaw05.KeccakEnds', WHERE WHAT IT READS IS OF BULK AT MOST 1048576: true; the input reads as it did. -/
def keccakEndsUptoRow : OpenClaim := { program := "ytgejfdbbapjpmaadoor", sum := "e4a99978da97f2186db3eca278d5822fa960a97134e6ebe1dbdbfa20b174e0e1", func := "smithy/smithylaw05.KeccakEnds", spec := "keccakEnds", named := ["smithy/keccak.constants", "smithy/keccak.way"], apart := false, laid := [("smithy/keccak.constants", laid_smithy_keccak_constants), ("smithy/keccak.way", laid_smithy_keccak_way)], narrowed := true }
def KeccakEndsUptoSaid : Prop := keccakEndsUptoRow.holds Tryd.pinned (OpenSpec.upto keccakEndsSpec)

end Rows
end Go.Proofs.YtgejfdbbapjpmaaDoor
