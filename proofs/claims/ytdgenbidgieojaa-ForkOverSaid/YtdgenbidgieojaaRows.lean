/-
  No cell of these rows narrows 'for every input' (looked for: loops, veiled, ifaces, maps, wideKeys, modest, calm, conditions, laid).
  DERIVED. THE GIVEN ROWS OF THIS SEAT. 4 by the template 'for every input the law returns true; each argument reads behind the call as it read before'; 0 by the template 'total and deterministic' (their statements: YtdgenbidgieojaaTotals.lean).
  GIVEN WITH THE SEED: the statements are not yours to turn. If you find one false, say at which input.
  Laid BY PROGRAM, IN A SANDBOX (cutbox-rows.mjs): the forced cells as the released guide's own fill.sh prints them over the translation 660a887023c61878… (all of the seat's roots in one cut). By AI agents, Wed Nov 11 2026. No macro, syntax, notation, axiom, sorry.
-/
import Derived.Test.YtdgenbidgieojaaChecked
import GoSem.Claim
import GoSem.ClaimJoined
import GoSem.ClaimMapViews
import Derived.JoinedTies
import Derived.KernelRfl
namespace Go.Proofs.Ytdgenbidgieojaa
/- THE CELL 'sum', in the pinned program and in every row, IS THE sha256 OF THE DUMP (.gsa) THAT YtdgenbidgieojaaProg.lean LOADS. Nothing in Lean hashes anything: it is a label: what it is worth is what the hold of that sum in a sandbox is worth. -/
noncomputable def Try.pinned : Pinned := { name := "ytdgenbidgieojaa", sum := "660a887023c61878ca88be67de59542a71ebf65d00242ed1fb4affed45ab336c", checked := Try.checked }
namespace Rows
def none {H : Type} : Left H := { results := [], args := [] }

/-- 'smithylaw15.ForkPlays': WHATEVER THE INPUT: true; the input reads as it did. -/
def forkPlaysSpec : ChangeSpec := { name := "forkPlays", fn := fun _ => fun
  | [d] => { results := [.lit (.bool true)], args := [d] }
  | _ => none }
def forkPlaysRow : OpenClaim := { program := "ytdgenbidgieojaa", sum := "660a887023c61878ca88be67de59542a71ebf65d00242ed1fb4affed45ab336c", func := "smithy/smithylaw15.ForkPlays", spec := "forkPlays", inPlace := ["internal/bytealg.Compare"], unfollowed := true, recurses := true, plainKeys := false, apart := false }
def ForkPlaysSaid : Prop := forkPlaysRow.holds Try.pinned (OpenSpec.ofChange forkPlaysSpec)

/-- ITS FALSE NEIGHBOUR: 'it returns false'. Refute it at one input. -/
def forkPlaysWrong : ChangeSpec := { name := "forkPlays", fn := fun _ => fun
  | [d] => { results := [.lit (.bool false)], args := [d] }
  | _ => none }
def ForkPlaysWrongFalsely : Prop := forkPlaysRow.holds Try.pinned (OpenSpec.ofChange forkPlaysWrong)

/-- 'smithylaw15.ForkWays': WHATEVER THE INPUT: true; the input reads as it did. -/
def forkWaysSpec : ChangeSpec := { name := "forkWays", fn := fun _ => fun
  | [d1, d2, d3] => { results := [.lit (.bool true)], args := [d1, d2, d3] }
  | _ => none }
def forkWaysRow : OpenClaim := { program := "ytdgenbidgieojaa", sum := "660a887023c61878ca88be67de59542a71ebf65d00242ed1fb4affed45ab336c", func := "smithy/smithylaw15.ForkWays", spec := "forkWays", plainKeys := false, apart := false }
def ForkWaysSaid : Prop := forkWaysRow.holds Try.pinned (OpenSpec.ofChange forkWaysSpec)

/-- ITS FALSE NEIGHBOUR: 'it returns false'. Refute it at one input. -/
def forkWaysWrong : ChangeSpec := { name := "forkWays", fn := fun _ => fun
  | [d1, d2, d3] => { results := [.lit (.bool false)], args := [d1, d2, d3] }
  | _ => none }
def ForkWaysWrongFalsely : Prop := forkWaysRow.holds Try.pinned (OpenSpec.ofChange forkWaysWrong)

/-- 'smithylaw15.ForkOver': WHATEVER THE INPUT: true; the input reads as it did. -/
def forkOverSpec : ChangeSpec := { name := "forkOver", fn := fun _ => fun
  | [d1, d2, d3] => { results := [.lit (.bool true)], args := [d1, d2, d3] }
  | _ => none }
def forkOverRow : OpenClaim := { program := "ytdgenbidgieojaa", sum := "660a887023c61878ca88be67de59542a71ebf65d00242ed1fb4affed45ab336c", func := "smithy/smithylaw15.ForkOver", spec := "forkOver", unfollowed := true, recurses := true, plainKeys := false, apart := false }
def ForkOverSaid : Prop := forkOverRow.holds Try.pinned (OpenSpec.ofChange forkOverSpec)

/-- ITS FALSE NEIGHBOUR: 'it returns false'. Refute it at one input. -/
def forkOverWrong : ChangeSpec := { name := "forkOver", fn := fun _ => fun
  | [d1, d2, d3] => { results := [.lit (.bool false)], args := [d1, d2, d3] }
  | _ => none }
def ForkOverWrongFalsely : Prop := forkOverRow.holds Try.pinned (OpenSpec.ofChange forkOverWrong)

/-- 'smithylaw15.ForkNil': WHATEVER THE INPUT: true; the input reads as it did. -/
def forkNilSpec : ChangeSpec := { name := "forkNil", fn := fun _ => fun
  | [d] => { results := [.lit (.bool true)], args := [d] }
  | _ => none }
def forkNilRow : OpenClaim := { program := "ytdgenbidgieojaa", sum := "660a887023c61878ca88be67de59542a71ebf65d00242ed1fb4affed45ab336c", func := "smithy/smithylaw15.ForkNil", spec := "forkNil", inPlace := ["internal/bytealg.Compare"], unfollowed := true, recurses := true, plainKeys := false, apart := false }
def ForkNilSaid : Prop := forkNilRow.holds Try.pinned (OpenSpec.ofChange forkNilSpec)

/-- ITS FALSE NEIGHBOUR: 'it returns false'. Refute it at one input. -/
def forkNilWrong : ChangeSpec := { name := "forkNil", fn := fun _ => fun
  | [d] => { results := [.lit (.bool false)], args := [d] }
  | _ => none }
def ForkNilWrongFalsely : Prop := forkNilRow.holds Try.pinned (OpenSpec.ofChange forkNilWrong)

/- THE SECOND FORM. 'bulk': how many values and letters a reading holds, each counted each time it is reached (what is shared counts as often as it is met; a slice's spare places count too). A statement '..UptoSaid' is the law's where the arguments, and the package variables that the reading takes, are together of bulk at most 1048576: NARROWER than '..Said'. Prove '..Said' where nothing that the law and all that it calls make is longer than what came in: it says more and counts as full. Else prove '..UptoSaid'. A law counts once. -/
mutual
def uptoBulk {H : Type} : DataW H → Nat
  | .lit (.string bytes) => bytes.length + 1
  | .lit _ => 1
  | .nil => 1
  | .ptr d => uptoBulk d + 1
  | .slice elems spare => uptoBulkAll elems + uptoBulkAll spare + 1
  | .agg parts => uptoBulkAll parts + 1
  | .iface _ d => uptoBulk d + 1
  | .map entries => uptoBulkEntries entries + 1
  | .held _ => 1
def uptoBulkAll {H : Type} : List (DataW H) → Nat
  | [] => 0
  | d :: r => uptoBulk d + uptoBulkAll r
def uptoBulkEntries {H : Type} : List (Lit × DataW H) → Nat
  | [] => 0
  | x :: r => uptoBulkEntry x + uptoBulkEntries r
def uptoBulkEntry {H : Type} : Lit × DataW H → Nat
  | (.string bytes, d) => bytes.length + uptoBulk d + 1
  | (_, d) => uptoBulk d + 1
 end
def uptoSmall : (H : Type) → List (DataW H) → Bool := fun _ ds => decide (uptoBulkAll ds ≤ 1048576)
def OpenSpec.upto (s : _root_.Go.ChangeSpec) : _root_.Go.OpenSpec := { _root_.Go.OpenSpec.ofChange s with cond := some uptoSmall }

/-- 'smithylaw15.ForkPlays', WHERE WHAT IT READS IS OF BULK AT MOST 1048576: true; the input reads as it did. -/
def forkPlaysUptoRow : OpenClaim := { program := "ytdgenbidgieojaa", sum := "660a887023c61878ca88be67de59542a71ebf65d00242ed1fb4affed45ab336c", func := "smithy/smithylaw15.ForkPlays", spec := "forkPlays", inPlace := ["internal/bytealg.Compare"], unfollowed := true, recurses := true, plainKeys := false, apart := false, narrowed := true }
def ForkPlaysUptoSaid : Prop := forkPlaysUptoRow.holds Try.pinned (OpenSpec.upto forkPlaysSpec)

/-- 'smithylaw15.ForkWays', WHERE WHAT IT READS IS OF BULK AT MOST 1048576: true; the input reads as it did. -/
def forkWaysUptoRow : OpenClaim := { program := "ytdgenbidgieojaa", sum := "660a887023c61878ca88be67de59542a71ebf65d00242ed1fb4affed45ab336c", func := "smithy/smithylaw15.ForkWays", spec := "forkWays", plainKeys := false, apart := false, narrowed := true }
def ForkWaysUptoSaid : Prop := forkWaysUptoRow.holds Try.pinned (OpenSpec.upto forkWaysSpec)

/-- 'smithylaw15.ForkOver', WHERE WHAT IT READS IS OF BULK AT MOST 1048576: true; the input reads as it did. -/
def forkOverUptoRow : OpenClaim := { program := "ytdgenbidgieojaa", sum := "660a887023c61878ca88be67de59542a71ebf65d00242ed1fb4affed45ab336c", func := "smithy/smithylaw15.ForkOver", spec := "forkOver", unfollowed := true, recurses := true, plainKeys := false, apart := false, narrowed := true }
def ForkOverUptoSaid : Prop := forkOverUptoRow.holds Try.pinned (OpenSpec.upto forkOverSpec)

/-- 'smithylaw15.ForkNil', WHERE WHAT IT READS IS OF BULK AT MOST 1048576: true; the input reads as it did. -/
def forkNilUptoRow : OpenClaim := { program := "ytdgenbidgieojaa", sum := "660a887023c61878ca88be67de59542a71ebf65d00242ed1fb4affed45ab336c", func := "smithy/smithylaw15.ForkNil", spec := "forkNil", inPlace := ["internal/bytealg.Compare"], unfollowed := true, recurses := true, plainKeys := false, apart := false, narrowed := true }
def ForkNilUptoSaid : Prop := forkNilUptoRow.holds Try.pinned (OpenSpec.upto forkNilSpec)

end Rows
end Go.Proofs.Ytdgenbidgieojaa
