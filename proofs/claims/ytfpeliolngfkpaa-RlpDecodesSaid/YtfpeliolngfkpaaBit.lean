/- What the method Bit and the function Bits of the document's digits do: a bit of a number, and the digits of the number whose bits these are. -/
import Derived.Test.YtfpeliolngfkpaaRefA
import Derived.Test.YtfpeliolngfkpaaBitM
namespace Go.Proofs.Ytfpeliolngfkpaa
open Go.RowKit SmWord
set_option maxRecDepth 100000

/-- A bit of n; 0 where there is none. -/
def bitI (n : Nat) (i : Int) : Int := if i < 0 ∨ 255 < i then 0 else ((bitN n i.toNat : Nat) : Int)
end Go.Proofs.Ytfpeliolngfkpaa
