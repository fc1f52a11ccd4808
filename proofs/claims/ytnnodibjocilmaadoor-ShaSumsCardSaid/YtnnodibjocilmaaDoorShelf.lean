/- No function of Go's library in this seat has a contract on the shelf: the library's texts that the walks lean on. -/
import Derived.Test.YtnnodibjocilmaaDoorProg
import Derived.Shelf.Bits.Mul64
import Derived.Shelf.Small.Bits
import Derived.StillTailTactics
