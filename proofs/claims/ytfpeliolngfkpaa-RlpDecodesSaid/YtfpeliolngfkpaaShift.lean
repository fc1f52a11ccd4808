/- What the functions Shl and Shr of package word do, for every word and every number of bits: they return the word times 2^n, going round, and divided by 2^n, cut down, and leave all older memory as it was. -/
import Derived.Test.YtfpeliolngfkpaaMul
namespace Go.Proofs.Ytfpeliolngfkpaa
open Go.RowKit SmWord
set_option maxRecDepth 100000

end Go.Proofs.Ytfpeliolngfkpaa
