/- What the program's lists of keys have to tell: one contract a call. -/
import Derived.Test.YtlekhmpalcgbmaaSqO
namespace Go.Proofs.Ytlekhmpalcgbmaa
open Go Go.RowKit Go.Deep

end Go.Proofs.Ytlekhmpalcgbmaa
