/- What the program's lists of keys have to tell: one contract a call. -/
import Derived.Test.YtjfhapobbglbpaaSqO
namespace Go.Proofs.Ytjfhapobbglbpaa
open Go Go.RowKit Go.Deep

end Go.Proofs.Ytjfhapobbglbpaa
