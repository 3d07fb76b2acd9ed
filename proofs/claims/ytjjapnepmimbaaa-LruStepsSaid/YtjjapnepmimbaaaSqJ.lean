/- What the program's lists of keys have to tell: one contract a call. -/
import Derived.Test.YtjjapnepmimbaaaSqO
namespace Go.Proofs.Ytjjapnepmimbaaa
open Go Go.RowKit Go.Deep

end Go.Proofs.Ytjjapnepmimbaaa
