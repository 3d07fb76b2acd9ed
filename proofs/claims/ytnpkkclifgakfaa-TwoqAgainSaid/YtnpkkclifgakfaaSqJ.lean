/- What the program's lists of keys have to tell: one contract a call. -/
import Derived.Test.YtnpkkclifgakfaaSqO
namespace Go.Proofs.Ytnpkkclifgakfaa
open Go Go.RowKit Go.Deep

end Go.Proofs.Ytnpkkclifgakfaa
