/- What the program's lists of keys have to tell: one contract a call. -/
import Derived.Test.YtiokejhplbadeaaSqO
namespace Go.Proofs.Ytiokejhplbadeaa
open Go Go.RowKit Go.Deep

end Go.Proofs.Ytiokejhplbadeaa
