/- What the program's lists of keys have to tell: one contract a call. -/
import Derived.Test.YtemgbiohfgcphaaSqO
namespace Go.Proofs.Ytemgbiohfgcphaa
open Go Go.RowKit Go.Deep

end Go.Proofs.Ytemgbiohfgcphaa
