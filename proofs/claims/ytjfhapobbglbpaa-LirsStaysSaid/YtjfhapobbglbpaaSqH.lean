/- The document's own lists of keys: Fall. -/
import Derived.Test.YtjfhapobbglbpaaSqO
namespace Go.Proofs.Ytjfhapobbglbpaa
open Go Go.RowKit Go.Deep

section
variable {w : World} {v : Value} {ks : List Nat}
def FallP (w : World) (ks : List Nat) (N : Nat) (e : Ending) (w' : World) : Prop := ∃ v1 v2, e = .returned (.tuple #[v1, v2]) ∧ KO w.heap.size w w' v1 (ks.drop N).reverse ∧ KV w' v2 (ks.take N)
end
end Go.Proofs.Ytjfhapobbglbpaa
