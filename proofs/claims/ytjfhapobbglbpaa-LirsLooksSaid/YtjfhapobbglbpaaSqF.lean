/- The document's own lists of keys: Front. -/
import Derived.Test.YtjfhapobbglbpaaSqS
namespace Go.Proofs.Ytjfhapobbglbpaa
open Go Go.RowKit Go.Deep

section
variable {w : World} {v : Value} {ks : List Nat}
def fr (k : Nat) (ks : List Nat) : List Nat := k :: wo k ks
theorem fr_len (k : Nat) (ks : List Nat) : (fr k ks).length ≤ ks.length + 1 := by
  have := wo_len k ks
  simp [fr]
  omega
theorem drop_rev {m : Nat} (hm : m < ks.length) : (ks.drop m).reverse = (ks.drop (m + 1)).reverse ++ [ks[m]] := by
  rw [List.drop_eq_getElem_cons hm, List.reverse_cons]
end
end Go.Proofs.Ytjfhapobbglbpaa
