/- The program's lists of keys: Apart, over a map of the keys that were seen. -/
import Derived.Test.YtiokejhplbadeaaSqP2
import Derived.Maps.OwnSet
namespace Go.Proofs.Ytiokejhplbadeaa
open Go Go.RowKit Go.Deep

theorem keyed64 : Maps.Keyed Try.prog 32 := Maps.int_keyed Try.underlying32
theorem zeroB (w : World) : (zeroValue 4).run Try.prog w = .ok (.bool false) w := by kernel_rfl
theorem key64 {k : Nat} (hk : k < 18446744073709551616) : keyOf Try.prog 32 (.int .u64 (k : Nat)) = some (.int .u64 (k : Nat)) := by
  refine Maps.keyOf_int_mk Try.underlying32 ?_
  have m1 : IntKind.u64.min = 0 := rfl
  have m2 : IntKind.u64.max = 18446744073709551615 := rfl
  simp only [Lit.wf, Bool.and_eq_true, decide_eq_true_eq, m1, m2]
  omega
/- The map in block b has the keys L. -/
structure Seen (w0 w : World) (b : Nat) (L : List Nat) : Prop where
  low : Below w0.heap.size w0 w
  lo : w0.heap.size ≤ b
  own : ∃ D : DataW Unit, w.ownsMap Try.prog 32 (plainElem Try.prog 4) b L.length D ∧ Maps.IsMap D ∧ ∀ k : Nat, k < 18446744073709551616 → D.atKey (.int .u64 (k : Nat)) (.lit (.bool false)) = .lit (.bool (decide (k ∈ L)))
theorem Seen.made {w0 w : World} (h : Below w0.heap.size w0 w) : Seen w0 (w.alloc (.map #[] 0)) w.heap.size [] :=
  ⟨h.alloc h.size _, h.size, ⟨.map [], World.ownsMap_made _ _ _ _, ⟨_, rfl⟩, fun k _ => by simp [DataW.atKey]⟩⟩
section
variable {w : World} {v : Value} {kss : List (List Nat)}
end
end Go.Proofs.Ytiokejhplbadeaa
