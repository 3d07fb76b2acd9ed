/- Least recently used: a state's words. -/
import Derived.Test.YtemgbiohfgcphaaLrP
namespace Go.Proofs.Ytemgbiohfgcphaa
open Go Go.RowKit Go.Deep

abbrev l8C (c : Nat) (u_l : Value) : Array Value := #[(.int .i64 (c : Nat)), u_l]
abbrev z8 : Array Value := #[.int .i64 0, .slice none 0 0]
abbrev T8 : TypeId := 55
/- The lists of a state's value read as the state's. -/
structure St8 (w : World) (s : L8) (u1 : Value) : Prop where
  g1 : KV w u1 s.l
section
variable {w w' : World} {s : L8} {u1 : Value}
theorem St8.form1 (h : St8 w s u1) : ∃ F n c, u1 = .slice F n c := h.g1.form
theorem St8.below (h : St8 w s u1) (hb : Below w.heap.size w w') : St8 w' s u1 := ⟨h.g1.below hb⟩
theorem Bo.st8 {w0 : World} {T : TypeId} {b r : Nat} {cs zs : Array Value} (hb : Bo w0 w T b r cs zs) (ho : Only [b, r] w w') (h : St8 w s u1) : St8 w' s u1 := ⟨hb.kv ho h.g1⟩
theorem Bp.st8 {w0 : World} {T U : TypeId} {b r : Nat} {cs zs : Array Value} (hb : Bp w0 w T U b r cs zs) (ho : Only [b, r] w w') (h : St8 w s u1) : St8 w' s u1 := ⟨hb.kv ho h.g1⟩
end
def P8 (w : World) (s : L8) (e : Ending) (w' : World) : Prop := ∃ u1, e = .returned (.agg (l8C s.c u1)) ∧ Below w.heap.size w w' ∧ St8 w' s u1
def P8o (w : World) (s : L8) (out : List Nat) (e : Ending) (w' : World) : Prop := ∃ u1 o, e = .returned (.tuple #[.agg (l8C s.c u1), o]) ∧ Below w.heap.size w w' ∧ St8 w' s u1 ∧ KV w' o out
theorem B8.start (w : World) (c : Nat) (F1 : Option Addr) (n1 d1 : Nat) : Bo w ((w.alloc (.cells (l8C c (.slice F1 n1 d1)) T8)).alloc (.cells z8 T8)) T8 w.heap.size (w.heap.size + 1) (l8C c (.slice F1 n1 d1)) z8 :=
  Bo.start w T8 _ _ rfl rfl (by decide)
end Go.Proofs.Ytemgbiohfgcphaa
