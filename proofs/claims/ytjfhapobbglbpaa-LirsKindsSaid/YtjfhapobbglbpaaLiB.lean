/- Inter-reference recency: a state's words. -/
import Derived.Test.YtjfhapobbglbpaaLiP
import Derived.Test.YtjfhapobbglbpaaItA
namespace Go.Proofs.Ytjfhapobbglbpaa
open Go Go.RowKit Go.Deep

abbrev l12C (c : Nat) (u_s : Value) (u_q : Value) : Array Value := #[(.int .i64 (c : Nat)), u_s, u_q]
abbrev z12 : Array Value := #[.int .i64 0, .slice none 0 0, .slice none 0 0]
abbrev T12 : TypeId := 31
/- The lists of a state's value read as the state's. -/
structure St12 (w : World) (s : L12) (u1 u2 : Value) : Prop where
  g1 : IV w u1 s.s
  g2 : KV w u2 s.q
section
variable {w w' : World} {s : L12} {u1 u2 : Value}
theorem St12.form1 (h : St12 w s u1 u2) : ∃ F n c, u1 = .slice F n c := h.g1.form
theorem St12.form2 (h : St12 w s u1 u2) : ∃ F n c, u2 = .slice F n c := h.g2.form
theorem St12.below (h : St12 w s u1 u2) (hb : Below w.heap.size w w') : St12 w' s u1 u2 := ⟨h.g1.below hb, h.g2.below hb⟩
theorem Bo.st12 {w0 : World} {T : TypeId} {b r : Nat} {cs zs : Array Value} (hb : Bo w0 w T b r cs zs) (ho : Only [b, r] w w') (h : St12 w s u1 u2) : St12 w' s u1 u2 := ⟨hb.iv ho h.g1, hb.kv ho h.g2⟩
theorem Bp.st12 {w0 : World} {T U : TypeId} {b r : Nat} {cs zs : Array Value} (hb : Bp w0 w T U b r cs zs) (ho : Only [b, r] w w') (h : St12 w s u1 u2) : St12 w' s u1 u2 := ⟨hb.iv ho h.g1, hb.kv ho h.g2⟩
end
def P12 (w : World) (s : L12) (e : Ending) (w' : World) : Prop := ∃ u1 u2, e = .returned (.agg (l12C s.c u1 u2)) ∧ Below w.heap.size w w' ∧ St12 w' s u1 u2
def P12o (w : World) (s : L12) (out : List Nat) (e : Ending) (w' : World) : Prop := ∃ u1 u2 o, e = .returned (.tuple #[.agg (l12C s.c u1 u2), o]) ∧ Below w.heap.size w w' ∧ St12 w' s u1 u2 ∧ KV w' o out
theorem B12.start (w : World) (c : Nat) (F1 : Option Addr) (n1 d1 : Nat) (F2 : Option Addr) (n2 d2 : Nat) : Bo w ((w.alloc (.cells (l12C c (.slice F1 n1 d1) (.slice F2 n2 d2)) T12)).alloc (.cells z12 T12)) T12 w.heap.size (w.heap.size + 1) (l12C c (.slice F1 n1 d1) (.slice F2 n2 d2)) z12 :=
  Bo.start w T12 _ _ rfl rfl (by decide)
end Go.Proofs.Ytjfhapobbglbpaa
