/- Two queues: a state's words. -/
import Derived.Test.YtiokejhplbadeaaTqP
namespace Go.Proofs.Ytiokejhplbadeaa
open Go Go.RowKit Go.Deep

abbrev l9C (c : Nat) (u_inn : Value) (u_out : Value) (u_main : Value) : Array Value := #[(.int .i64 (c : Nat)), u_inn, u_out, u_main]
abbrev z9 : Array Value := #[.int .i64 0, .slice none 0 0, .slice none 0 0, .slice none 0 0]
abbrev T9 : TypeId := 63
/- The lists of a state's value read as the state's. -/
structure St9 (w : World) (s : L9) (u1 u2 u3 : Value) : Prop where
  g1 : KV w u1 s.inn
  g2 : KV w u2 s.out
  g3 : KV w u3 s.main
section
variable {w w' : World} {s : L9} {u1 u2 u3 : Value}
theorem St9.form1 (h : St9 w s u1 u2 u3) : ∃ F n c, u1 = .slice F n c := h.g1.form
theorem St9.form2 (h : St9 w s u1 u2 u3) : ∃ F n c, u2 = .slice F n c := h.g2.form
theorem St9.form3 (h : St9 w s u1 u2 u3) : ∃ F n c, u3 = .slice F n c := h.g3.form
theorem St9.below (h : St9 w s u1 u2 u3) (hb : Below w.heap.size w w') : St9 w' s u1 u2 u3 := ⟨h.g1.below hb, h.g2.below hb, h.g3.below hb⟩
theorem Bo.st9 {w0 : World} {T : TypeId} {b r : Nat} {cs zs : Array Value} (hb : Bo w0 w T b r cs zs) (ho : Only [b, r] w w') (h : St9 w s u1 u2 u3) : St9 w' s u1 u2 u3 := ⟨hb.kv ho h.g1, hb.kv ho h.g2, hb.kv ho h.g3⟩
theorem Bp.st9 {w0 : World} {T U : TypeId} {b r : Nat} {cs zs : Array Value} (hb : Bp w0 w T U b r cs zs) (ho : Only [b, r] w w') (h : St9 w s u1 u2 u3) : St9 w' s u1 u2 u3 := ⟨hb.kv ho h.g1, hb.kv ho h.g2, hb.kv ho h.g3⟩
end
def P9 (w : World) (s : L9) (e : Ending) (w' : World) : Prop := ∃ u1 u2 u3, e = .returned (.agg (l9C s.c u1 u2 u3)) ∧ Below w.heap.size w w' ∧ St9 w' s u1 u2 u3
def P9o (w : World) (s : L9) (out : List Nat) (e : Ending) (w' : World) : Prop := ∃ u1 u2 u3 o, e = .returned (.tuple #[.agg (l9C s.c u1 u2 u3), o]) ∧ Below w.heap.size w w' ∧ St9 w' s u1 u2 u3 ∧ KV w' o out
theorem B9.start (w : World) (c : Nat) (F1 : Option Addr) (n1 d1 : Nat) (F2 : Option Addr) (n2 d2 : Nat) (F3 : Option Addr) (n3 d3 : Nat) : Bo w ((w.alloc (.cells (l9C c (.slice F1 n1 d1) (.slice F2 n2 d2) (.slice F3 n3 d3)) T9)).alloc (.cells z9 T9)) T9 w.heap.size (w.heap.size + 1) (l9C c (.slice F1 n1 d1) (.slice F2 n2 d2) (.slice F3 n3 d3)) z9 :=
  Bo.start w T9 _ _ rfl rfl (by decide)
end Go.Proofs.Ytiokejhplbadeaa
