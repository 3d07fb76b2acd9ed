/- Adaptive replacement: a state's words. -/
import Derived.Test.YtemgbiohfgcphaaRcP
namespace Go.Proofs.Ytemgbiohfgcphaa
open Go Go.RowKit Go.Deep

abbrev l11C (c : Nat) (p : Nat) (u_t1 : Value) (u_t2 : Value) (u_b1 : Value) (u_b2 : Value) : Array Value := #[(.int .i64 (c : Nat)), (.int .i64 (p : Nat)), u_t1, u_t2, u_b1, u_b2]
abbrev z11 : Array Value := #[.int .i64 0, .int .i64 0, .slice none 0 0, .slice none 0 0, .slice none 0 0, .slice none 0 0]
abbrev T11 : TypeId := 28
/- The lists of a state's value read as the state's. -/
structure St11 (w : World) (s : L11) (u1 u2 u3 u4 : Value) : Prop where
  g1 : KV w u1 s.t1
  g2 : KV w u2 s.t2
  g3 : KV w u3 s.b1
  g4 : KV w u4 s.b2
section
variable {w w' : World} {s : L11} {u1 u2 u3 u4 : Value}
theorem St11.form1 (h : St11 w s u1 u2 u3 u4) : ∃ F n c, u1 = .slice F n c := h.g1.form
theorem St11.form2 (h : St11 w s u1 u2 u3 u4) : ∃ F n c, u2 = .slice F n c := h.g2.form
theorem St11.form3 (h : St11 w s u1 u2 u3 u4) : ∃ F n c, u3 = .slice F n c := h.g3.form
theorem St11.form4 (h : St11 w s u1 u2 u3 u4) : ∃ F n c, u4 = .slice F n c := h.g4.form
theorem St11.below (h : St11 w s u1 u2 u3 u4) (hb : Below w.heap.size w w') : St11 w' s u1 u2 u3 u4 := ⟨h.g1.below hb, h.g2.below hb, h.g3.below hb, h.g4.below hb⟩
theorem Bo.st11 {w0 : World} {T : TypeId} {b r : Nat} {cs zs : Array Value} (hb : Bo w0 w T b r cs zs) (ho : Only [b, r] w w') (h : St11 w s u1 u2 u3 u4) : St11 w' s u1 u2 u3 u4 := ⟨hb.kv ho h.g1, hb.kv ho h.g2, hb.kv ho h.g3, hb.kv ho h.g4⟩
theorem Bp.st11 {w0 : World} {T U : TypeId} {b r : Nat} {cs zs : Array Value} (hb : Bp w0 w T U b r cs zs) (ho : Only [b, r] w w') (h : St11 w s u1 u2 u3 u4) : St11 w' s u1 u2 u3 u4 := ⟨hb.kv ho h.g1, hb.kv ho h.g2, hb.kv ho h.g3, hb.kv ho h.g4⟩
end
def P11 (w : World) (s : L11) (e : Ending) (w' : World) : Prop := ∃ u1 u2 u3 u4, e = .returned (.agg (l11C s.c s.p u1 u2 u3 u4)) ∧ Below w.heap.size w w' ∧ St11 w' s u1 u2 u3 u4
def P11o (w : World) (s : L11) (out : List Nat) (e : Ending) (w' : World) : Prop := ∃ u1 u2 u3 u4 o, e = .returned (.tuple #[.agg (l11C s.c s.p u1 u2 u3 u4), o]) ∧ Below w.heap.size w w' ∧ St11 w' s u1 u2 u3 u4 ∧ KV w' o out
theorem B11.start (w : World) (c : Nat) (p : Nat) (F1 : Option Addr) (n1 d1 : Nat) (F2 : Option Addr) (n2 d2 : Nat) (F3 : Option Addr) (n3 d3 : Nat) (F4 : Option Addr) (n4 d4 : Nat) : Bo w ((w.alloc (.cells (l11C c p (.slice F1 n1 d1) (.slice F2 n2 d2) (.slice F3 n3 d3) (.slice F4 n4 d4)) T11)).alloc (.cells z11 T11)) T11 w.heap.size (w.heap.size + 1) (l11C c p (.slice F1 n1 d1) (.slice F2 n2 d2) (.slice F3 n3 d3) (.slice F4 n4 d4)) z11 :=
  Bo.start w T11 _ _ rfl rfl (by decide)
end Go.Proofs.Ytemgbiohfgcphaa
