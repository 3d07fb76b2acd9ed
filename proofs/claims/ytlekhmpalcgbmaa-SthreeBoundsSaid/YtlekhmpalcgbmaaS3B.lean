/- Three simple queues: a state's words. -/
import Derived.Test.YtlekhmpalcgbmaaS3P
import Derived.Test.YtlekhmpalcgbmaaItA
namespace Go.Proofs.Ytlekhmpalcgbmaa
open Go Go.RowKit Go.Deep

abbrev l10C (c : Nat) (u_small : Value) (u_main : Value) (u_ghost : Value) : Array Value := #[(.int .i64 (c : Nat)), u_small, u_main, u_ghost]
abbrev z10 : Array Value := #[.int .i64 0, .slice none 0 0, .slice none 0 0, .slice none 0 0]
abbrev T10 : TypeId := 31
/- The lists of a state's value read as the state's. -/
structure St10 (w : World) (s : L10) (u1 u2 u3 : Value) : Prop where
  g1 : IV w u1 s.small
  g2 : IV w u2 s.main
  g3 : KV w u3 s.ghost
section
variable {w w' : World} {s : L10} {u1 u2 u3 : Value}
theorem St10.form1 (h : St10 w s u1 u2 u3) : ∃ F n c, u1 = .slice F n c := h.g1.form
theorem St10.form2 (h : St10 w s u1 u2 u3) : ∃ F n c, u2 = .slice F n c := h.g2.form
theorem St10.form3 (h : St10 w s u1 u2 u3) : ∃ F n c, u3 = .slice F n c := h.g3.form
theorem St10.below (h : St10 w s u1 u2 u3) (hb : Below w.heap.size w w') : St10 w' s u1 u2 u3 := ⟨h.g1.below hb, h.g2.below hb, h.g3.below hb⟩
theorem Bo.st10 {w0 : World} {T : TypeId} {b r : Nat} {cs zs : Array Value} (hb : Bo w0 w T b r cs zs) (ho : Only [b, r] w w') (h : St10 w s u1 u2 u3) : St10 w' s u1 u2 u3 := ⟨hb.iv ho h.g1, hb.iv ho h.g2, hb.kv ho h.g3⟩
theorem Bp.st10 {w0 : World} {T U : TypeId} {b r : Nat} {cs zs : Array Value} (hb : Bp w0 w T U b r cs zs) (ho : Only [b, r] w w') (h : St10 w s u1 u2 u3) : St10 w' s u1 u2 u3 := ⟨hb.iv ho h.g1, hb.iv ho h.g2, hb.kv ho h.g3⟩
end
def P10 (w : World) (s : L10) (e : Ending) (w' : World) : Prop := ∃ u1 u2 u3, e = .returned (.agg (l10C s.c u1 u2 u3)) ∧ Below w.heap.size w w' ∧ St10 w' s u1 u2 u3
def P10o (w : World) (s : L10) (out : List Nat) (e : Ending) (w' : World) : Prop := ∃ u1 u2 u3 o, e = .returned (.tuple #[.agg (l10C s.c u1 u2 u3), o]) ∧ Below w.heap.size w w' ∧ St10 w' s u1 u2 u3 ∧ KV w' o out
theorem B10.start (w : World) (c : Nat) (F1 : Option Addr) (n1 d1 : Nat) (F2 : Option Addr) (n2 d2 : Nat) (F3 : Option Addr) (n3 d3 : Nat) : Bo w ((w.alloc (.cells (l10C c (.slice F1 n1 d1) (.slice F2 n2 d2) (.slice F3 n3 d3)) T10)).alloc (.cells z10 T10)) T10 w.heap.size (w.heap.size + 1) (l10C c (.slice F1 n1 d1) (.slice F2 n2 d2) (.slice F3 n3 d3)) z10 :=
  Bo.start w T10 _ _ rfl rfl (by decide)
end Go.Proofs.Ytlekhmpalcgbmaa
