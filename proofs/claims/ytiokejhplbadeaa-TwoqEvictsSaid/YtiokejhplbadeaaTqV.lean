/- Two queues: a state in a box. -/
import Derived.Test.YtiokejhplbadeaaTqB
namespace Go.Proofs.Ytiokejhplbadeaa
open Go Go.RowKit Go.Deep

structure Bx9 (w w1 : World) (T : TypeId) (b r : Nat) (s : L9) (u1 u2 u3 : Value) : Prop where
  bo : Bo w w1 T b r (l9C s.c u1 u2 u3) z9
  st : St9 w1 s u1 u2 u3
section
variable {w w1 w2 : World} {T : TypeId} {b r : Nat} {s : L9} {u1 u2 u3 : Value}
theorem Bx9.start (w : World) (T : TypeId) (hT : T ≠ 32) {s : L9} {F1 : Option Addr} {n1 d1 : Nat} {F2 : Option Addr} {n2 d2 : Nat} {F3 : Option Addr} {n3 d3 : Nat} (h : St9 w s (.slice F1 n1 d1) (.slice F2 n2 d2) (.slice F3 n3 d3)) : Bx9 w ((w.alloc (.cells (l9C s.c (.slice F1 n1 d1) (.slice F2 n2 d2) (.slice F3 n3 d3)) T)).alloc (.cells z9 T)) T w.heap.size (w.heap.size + 1) s (.slice F1 n1 d1) (.slice F2 n2 d2) (.slice F3 n3 d3) :=
  ⟨Bo.start w T _ _ rfl rfl hT, h.below (low_two w _ _)⟩
theorem Bx9.step (h : Bx9 w w1 T b r s u1 u2 u3) (hb : Below w1.heap.size w1 w2) : Bx9 w w2 T b r s u1 u2 u3 := ⟨h.bo.step hb, h.st.below hb⟩
theorem Bx9.kv {v : Value} {ks : List Nat} {i : Nat} {x : Value} (h : Bx9 w w1 T b r s u1 u2 u3) (hk : KV w1 v ks) : KV (w1.setCell ⟨b, i, none⟩ x) v ks := h.bo.kv ((Only.refl _ _).setCell (by simp) _) hk
theorem Bx9.set1 (h : Bx9 w w1 T b r s u1 u2 u3) {F : Option Addr} {m d : Nat} {ks : List Nat} (hk : KV w1 (.slice F m d) ks) : Bx9 w (w1.setCell ⟨b, 1, none⟩ (.slice F m d)) T b r ⟨s.c, ks, s.out, s.main⟩ (.slice F m d) u2 u3 := by
  obtain ⟨F1, n1, d1, rfl⟩ := h.st.form1
  obtain ⟨F2, n2, d2, rfl⟩ := h.st.form2
  obtain ⟨F3, n3, d3, rfl⟩ := h.st.form3
  obtain ⟨h1, h2⟩ := h.bo.set 1 (.slice F m d) rfl
  exact ⟨h1, h.bo.kv h2 hk, h.bo.kv h2 h.st.g2, h.bo.kv h2 h.st.g3⟩
theorem Bx9.set2 (h : Bx9 w w1 T b r s u1 u2 u3) {F : Option Addr} {m d : Nat} {ks : List Nat} (hk : KV w1 (.slice F m d) ks) : Bx9 w (w1.setCell ⟨b, 2, none⟩ (.slice F m d)) T b r ⟨s.c, s.inn, ks, s.main⟩ u1 (.slice F m d) u3 := by
  obtain ⟨F1, n1, d1, rfl⟩ := h.st.form1
  obtain ⟨F2, n2, d2, rfl⟩ := h.st.form2
  obtain ⟨F3, n3, d3, rfl⟩ := h.st.form3
  obtain ⟨h1, h2⟩ := h.bo.set 2 (.slice F m d) rfl
  exact ⟨h1, h.bo.kv h2 h.st.g1, h.bo.kv h2 hk, h.bo.kv h2 h.st.g3⟩
theorem Bx9.set3 (h : Bx9 w w1 T b r s u1 u2 u3) {F : Option Addr} {m d : Nat} {ks : List Nat} (hk : KV w1 (.slice F m d) ks) : Bx9 w (w1.setCell ⟨b, 3, none⟩ (.slice F m d)) T b r ⟨s.c, s.inn, s.out, ks⟩ u1 u2 (.slice F m d) := by
  obtain ⟨F1, n1, d1, rfl⟩ := h.st.form1
  obtain ⟨F2, n2, d2, rfl⟩ := h.st.form2
  obtain ⟨F3, n3, d3, rfl⟩ := h.st.form3
  obtain ⟨h1, h2⟩ := h.bo.set 3 (.slice F m d) rfl
  exact ⟨h1, h.bo.kv h2 h.st.g1, h.bo.kv h2 h.st.g2, h.bo.kv h2 hk⟩
theorem Bx9.set0 (h : Bx9 w w1 T b r s u1 u2 u3) (c' : Nat) : Bx9 w (w1.setCell ⟨b, 0, none⟩ (.int .i64 (c' : Nat))) T b r ⟨c', s.inn, s.out, s.main⟩ u1 u2 u3 := by
  obtain ⟨F1, n1, d1, rfl⟩ := h.st.form1
  obtain ⟨F2, n2, d2, rfl⟩ := h.st.form2
  obtain ⟨F3, n3, d3, rfl⟩ := h.st.form3
  obtain ⟨h1, h2⟩ := h.bo.set 0 (.int .i64 (c' : Nat)) rfl
  exact ⟨h1, h.bo.kv h2 h.st.g1, h.bo.kv h2 h.st.g2, h.bo.kv h2 h.st.g3⟩
theorem Bx9.only (_ : Bx9 w w1 T b r s u1 u2 u3) : Only [b, r] w1 ((((w1.setCell ⟨r, 0, none⟩ (.int .i64 (s.c : Nat))).setCell ⟨r, 1, none⟩ u1).setCell ⟨r, 2, none⟩ u2).setCell ⟨r, 3, none⟩ u3) := ((((Only.refl _ _).setCell (by simp) _).setCell (by simp) _).setCell (by simp) _).setCell (by simp) _
theorem Bx9.done (h : Bx9 w w1 T b r s u1 u2 u3) : P9 w s (.returned (.agg (l9C s.c u1 u2 u3))) ((((w1.setCell ⟨r, 0, none⟩ (.int .i64 (s.c : Nat))).setCell ⟨r, 1, none⟩ u1).setCell ⟨r, 2, none⟩ u2).setCell ⟨r, 3, none⟩ u3) := ⟨_, _, _, rfl, h.bo.fin h.only, h.bo.st9 h.only h.st⟩
theorem Bx9.doneo (h : Bx9 w w1 T b r s u1 u2 u3) {o : Value} {out : List Nat} (ho : KV w1 o out) : P9o w s out (.returned (.tuple #[.agg (l9C s.c u1 u2 u3), o])) ((((w1.setCell ⟨r, 0, none⟩ (.int .i64 (s.c : Nat))).setCell ⟨r, 1, none⟩ u1).setCell ⟨r, 2, none⟩ u2).setCell ⟨r, 3, none⟩ u3) := ⟨_, _, _, _, rfl, h.bo.fin h.only, h.bo.st9 h.only h.st, h.bo.kv h.only ho⟩
/- All cells of the box are stored anew. -/
theorem Bx9.put {s' : L9} {u1 u2 u3 : Value} {F1 : Option Addr} {n1 d1 : Nat} {F2 : Option Addr} {n2 d2 : Nat} {F3 : Option Addr} {n3 d3 : Nat} (h : Bx9 w w1 T b r s u1 u2 u3) (hs : St9 w1 s' (.slice F1 n1 d1) (.slice F2 n2 d2) (.slice F3 n3 d3)) : Bx9 w ((((w1.setCell ⟨b, 0, none⟩ (.int .i64 (s'.c : Nat))).setCell ⟨b, 1, none⟩ (.slice F1 n1 d1)).setCell ⟨b, 2, none⟩ (.slice F2 n2 d2)).setCell ⟨b, 3, none⟩ (.slice F3 n3 d3)) T b r s' (.slice F1 n1 d1) (.slice F2 n2 d2) (.slice F3 n3 d3) := by
  obtain ⟨h1, h2⟩ := c4_set h.bo.box (.int .i64 (s'.c : Nat)) (.slice F1 n1 d1) (.slice F2 n2 d2) (.slice F3 n3 d3)
  have ho : Only [b, r] w1 ((((w1.setCell ⟨b, 0, none⟩ (.int .i64 (s'.c : Nat))).setCell ⟨b, 1, none⟩ (.slice F1 n1 d1)).setCell ⟨b, 2, none⟩ (.slice F2 n2 d2)).setCell ⟨b, 3, none⟩ (.slice F3 n3 d3)) := ((((Only.refl _ _).setCell (by simp) _).setCell (by simp) _).setCell (by simp) _).setCell (by simp) _
  exact ⟨⟨h.bo.fin ho, h1, (h2.block r (head_row h.bo.res).lt (by simpa using fun e => h.bo.ge.2.2 e.symm)).trans h.bo.res, h.bo.ge, ⟨rfl, h.bo.nu.2⟩, h.bo.ty⟩, h.bo.st9 ho hs⟩
theorem Bx9.putOnly {s' : L9} {v1 v2 v3 : Value} (_ : Bx9 w w1 T b r s u1 u2 u3) : Only [b, r] w1 ((((w1.setCell ⟨b, 0, none⟩ (.int .i64 (s'.c : Nat))).setCell ⟨b, 1, none⟩ v1).setCell ⟨b, 2, none⟩ v2).setCell ⟨b, 3, none⟩ v3) := ((((Only.refl _ _).setCell (by simp) _).setCell (by simp) _).setCell (by simp) _).setCell (by simp) _
/- A new box, of a state that was told. -/
theorem Bx9.alloc {s' : L9} {v1 v2 v3 : Value} {F1 : Option Addr} {n1 d1 : Nat} {F2 : Option Addr} {n2 d2 : Nat} {F3 : Option Addr} {n3 d3 : Nat} (h : Bx9 w w1 T b r s' v1 v2 v3) (hs : St9 w1 s (.slice F1 n1 d1) (.slice F2 n2 d2) (.slice F3 n3 d3)) : Bx9 w (w1.alloc (.cells (l9C s.c (.slice F1 n1 d1) (.slice F2 n2 d2) (.slice F3 n3 d3)) T)) T w1.heap.size r s (.slice F1 n1 d1) (.slice F2 n2 d2) (.slice F3 n3 d3) :=
  ⟨h.bo.alloc _ rfl, hs.below (low_one w1 _)⟩
end
/- A state in a box, alone. -/
structure Bs9 (w w1 : World) (T : TypeId) (b : Nat) (s : L9) (u1 u2 u3 : Value) : Prop where
  low : Below w.heap.size w w1
  box : w1.heap[b]? = some (.cells (l9C s.c u1 u2 u3) T (0, 0))
  ge : w.heap.size ≤ b
  ty : T ≠ 32
  st : St9 w1 s u1 u2 u3
section
variable {w w1 w2 : World} {T : TypeId} {b : Nat} {s : L9} {u1 u2 u3 : Value}
theorem Bs9.step (h : Bs9 w w1 T b s u1 u2 u3) (hb : Below w1.heap.size w1 w2) : Bs9 w w2 T b s u1 u2 u3 := ⟨h.low.trans (hb.mono h.low.size), (hb.block b (head_row h.box).lt).trans h.box, h.ge, h.ty, h.st.below hb⟩
theorem Bs9.new {F1 : Option Addr} {n1 d1 : Nat} {F2 : Option Addr} {n2 d2 : Nat} {F3 : Option Addr} {n3 d3 : Nat} (hT : T ≠ 32) (hb : Below w.heap.size w w1) (hs : St9 w1 s (.slice F1 n1 d1) (.slice F2 n2 d2) (.slice F3 n3 d3)) : Bs9 w (w1.alloc (.cells (l9C s.c (.slice F1 n1 d1) (.slice F2 n2 d2) (.slice F3 n3 d3)) T)) T w1.heap.size s (.slice F1 n1 d1) (.slice F2 n2 d2) (.slice F3 n3 d3) := ⟨hb.alloc hb.size _, heap_alloc_new w1 _, hb.size, hT, hs.below (low_one w1 _)⟩
theorem Bs9.put {s' : L9} {F1 : Option Addr} {n1 d1 : Nat} {F2 : Option Addr} {n2 d2 : Nat} {F3 : Option Addr} {n3 d3 : Nat} (h : Bs9 w w1 T b s u1 u2 u3) (hs : St9 w1 s' (.slice F1 n1 d1) (.slice F2 n2 d2) (.slice F3 n3 d3)) : Bs9 w ((((w1.setCell ⟨b, 0, none⟩ (.int .i64 (s'.c : Nat))).setCell ⟨b, 1, none⟩ (.slice F1 n1 d1)).setCell ⟨b, 2, none⟩ (.slice F2 n2 d2)).setCell ⟨b, 3, none⟩ (.slice F3 n3 d3)) T b s' (.slice F1 n1 d1) (.slice F2 n2 d2) (.slice F3 n3 d3) := by
  obtain ⟨G1, m1, e1, rfl⟩ := h.st.form1
  obtain ⟨G2, m2, e2, rfl⟩ := h.st.form2
  obtain ⟨G3, m3, e3, rfl⟩ := h.st.form3
  obtain ⟨h1, h2⟩ := c4_set h.box (.int .i64 (s'.c : Nat)) (.slice F1 n1 d1) (.slice F2 n2 d2) (.slice F3 n3 d3)
  have hbx : ∀ g ∈ [b], Bx w1 g := fun g hg => by
    rw [List.mem_singleton] at hg
    subst hg
    exact ⟨_, _, h.box, rfl, h.ty⟩
  exact ⟨h.low.trans (h2.below (by simp; exact h.ge) h.low.size), h1, h.ge, h.ty, hs.g1.only h2 hbx, hs.g2.only h2 hbx, hs.g3.only h2 hbx⟩
theorem Bs9.kv {v : Value} {ks : List Nat} {s' : L9} {v1 v2 v3 : Value} (h : Bs9 w w1 T b s u1 u2 u3) (hk : KV w1 v ks) : KV ((((w1.setCell ⟨b, 0, none⟩ (.int .i64 (s'.c : Nat))).setCell ⟨b, 1, none⟩ v1).setCell ⟨b, 2, none⟩ v2).setCell ⟨b, 3, none⟩ v3) v ks := by
  obtain ⟨G1, m1, e1, rfl⟩ := h.st.form1
  obtain ⟨G2, m2, e2, rfl⟩ := h.st.form2
  obtain ⟨G3, m3, e3, rfl⟩ := h.st.form3
  have hbx : ∀ g ∈ [b], Bx w1 g := fun g hg => by
    rw [List.mem_singleton] at hg
    subst hg
    exact ⟨_, _, h.box, rfl, h.ty⟩
  exact hk.only (((((Only.refl [b] _).setCell (by simp) _).setCell (by simp) _).setCell (by simp) _).setCell (by simp) _) hbx
end
end Go.Proofs.Ytiokejhplbadeaa
