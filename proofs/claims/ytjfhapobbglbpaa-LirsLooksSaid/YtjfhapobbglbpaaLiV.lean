/- Inter-reference recency: a state in a box. -/
import Derived.Test.YtjfhapobbglbpaaLiB
namespace Go.Proofs.Ytjfhapobbglbpaa
open Go Go.RowKit Go.Deep

structure Bx12 (w w1 : World) (T : TypeId) (b r : Nat) (s : L12) (u1 u2 : Value) : Prop where
  bo : Bo w w1 T b r (l12C s.c u1 u2) z12
  st : St12 w1 s u1 u2
section
variable {w w1 w2 : World} {T : TypeId} {b r : Nat} {s : L12} {u1 u2 : Value}
theorem Bx12.start (w : World) (T : TypeId) (hT : T ≠ 35) {s : L12} {F1 : Option Addr} {n1 d1 : Nat} {F2 : Option Addr} {n2 d2 : Nat} (h : St12 w s (.slice F1 n1 d1) (.slice F2 n2 d2)) : Bx12 w ((w.alloc (.cells (l12C s.c (.slice F1 n1 d1) (.slice F2 n2 d2)) T)).alloc (.cells z12 T)) T w.heap.size (w.heap.size + 1) s (.slice F1 n1 d1) (.slice F2 n2 d2) :=
  ⟨Bo.start w T _ _ rfl rfl hT, h.below (low_two w _ _)⟩
theorem Bx12.step (h : Bx12 w w1 T b r s u1 u2) (hb : Below w1.heap.size w1 w2) : Bx12 w w2 T b r s u1 u2 := ⟨h.bo.step hb, h.st.below hb⟩
theorem Bx12.kv {v : Value} {ks : List Nat} {i : Nat} {x : Value} (h : Bx12 w w1 T b r s u1 u2) (hk : KV w1 v ks) : KV (w1.setCell ⟨b, i, none⟩ x) v ks := h.bo.kv ((Only.refl _ _).setCell (by simp) _) hk
theorem Bx12.set1 (h : Bx12 w w1 T b r s u1 u2) {F : Option Addr} {m d : Nat} {ks : List It} (hk : IV w1 (.slice F m d) ks) : Bx12 w (w1.setCell ⟨b, 1, none⟩ (.slice F m d)) T b r ⟨s.c, ks, s.q⟩ (.slice F m d) u2 := by
  obtain ⟨F1, n1, d1, rfl⟩ := h.st.form1
  obtain ⟨F2, n2, d2, rfl⟩ := h.st.form2
  obtain ⟨h1, h2⟩ := h.bo.set 1 (.slice F m d) rfl
  exact ⟨h1, h.bo.iv h2 hk, h.bo.kv h2 h.st.g2⟩
theorem Bx12.set2 (h : Bx12 w w1 T b r s u1 u2) {F : Option Addr} {m d : Nat} {ks : List Nat} (hk : KV w1 (.slice F m d) ks) : Bx12 w (w1.setCell ⟨b, 2, none⟩ (.slice F m d)) T b r ⟨s.c, s.s, ks⟩ u1 (.slice F m d) := by
  obtain ⟨F1, n1, d1, rfl⟩ := h.st.form1
  obtain ⟨F2, n2, d2, rfl⟩ := h.st.form2
  obtain ⟨h1, h2⟩ := h.bo.set 2 (.slice F m d) rfl
  exact ⟨h1, h.bo.iv h2 h.st.g1, h.bo.kv h2 hk⟩
theorem Bx12.set0 (h : Bx12 w w1 T b r s u1 u2) (c' : Nat) : Bx12 w (w1.setCell ⟨b, 0, none⟩ (.int .i64 (c' : Nat))) T b r ⟨c', s.s, s.q⟩ u1 u2 := by
  obtain ⟨F1, n1, d1, rfl⟩ := h.st.form1
  obtain ⟨F2, n2, d2, rfl⟩ := h.st.form2
  obtain ⟨h1, h2⟩ := h.bo.set 0 (.int .i64 (c' : Nat)) rfl
  exact ⟨h1, h.bo.iv h2 h.st.g1, h.bo.kv h2 h.st.g2⟩
theorem Bx12.only (_ : Bx12 w w1 T b r s u1 u2) : Only [b, r] w1 (((w1.setCell ⟨r, 0, none⟩ (.int .i64 (s.c : Nat))).setCell ⟨r, 1, none⟩ u1).setCell ⟨r, 2, none⟩ u2) := (((Only.refl _ _).setCell (by simp) _).setCell (by simp) _).setCell (by simp) _
theorem Bx12.done (h : Bx12 w w1 T b r s u1 u2) : P12 w s (.returned (.agg (l12C s.c u1 u2))) (((w1.setCell ⟨r, 0, none⟩ (.int .i64 (s.c : Nat))).setCell ⟨r, 1, none⟩ u1).setCell ⟨r, 2, none⟩ u2) := ⟨_, _, rfl, h.bo.fin h.only, h.bo.st12 h.only h.st⟩
theorem Bx12.doneo (h : Bx12 w w1 T b r s u1 u2) {o : Value} {out : List Nat} (ho : KV w1 o out) : P12o w s out (.returned (.tuple #[.agg (l12C s.c u1 u2), o])) (((w1.setCell ⟨r, 0, none⟩ (.int .i64 (s.c : Nat))).setCell ⟨r, 1, none⟩ u1).setCell ⟨r, 2, none⟩ u2) := ⟨_, _, _, rfl, h.bo.fin h.only, h.bo.st12 h.only h.st, h.bo.kv h.only ho⟩
/- All cells of the box are stored anew. -/
theorem Bx12.put {s' : L12} {u1 u2 : Value} {F1 : Option Addr} {n1 d1 : Nat} {F2 : Option Addr} {n2 d2 : Nat} (h : Bx12 w w1 T b r s u1 u2) (hs : St12 w1 s' (.slice F1 n1 d1) (.slice F2 n2 d2)) : Bx12 w (((w1.setCell ⟨b, 0, none⟩ (.int .i64 (s'.c : Nat))).setCell ⟨b, 1, none⟩ (.slice F1 n1 d1)).setCell ⟨b, 2, none⟩ (.slice F2 n2 d2)) T b r s' (.slice F1 n1 d1) (.slice F2 n2 d2) := by
  obtain ⟨h1, h2⟩ := c3_set h.bo.box (.int .i64 (s'.c : Nat)) (.slice F1 n1 d1) (.slice F2 n2 d2)
  have ho : Only [b, r] w1 (((w1.setCell ⟨b, 0, none⟩ (.int .i64 (s'.c : Nat))).setCell ⟨b, 1, none⟩ (.slice F1 n1 d1)).setCell ⟨b, 2, none⟩ (.slice F2 n2 d2)) := (((Only.refl _ _).setCell (by simp) _).setCell (by simp) _).setCell (by simp) _
  exact ⟨⟨h.bo.fin ho, h1, (h2.block r (head_row h.bo.res).lt (by simpa using fun e => h.bo.ge.2.2 e.symm)).trans h.bo.res, h.bo.ge, ⟨rfl, h.bo.nu.2⟩, h.bo.ty⟩, h.bo.st12 ho hs⟩
theorem Bx12.putOnly {s' : L12} {v1 v2 : Value} (_ : Bx12 w w1 T b r s u1 u2) : Only [b, r] w1 (((w1.setCell ⟨b, 0, none⟩ (.int .i64 (s'.c : Nat))).setCell ⟨b, 1, none⟩ v1).setCell ⟨b, 2, none⟩ v2) := (((Only.refl _ _).setCell (by simp) _).setCell (by simp) _).setCell (by simp) _
/- A new box, of a state that was told. -/
theorem Bx12.alloc {s' : L12} {v1 v2 : Value} {F1 : Option Addr} {n1 d1 : Nat} {F2 : Option Addr} {n2 d2 : Nat} (h : Bx12 w w1 T b r s' v1 v2) (hs : St12 w1 s (.slice F1 n1 d1) (.slice F2 n2 d2)) : Bx12 w (w1.alloc (.cells (l12C s.c (.slice F1 n1 d1) (.slice F2 n2 d2)) T)) T w1.heap.size r s (.slice F1 n1 d1) (.slice F2 n2 d2) :=
  ⟨h.bo.alloc _ rfl, hs.below (low_one w1 _)⟩
end
/- A state in a box, alone. -/
structure Bs12 (w w1 : World) (T : TypeId) (b : Nat) (s : L12) (u1 u2 : Value) : Prop where
  low : Below w.heap.size w w1
  box : w1.heap[b]? = some (.cells (l12C s.c u1 u2) T (0, 0))
  ge : w.heap.size ≤ b
  ty : T ≠ 35
  st : St12 w1 s u1 u2
section
variable {w w1 w2 : World} {T : TypeId} {b : Nat} {s : L12} {u1 u2 : Value}
theorem Bs12.step (h : Bs12 w w1 T b s u1 u2) (hb : Below w1.heap.size w1 w2) : Bs12 w w2 T b s u1 u2 := ⟨h.low.trans (hb.mono h.low.size), (hb.block b (head_row h.box).lt).trans h.box, h.ge, h.ty, h.st.below hb⟩
theorem Bs12.new {F1 : Option Addr} {n1 d1 : Nat} {F2 : Option Addr} {n2 d2 : Nat} (hT : T ≠ 35) (hb : Below w.heap.size w w1) (hs : St12 w1 s (.slice F1 n1 d1) (.slice F2 n2 d2)) : Bs12 w (w1.alloc (.cells (l12C s.c (.slice F1 n1 d1) (.slice F2 n2 d2)) T)) T w1.heap.size s (.slice F1 n1 d1) (.slice F2 n2 d2) := ⟨hb.alloc hb.size _, heap_alloc_new w1 _, hb.size, hT, hs.below (low_one w1 _)⟩
theorem Bs12.put {s' : L12} {F1 : Option Addr} {n1 d1 : Nat} {F2 : Option Addr} {n2 d2 : Nat} (h : Bs12 w w1 T b s u1 u2) (hs : St12 w1 s' (.slice F1 n1 d1) (.slice F2 n2 d2)) : Bs12 w (((w1.setCell ⟨b, 0, none⟩ (.int .i64 (s'.c : Nat))).setCell ⟨b, 1, none⟩ (.slice F1 n1 d1)).setCell ⟨b, 2, none⟩ (.slice F2 n2 d2)) T b s' (.slice F1 n1 d1) (.slice F2 n2 d2) := by
  obtain ⟨G1, m1, e1, rfl⟩ := h.st.form1
  obtain ⟨G2, m2, e2, rfl⟩ := h.st.form2
  obtain ⟨h1, h2⟩ := c3_set h.box (.int .i64 (s'.c : Nat)) (.slice F1 n1 d1) (.slice F2 n2 d2)
  have hbx : ∀ g ∈ [b], Bx w1 g := fun g hg => by
    rw [List.mem_singleton] at hg
    subst hg
    exact ⟨_, _, h.box, rfl, h.ty⟩
  exact ⟨h.low.trans (h2.below (by simp; exact h.ge) h.low.size), h1, h.ge, h.ty, hs.g1.only h2 hbx, hs.g2.only h2 hbx⟩
theorem Bs12.kv {v : Value} {ks : List Nat} {s' : L12} {v1 v2 : Value} (h : Bs12 w w1 T b s u1 u2) (hk : KV w1 v ks) : KV (((w1.setCell ⟨b, 0, none⟩ (.int .i64 (s'.c : Nat))).setCell ⟨b, 1, none⟩ v1).setCell ⟨b, 2, none⟩ v2) v ks := by
  obtain ⟨G1, m1, e1, rfl⟩ := h.st.form1
  obtain ⟨G2, m2, e2, rfl⟩ := h.st.form2
  have hbx : ∀ g ∈ [b], Bx w1 g := fun g hg => by
    rw [List.mem_singleton] at hg
    subst hg
    exact ⟨_, _, h.box, rfl, h.ty⟩
  exact hk.only ((((Only.refl [b] _).setCell (by simp) _).setCell (by simp) _).setCell (by simp) _) hbx
end
end Go.Proofs.Ytjfhapobbglbpaa
