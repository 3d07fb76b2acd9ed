/- Words and walks: RcV RcR RcS RcT RcN RcF RcE RcA RcD RcW RcU. -/
import Derived.Test.YtgkblelgcikafaaGreatG1
import Derived.Test.YtgkblelgcikafaaGreatG15
import Derived.Test.YtgkblelgcikafaaGreatG19
import Derived.Deep.RegionHeld3
import Derived.Deep.RegionWith
import Derived.Deep.CutRange
import Derived.Deep.DeepCutAuto
namespace Go.Proofs.YtgkblelgcikafaaGreat
open Go Go.RowKit Go.Deep
structure Bx11 (w w1 : World) (T : TypeId) (b r : Nat) (s : L11) (u1 u2 u3 u4 : Value) : Prop where
  bo : Bo w w1 T b r (l11C s.c s.p u1 u2 u3 u4) z11
  st : St11 w1 s u1 u2 u3 u4
section
variable {w w1 w2 : World} {T : TypeId} {b r : Nat} {s : L11} {u1 u2 u3 u4 : Value}
theorem Bx11.start (w : World) (T : TypeId) (hT : T ≠ 31) {s : L11} {F1 : Option Addr} {n1 d1 : Nat} {F2 : Option Addr} {n2 d2 : Nat} {F3 : Option Addr} {n3 d3 : Nat} {F4 : Option Addr} {n4 d4 : Nat} (h : St11 w s (.slice F1 n1 d1) (.slice F2 n2 d2) (.slice F3 n3 d3) (.slice F4 n4 d4)) : Bx11 w ((w.alloc (.cells (l11C s.c s.p (.slice F1 n1 d1) (.slice F2 n2 d2) (.slice F3 n3 d3) (.slice F4 n4 d4)) T)).alloc (.cells z11 T)) T w.heap.size (w.heap.size + 1) s (.slice F1 n1 d1) (.slice F2 n2 d2) (.slice F3 n3 d3) (.slice F4 n4 d4) :=
  ⟨Bo.start w T _ _ rfl rfl hT, h.below (low_two w _ _)⟩
theorem Bx11.step (h : Bx11 w w1 T b r s u1 u2 u3 u4) (hb : Below w1.heap.size w1 w2) : Bx11 w w2 T b r s u1 u2 u3 u4 := ⟨h.bo.step hb, h.st.below hb⟩
theorem Bx11.kv {v : Value} {ks : List Nat} {i : Nat} {x : Value} (h : Bx11 w w1 T b r s u1 u2 u3 u4) (hk : KV w1 v ks) : KV (w1.setCell ⟨b, i, none⟩ x) v ks := h.bo.kv ((Only.refl _ _).setCell (by simp) _) hk
theorem Bx11.set2 (h : Bx11 w w1 T b r s u1 u2 u3 u4) {F : Option Addr} {m d : Nat} {ks : List Nat} (hk : KV w1 (.slice F m d) ks) : Bx11 w (w1.setCell ⟨b, 2, none⟩ (.slice F m d)) T b r ⟨s.c, s.p, ks, s.t2, s.b1, s.b2⟩ (.slice F m d) u2 u3 u4 := by
  obtain ⟨F1, n1, d1, rfl⟩ := h.st.form1
  obtain ⟨F2, n2, d2, rfl⟩ := h.st.form2
  obtain ⟨F3, n3, d3, rfl⟩ := h.st.form3
  obtain ⟨F4, n4, d4, rfl⟩ := h.st.form4
  obtain ⟨h1, h2⟩ := h.bo.set 2 (.slice F m d) rfl
  exact ⟨h1, h.bo.kv h2 hk, h.bo.kv h2 h.st.g2, h.bo.kv h2 h.st.g3, h.bo.kv h2 h.st.g4⟩
theorem Bx11.set3 (h : Bx11 w w1 T b r s u1 u2 u3 u4) {F : Option Addr} {m d : Nat} {ks : List Nat} (hk : KV w1 (.slice F m d) ks) : Bx11 w (w1.setCell ⟨b, 3, none⟩ (.slice F m d)) T b r ⟨s.c, s.p, s.t1, ks, s.b1, s.b2⟩ u1 (.slice F m d) u3 u4 := by
  obtain ⟨F1, n1, d1, rfl⟩ := h.st.form1
  obtain ⟨F2, n2, d2, rfl⟩ := h.st.form2
  obtain ⟨F3, n3, d3, rfl⟩ := h.st.form3
  obtain ⟨F4, n4, d4, rfl⟩ := h.st.form4
  obtain ⟨h1, h2⟩ := h.bo.set 3 (.slice F m d) rfl
  exact ⟨h1, h.bo.kv h2 h.st.g1, h.bo.kv h2 hk, h.bo.kv h2 h.st.g3, h.bo.kv h2 h.st.g4⟩
theorem Bx11.set4 (h : Bx11 w w1 T b r s u1 u2 u3 u4) {F : Option Addr} {m d : Nat} {ks : List Nat} (hk : KV w1 (.slice F m d) ks) : Bx11 w (w1.setCell ⟨b, 4, none⟩ (.slice F m d)) T b r ⟨s.c, s.p, s.t1, s.t2, ks, s.b2⟩ u1 u2 (.slice F m d) u4 := by
  obtain ⟨F1, n1, d1, rfl⟩ := h.st.form1
  obtain ⟨F2, n2, d2, rfl⟩ := h.st.form2
  obtain ⟨F3, n3, d3, rfl⟩ := h.st.form3
  obtain ⟨F4, n4, d4, rfl⟩ := h.st.form4
  obtain ⟨h1, h2⟩ := h.bo.set 4 (.slice F m d) rfl
  exact ⟨h1, h.bo.kv h2 h.st.g1, h.bo.kv h2 h.st.g2, h.bo.kv h2 hk, h.bo.kv h2 h.st.g4⟩
theorem Bx11.set5 (h : Bx11 w w1 T b r s u1 u2 u3 u4) {F : Option Addr} {m d : Nat} {ks : List Nat} (hk : KV w1 (.slice F m d) ks) : Bx11 w (w1.setCell ⟨b, 5, none⟩ (.slice F m d)) T b r ⟨s.c, s.p, s.t1, s.t2, s.b1, ks⟩ u1 u2 u3 (.slice F m d) := by
  obtain ⟨F1, n1, d1, rfl⟩ := h.st.form1
  obtain ⟨F2, n2, d2, rfl⟩ := h.st.form2
  obtain ⟨F3, n3, d3, rfl⟩ := h.st.form3
  obtain ⟨F4, n4, d4, rfl⟩ := h.st.form4
  obtain ⟨h1, h2⟩ := h.bo.set 5 (.slice F m d) rfl
  exact ⟨h1, h.bo.kv h2 h.st.g1, h.bo.kv h2 h.st.g2, h.bo.kv h2 h.st.g3, h.bo.kv h2 hk⟩
theorem Bx11.set0 (h : Bx11 w w1 T b r s u1 u2 u3 u4) (c' : Nat) : Bx11 w (w1.setCell ⟨b, 0, none⟩ (.int .i64 (c' : Nat))) T b r ⟨c', s.p, s.t1, s.t2, s.b1, s.b2⟩ u1 u2 u3 u4 := by
  obtain ⟨F1, n1, d1, rfl⟩ := h.st.form1
  obtain ⟨F2, n2, d2, rfl⟩ := h.st.form2
  obtain ⟨F3, n3, d3, rfl⟩ := h.st.form3
  obtain ⟨F4, n4, d4, rfl⟩ := h.st.form4
  obtain ⟨h1, h2⟩ := h.bo.set 0 (.int .i64 (c' : Nat)) rfl
  exact ⟨h1, h.bo.kv h2 h.st.g1, h.bo.kv h2 h.st.g2, h.bo.kv h2 h.st.g3, h.bo.kv h2 h.st.g4⟩
theorem Bx11.set1 (h : Bx11 w w1 T b r s u1 u2 u3 u4) (c' : Nat) : Bx11 w (w1.setCell ⟨b, 1, none⟩ (.int .i64 (c' : Nat))) T b r ⟨s.c, c', s.t1, s.t2, s.b1, s.b2⟩ u1 u2 u3 u4 := by
  obtain ⟨F1, n1, d1, rfl⟩ := h.st.form1
  obtain ⟨F2, n2, d2, rfl⟩ := h.st.form2
  obtain ⟨F3, n3, d3, rfl⟩ := h.st.form3
  obtain ⟨F4, n4, d4, rfl⟩ := h.st.form4
  obtain ⟨h1, h2⟩ := h.bo.set 1 (.int .i64 (c' : Nat)) rfl
  exact ⟨h1, h.bo.kv h2 h.st.g1, h.bo.kv h2 h.st.g2, h.bo.kv h2 h.st.g3, h.bo.kv h2 h.st.g4⟩
theorem Bx11.only (_ : Bx11 w w1 T b r s u1 u2 u3 u4) : Only [b, r] w1 ((((((w1.setCell ⟨r, 0, none⟩ (.int .i64 (s.c : Nat))).setCell ⟨r, 1, none⟩ (.int .i64 (s.p : Nat))).setCell ⟨r, 2, none⟩ u1).setCell ⟨r, 3, none⟩ u2).setCell ⟨r, 4, none⟩ u3).setCell ⟨r, 5, none⟩ u4) := ((((((Only.refl _ _).setCell (by simp) _).setCell (by simp) _).setCell (by simp) _).setCell (by simp) _).setCell (by simp) _).setCell (by simp) _
theorem Bx11.done (h : Bx11 w w1 T b r s u1 u2 u3 u4) : P11 w s (.returned (.agg (l11C s.c s.p u1 u2 u3 u4))) ((((((w1.setCell ⟨r, 0, none⟩ (.int .i64 (s.c : Nat))).setCell ⟨r, 1, none⟩ (.int .i64 (s.p : Nat))).setCell ⟨r, 2, none⟩ u1).setCell ⟨r, 3, none⟩ u2).setCell ⟨r, 4, none⟩ u3).setCell ⟨r, 5, none⟩ u4) := ⟨_, _, _, _, rfl, h.bo.fin h.only, h.bo.st11 h.only h.st⟩
theorem Bx11.doneo (h : Bx11 w w1 T b r s u1 u2 u3 u4) {o : Value} {out : List Nat} (ho : KV w1 o out) : P11o w s out (.returned (.tuple #[.agg (l11C s.c s.p u1 u2 u3 u4), o])) ((((((w1.setCell ⟨r, 0, none⟩ (.int .i64 (s.c : Nat))).setCell ⟨r, 1, none⟩ (.int .i64 (s.p : Nat))).setCell ⟨r, 2, none⟩ u1).setCell ⟨r, 3, none⟩ u2).setCell ⟨r, 4, none⟩ u3).setCell ⟨r, 5, none⟩ u4) := ⟨_, _, _, _, _, rfl, h.bo.fin h.only, h.bo.st11 h.only h.st, h.bo.kv h.only ho⟩
theorem Bx11.put {s' : L11} {u1 u2 u3 u4 : Value} {F1 : Option Addr} {n1 d1 : Nat} {F2 : Option Addr} {n2 d2 : Nat} {F3 : Option Addr} {n3 d3 : Nat} {F4 : Option Addr} {n4 d4 : Nat} (h : Bx11 w w1 T b r s u1 u2 u3 u4) (hs : St11 w1 s' (.slice F1 n1 d1) (.slice F2 n2 d2) (.slice F3 n3 d3) (.slice F4 n4 d4)) : Bx11 w ((((((w1.setCell ⟨b, 0, none⟩ (.int .i64 (s'.c : Nat))).setCell ⟨b, 1, none⟩ (.int .i64 (s'.p : Nat))).setCell ⟨b, 2, none⟩ (.slice F1 n1 d1)).setCell ⟨b, 3, none⟩ (.slice F2 n2 d2)).setCell ⟨b, 4, none⟩ (.slice F3 n3 d3)).setCell ⟨b, 5, none⟩ (.slice F4 n4 d4)) T b r s' (.slice F1 n1 d1) (.slice F2 n2 d2) (.slice F3 n3 d3) (.slice F4 n4 d4) := by
  obtain ⟨h1, h2⟩ := c6_set h.bo.box (.int .i64 (s'.c : Nat)) (.int .i64 (s'.p : Nat)) (.slice F1 n1 d1) (.slice F2 n2 d2) (.slice F3 n3 d3) (.slice F4 n4 d4)
  have ho : Only [b, r] w1 ((((((w1.setCell ⟨b, 0, none⟩ (.int .i64 (s'.c : Nat))).setCell ⟨b, 1, none⟩ (.int .i64 (s'.p : Nat))).setCell ⟨b, 2, none⟩ (.slice F1 n1 d1)).setCell ⟨b, 3, none⟩ (.slice F2 n2 d2)).setCell ⟨b, 4, none⟩ (.slice F3 n3 d3)).setCell ⟨b, 5, none⟩ (.slice F4 n4 d4)) := ((((((Only.refl _ _).setCell (by simp) _).setCell (by simp) _).setCell (by simp) _).setCell (by simp) _).setCell (by simp) _).setCell (by simp) _
  exact ⟨⟨h.bo.fin ho, h1, (h2.block r (head_row h.bo.res).lt (by simpa using fun e => h.bo.ge.2.2 e.symm)).trans h.bo.res, h.bo.ge, ⟨rfl, h.bo.nu.2⟩, h.bo.ty⟩, h.bo.st11 ho hs⟩
theorem Bx11.alloc {s' : L11} {v1 v2 v3 v4 : Value} {F1 : Option Addr} {n1 d1 : Nat} {F2 : Option Addr} {n2 d2 : Nat} {F3 : Option Addr} {n3 d3 : Nat} {F4 : Option Addr} {n4 d4 : Nat} (h : Bx11 w w1 T b r s' v1 v2 v3 v4) (hs : St11 w1 s (.slice F1 n1 d1) (.slice F2 n2 d2) (.slice F3 n3 d3) (.slice F4 n4 d4)) : Bx11 w (w1.alloc (.cells (l11C s.c s.p (.slice F1 n1 d1) (.slice F2 n2 d2) (.slice F3 n3 d3) (.slice F4 n4 d4)) T)) T w1.heap.size r s (.slice F1 n1 d1) (.slice F2 n2 d2) (.slice F3 n3 d3) (.slice F4 n4 d4) :=
  ⟨h.bo.alloc _ rfl, hs.below (low_one w1 _)⟩
end
structure Bs11 (w w1 : World) (T : TypeId) (b : Nat) (s : L11) (u1 u2 u3 u4 : Value) : Prop where
  low : Below w.heap.size w w1
  box : w1.heap[b]? = some (.cells (l11C s.c s.p u1 u2 u3 u4) T (0, 0))
  ge : w.heap.size ≤ b
  ty : T ≠ 31
  st : St11 w1 s u1 u2 u3 u4
section
variable {w w1 w2 : World} {T : TypeId} {b : Nat} {s : L11} {u1 u2 u3 u4 : Value}
theorem Bs11.step (h : Bs11 w w1 T b s u1 u2 u3 u4) (hb : Below w1.heap.size w1 w2) : Bs11 w w2 T b s u1 u2 u3 u4 := ⟨h.low.trans (hb.mono h.low.size), (hb.block b (head_row h.box).lt).trans h.box, h.ge, h.ty, h.st.below hb⟩
theorem Bs11.new {F1 : Option Addr} {n1 d1 : Nat} {F2 : Option Addr} {n2 d2 : Nat} {F3 : Option Addr} {n3 d3 : Nat} {F4 : Option Addr} {n4 d4 : Nat} (hT : T ≠ 31) (hb : Below w.heap.size w w1) (hs : St11 w1 s (.slice F1 n1 d1) (.slice F2 n2 d2) (.slice F3 n3 d3) (.slice F4 n4 d4)) : Bs11 w (w1.alloc (.cells (l11C s.c s.p (.slice F1 n1 d1) (.slice F2 n2 d2) (.slice F3 n3 d3) (.slice F4 n4 d4)) T)) T w1.heap.size s (.slice F1 n1 d1) (.slice F2 n2 d2) (.slice F3 n3 d3) (.slice F4 n4 d4) := ⟨hb.alloc hb.size _, heap_alloc_new w1 _, hb.size, hT, hs.below (low_one w1 _)⟩
theorem Bs11.put {s' : L11} {F1 : Option Addr} {n1 d1 : Nat} {F2 : Option Addr} {n2 d2 : Nat} {F3 : Option Addr} {n3 d3 : Nat} {F4 : Option Addr} {n4 d4 : Nat} (h : Bs11 w w1 T b s u1 u2 u3 u4) (hs : St11 w1 s' (.slice F1 n1 d1) (.slice F2 n2 d2) (.slice F3 n3 d3) (.slice F4 n4 d4)) : Bs11 w ((((((w1.setCell ⟨b, 0, none⟩ (.int .i64 (s'.c : Nat))).setCell ⟨b, 1, none⟩ (.int .i64 (s'.p : Nat))).setCell ⟨b, 2, none⟩ (.slice F1 n1 d1)).setCell ⟨b, 3, none⟩ (.slice F2 n2 d2)).setCell ⟨b, 4, none⟩ (.slice F3 n3 d3)).setCell ⟨b, 5, none⟩ (.slice F4 n4 d4)) T b s' (.slice F1 n1 d1) (.slice F2 n2 d2) (.slice F3 n3 d3) (.slice F4 n4 d4) := by
  obtain ⟨G1, m1, e1, rfl⟩ := h.st.form1
  obtain ⟨G2, m2, e2, rfl⟩ := h.st.form2
  obtain ⟨G3, m3, e3, rfl⟩ := h.st.form3
  obtain ⟨G4, m4, e4, rfl⟩ := h.st.form4
  obtain ⟨h1, h2⟩ := c6_set h.box (.int .i64 (s'.c : Nat)) (.int .i64 (s'.p : Nat)) (.slice F1 n1 d1) (.slice F2 n2 d2) (.slice F3 n3 d3) (.slice F4 n4 d4)
  have hbx : ∀ g ∈ [b], Bx w1 g := fun g hg => by
    rw [List.mem_singleton] at hg
    subst hg
    exact ⟨_, _, h.box, rfl, h.ty⟩
  exact ⟨h.low.trans (h2.below (by simp; exact h.ge) h.low.size), h1, h.ge, h.ty, hs.g1.only h2 hbx, hs.g2.only h2 hbx, hs.g3.only h2 hbx, hs.g4.only h2 hbx⟩
theorem Bs11.kv {v : Value} {ks : List Nat} {s' : L11} {v1 v2 v3 v4 : Value} (h : Bs11 w w1 T b s u1 u2 u3 u4) (hk : KV w1 v ks) : KV ((((((w1.setCell ⟨b, 0, none⟩ (.int .i64 (s'.c : Nat))).setCell ⟨b, 1, none⟩ (.int .i64 (s'.p : Nat))).setCell ⟨b, 2, none⟩ v1).setCell ⟨b, 3, none⟩ v2).setCell ⟨b, 4, none⟩ v3).setCell ⟨b, 5, none⟩ v4) v ks := by
  obtain ⟨G1, m1, e1, rfl⟩ := h.st.form1
  obtain ⟨G2, m2, e2, rfl⟩ := h.st.form2
  obtain ⟨G3, m3, e3, rfl⟩ := h.st.form3
  obtain ⟨G4, m4, e4, rfl⟩ := h.st.form4
  have hbx : ∀ g ∈ [b], Bx w1 g := fun g hg => by
    rw [List.mem_singleton] at hg
    subst hg
    exact ⟨_, _, h.box, rfl, h.ty⟩
  exact hk.only (((((((Only.refl [b] _).setCell (by simp) _).setCell (by simp) _).setCell (by simp) _).setCell (by simp) _).setCell (by simp) _).setCell (by simp) _) hbx
end
section
variable {w : World} {u1 u2 u3 u4 : Value} {s : L11}
end
def L11.ev (s : L11) : Bool → L11
  | true => ⟨s.c, s.p, s.t1.take (s.t1.length - 1), s.t2, fr (s.t1.getD (s.t1.length - 1) 0) s.b1, s.b2⟩
  | false => ⟨s.c, s.p, s.t1, s.t2.take (s.t2.length - 1), s.b1, fr (s.t2.getD (s.t2.length - 1) 0) s.b2⟩
def L11.evk (s : L11) : Bool → Nat
  | true => s.t1.getD (s.t1.length - 1) 0
  | false => s.t2.getD (s.t2.length - 1) 0
theorem kv_at (W : World) (x : Nat) {n : Nat} (h : W.heap.size = n) : KV (W.alloc (.cells #[.int .u64 (x : Nat)] 31)) (.slice (some ⟨n, 0, none⟩) 1 1) [x] := by
  subst h
  exact KV.one W x
section
variable {w : World} {u1 u2 u3 u4 : Value} {s : L11}
def P11n (w : World) (s : L11) (out : List Nat) (u1 u2 u3 u4 : Value) (e : Ending) (w' : World) : Prop := ∃ v1 v2 v3 v4 o, e = .returned (.tuple #[.agg (l11C s.c s.p v1 v2 v3 v4), o]) ∧ Below w.heap.size w w' ∧ St11 w' s v1 v2 v3 v4 ∧ KV w' o out ∧ Nw w.heap.size u1 v1 ∧ Nw w.heap.size u2 v2 ∧ Nw w.heap.size u3 v3 ∧ Nw w.heap.size u4 v4
theorem P11n.o {out : List Nat} {e : Ending} {w' : World} (h : P11n w s out u1 u2 u3 u4 e w') : P11o w s out e w' := by
  obtain ⟨v1, v2, v3, v4, o, h1, h2, h3, h4, _⟩ := h
  exact ⟨v1, v2, v3, v4, o, h1, h2, h3, h4⟩
theorem Bx11.one {w1 : World} {T : TypeId} {b r : Nat} (h : Bx11 w w1 T b r s u1 u2 u3 u4) (x : Nat) : Below w.heap.size w (((((((w1.setCell ⟨r, 0, none⟩ (.int .i64 (s.c : Nat))).setCell ⟨r, 1, none⟩ (.int .i64 (s.p : Nat))).setCell ⟨r, 2, none⟩ u1).setCell ⟨r, 3, none⟩ u2).setCell ⟨r, 4, none⟩ u3).setCell ⟨r, 5, none⟩ u4).alloc (.cells #[.int .u64 (x : Nat)] 31)) ∧ St11 (((((((w1.setCell ⟨r, 0, none⟩ (.int .i64 (s.c : Nat))).setCell ⟨r, 1, none⟩ (.int .i64 (s.p : Nat))).setCell ⟨r, 2, none⟩ u1).setCell ⟨r, 3, none⟩ u2).setCell ⟨r, 4, none⟩ u3).setCell ⟨r, 5, none⟩ u4).alloc (.cells #[.int .u64 (x : Nat)] 31)) s u1 u2 u3 u4 ∧ KV (((((((w1.setCell ⟨r, 0, none⟩ (.int .i64 (s.c : Nat))).setCell ⟨r, 1, none⟩ (.int .i64 (s.p : Nat))).setCell ⟨r, 2, none⟩ u1).setCell ⟨r, 3, none⟩ u2).setCell ⟨r, 4, none⟩ u3).setCell ⟨r, 5, none⟩ u4).alloc (.cells #[.int .u64 (x : Nat)] 31)) (.slice (some ⟨w1.heap.size, 0, none⟩) 1 1) [x] ∧
    (((((((w1.setCell ⟨r, 0, none⟩ (.int .i64 (s.c : Nat))).setCell ⟨r, 1, none⟩ (.int .i64 (s.p : Nat))).setCell ⟨r, 2, none⟩ u1).setCell ⟨r, 3, none⟩ u2).setCell ⟨r, 4, none⟩ u3).setCell ⟨r, 5, none⟩ u4).alloc (.cells #[.int .u64 (x : Nat)] 31)).heap[r]? = some (.cells (l11C s.c s.p u1 u2 u3 u4) T (0, 0)) := by
  have h1 := h.bo.fin h.only
  refine ⟨h1.alloc h1.size _, (h.bo.st11 h.only h.st).below (low_one _ _), kv_at _ x (by simp only [World.size_setCell]), ?_⟩
  rw [Below.heap_alloc _ _ _ (by simp only [World.size_setCell]; exact (head_row h.bo.res).lt)]
  exact (c6_set h.bo.res _ _ _ _ _ _).1
end
def L11.rep (s : L11) (g : Bool) : L11 := if s.t1.length + s.t2.length < s.c then s else s.ev (decide (fst1 s.p g s.t1.length s.t2.length))
def L11.repOut (s : L11) (g : Bool) : List Nat := if s.t1.length + s.t2.length < s.c then [] else [s.evk (decide (fst1 s.p g s.t1.length s.t2.length))]
section
variable {w : World} {u1 u2 u3 u4 : Value} {s : L11}
end
section
variable {w : World} {u1 u2 u3 u4 : Value} {s : L11}
end
section
variable {w : World} {u1 u2 u3 u4 : Value} {s : L11}
end
set_option maxRecDepth 8000
section
variable {w : World} {u1 u2 u3 u4 : Value} {s : L11}
end
set_option maxRecDepth 8000
namespace L11
variable {s : L11} {n : Nat}
theorem last_split {l : List Nat} (h : 1 ≤ l.length) : l = l.take (l.length - 1) ++ [l.getD (l.length - 1) 0] := by
  have e := take_cut1 (l := l) (i := l.length) h (Nat.le_refl _)
  rw [List.take_length] at e
  exact e
theorem getD_take {l : List Nat} {i k : Nat} (hk : k < i) : (l.take i).getD k 0 = l.getD k 0 := by
  rw [List.getD_eq_getElem?_getD, List.getD_eq_getElem?_getD, List.getElem?_take, if_pos hk]
theorem getD_in {l : List Nat} {k : Nat} (hk : k < l.length) : l.getD k 0 ∈ l := by
  rw [List.getD_eq_getElem?_getD, List.getElem?_eq_getElem hk]
  exact List.getElem_mem hk
theorem back_cut {l b : List Nat} {Q : Nat} (h : 1 ≤ l.length) (hQ : Q ≤ l.length - 1) : (l.take (l.length - 1)).drop Q ++ l.getD (l.length - 1) 0 :: b = l.drop Q ++ b := by
  have e := last_split h
  have hl : (l.take (l.length - 1)).length = l.length - 1 := by rw [List.length_take]; omega
  conv => rhs; rw [e]
  rw [List.drop_append_of_le_length (by omega)]
  simp
theorem ev_in (h : s.Fine) (h1 : 1 ≤ s.t1.length) : s.t1.getD (s.t1.length - 1) 0 ∉ s.b1 := fun hb => by
  have h2 := count_in.1 hb
  have h4 := count_in.1 (getD_in (l := s.t1) (k := s.t1.length - 1) (by omega))
  have h5 := h.one (s.t1.getD (s.t1.length - 1) 0)
  unfold cnt at h5
  omega
theorem ev_out (h : s.Fine) (h1 : 1 ≤ s.t2.length) : s.t2.getD (s.t2.length - 1) 0 ∉ s.b2 := fun hb => by
  have h2 := count_in.1 hb
  have h4 := count_in.1 (getD_in (l := s.t2) (k := s.t2.length - 1) (by omega))
  have h5 := h.one (s.t2.getD (s.t2.length - 1) 0)
  unfold cnt at h5
  omega
theorem ev_true (h : s.Fine) (h1 : 1 ≤ s.t1.length) : s.ev true = ⟨s.c, s.p, s.t1.take (s.t1.length - 1), s.t2, s.t1.getD (s.t1.length - 1) 0 :: s.b1, s.b2⟩ := by
  unfold ev
  simp only
  rw [fr, wo_none8 (ev_in h h1)]
theorem ev_false (h : s.Fine) (h1 : 1 ≤ s.t2.length) : s.ev false = ⟨s.c, s.p, s.t1, s.t2.take (s.t2.length - 1), s.b1, s.t2.getD (s.t2.length - 1) 0 :: s.b2⟩ := by
  unfold ev
  simp only
  rw [fr, wo_none8 (ev_out h h1)]
theorem cut_in (h : s.Fine) (h1 : 1 ≤ s.t1.length) (hn : n < s.t1.length + s.t2.length) {g : Bool} (hf : fst1 s.p g s.t1.length s.t2.length) : (s.ev true).cut n g = s.cut n g ∧ s.evk true :: (s.ev true).cutOut n g = s.cutOut n g := by
  rw [ev_true h h1]
  obtain ⟨f, hfm⟩ : ∃ f, s.many n = f + 1 := ⟨s.many n - 1, by unfold many; omega⟩
  have hlt : (s.t1.take (s.t1.length - 1)).length = s.t1.length - 1 := by rw [List.length_take]; omega
  have hm2 : many ⟨s.c, s.p, s.t1.take (s.t1.length - 1), s.t2, s.t1.getD (s.t1.length - 1) 0 :: s.b1, s.b2⟩ n = f := by
    unfold many at hfm ⊢
    simp only
    omega
  have hle := (cu_le s.p g f (s.t1.length - 1) s.t2.length).1
  unfold cut cutOut li lm
  simp only [hm2, hfm, hlt]
  rw [cuI_in hf, cuM_in hf, cuO_in hf]
  refine ⟨?_, ?_⟩
  · rw [List.take_take, Nat.min_eq_left hle, back_cut h1 hle]
  · congr 1
    exact cuO_congr f _ _ (by unfold many at hfm; omega) (fun j hj => getD_take hj) (fun _ _ => rfl)
theorem cut_out (h : s.Fine) (h1 : 1 ≤ s.t2.length) (hn : n < s.t1.length + s.t2.length) {g : Bool} (hf : ¬ fst1 s.p g s.t1.length s.t2.length) : (s.ev false).cut n g = s.cut n g ∧ s.evk false :: (s.ev false).cutOut n g = s.cutOut n g := by
  rw [ev_false h h1]
  obtain ⟨f, hfm⟩ : ∃ f, s.many n = f + 1 := ⟨s.many n - 1, by unfold many; omega⟩
  have hlt : (s.t2.take (s.t2.length - 1)).length = s.t2.length - 1 := by rw [List.length_take]; omega
  have hm2 : many ⟨s.c, s.p, s.t1, s.t2.take (s.t2.length - 1), s.b1, s.t2.getD (s.t2.length - 1) 0 :: s.b2⟩ n = f := by
    unfold many at hfm ⊢
    simp only
    omega
  have hle := (cu_le s.p g f s.t1.length (s.t2.length - 1)).2
  unfold cut cutOut li lm
  simp only [hm2, hfm, hlt]
  rw [cuI_out hf, cuM_out hf, cuO_out hf]
  refine ⟨?_, ?_⟩
  · rw [List.take_take, Nat.min_eq_left hle, back_cut h1 hle]
  · congr 1
    exact cuO_congr f _ _ (by unfold many at hfm; omega) (fun _ _ => rfl) (fun j hj => getD_take hj)
structure Step (s : L11) (n : Nat) (q : Bool) : Prop where
  cut : (s.ev q).cut n false = s.cut n false
  out : s.evk q :: (s.ev q).cutOut n false = s.cutOut n false
  fine : (s.ev q).Fine
  c : (s.ev q).c = s.c
  p : (s.ev q).p = s.p
  len : (s.ev q).t1.length + (s.ev q).t2.length + 1 = s.t1.length + s.t2.length
  l1 : (s.ev q).t1.length + (s.ev q).b1.length = s.t1.length + s.b1.length
  l2 : (s.ev q).t2.length + (s.ev q).b2.length = s.t2.length + s.b2.length
  h1 : q = true → 1 ≤ s.t1.length
  h2 : q = false → 1 ≤ s.t2.length
theorem step (h : s.Fine) (hn : n < s.t1.length + s.t2.length) {q : Bool} (hq : q = true ↔ fst1 s.p false s.t1.length s.t2.length) : Step s n q := by
  cases q
  · have hf : ¬ fst1 s.p false s.t1.length s.t2.length := fun hf => by simpa using hq.2 hf
    have h2 := fst1_neg hf
    obtain ⟨e1, e2⟩ := cut_out h h2 hn hf
    have e := ev_false h h2
    have hl : (s.t2.take (s.t2.length - 1)).length = s.t2.length - 1 := by rw [List.length_take]; omega
    refine ⟨e1, e2, h.of (fun a => ?_), rfl, rfl, ?_, ?_, ?_, fun h => (by cases h), fun _ => h2⟩
    · rw [e]
      have hs := congrArg (List.count a) (last_split h2)
      rw [List.count_append] at hs
      unfold cnt
      simp only [List.count_cons, List.count_nil] at hs ⊢
      omega
    · rw [e]; simp only; omega
    · rw [e]
    · rw [e]; simp only [List.length_cons]; omega
  · have hf : fst1 s.p false s.t1.length s.t2.length := hq.1 rfl
    have h1 := fst1_pos hf (by omega)
    obtain ⟨e1, e2⟩ := cut_in h h1 hn hf
    have e := ev_true h h1
    have hl : (s.t1.take (s.t1.length - 1)).length = s.t1.length - 1 := by rw [List.length_take]; omega
    refine ⟨e1, e2, h.of (fun a => ?_), rfl, rfl, ?_, ?_, ?_, fun _ => h1, fun h => (by cases h)⟩
    · rw [e]
      have hs := congrArg (List.count a) (last_split h1)
      rw [List.count_append] at hs
      unfold cnt
      simp only [List.count_cons, List.count_nil] at hs ⊢
      omega
    · rw [e]; simp only; omega
    · rw [e]; simp only [List.length_cons]; omega
    · rw [e]
end L11
section
variable {w wr : World} {u1 u2 u3 u4 : Value} {s : L11}
end
section
variable {w : World} {u1 u2 u3 u4 : Value} {s : L11}
abbrev Ld11 (w' : World) (b a : Nat) (c : Nat) (p : Nat) (F1 : Option Addr) (n1 d1 : Nat) (F2 : Option Addr) (n2 d2 : Nat) (F3 : Option Addr) (n3 d3 : Nat) (F4 : Option Addr) (n4 d4 : Nat) (x : Act8) : Prop := w'.cell? ⟨b, 0, none⟩ = some (.int .i64 (c : Nat)) ∧ w'.cell? ⟨b, 1, none⟩ = some (.int .i64 (p : Nat)) ∧ w'.cell? ⟨b, 2, none⟩ = some (.slice F1 n1 d1) ∧ w'.cell? ⟨b, 3, none⟩ = some (.slice F2 n2 d2) ∧ w'.cell? ⟨b, 4, none⟩ = some (.slice F3 n3 d3) ∧ w'.cell? ⟨b, 5, none⟩ = some (.slice F4 n4 d4) ∧ w'.cell? ⟨a, 0, none⟩ = some (.int .u8 (x.kind : Nat)) ∧ w'.cell? ⟨a, 1, none⟩ = some (.int .u64 (x.key : Nat)) ∧ w'.cell? ⟨a, 2, none⟩ = some (.int .u16 (x.n : Nat))
end
section
variable {w : World} {u1 u2 u3 u4 : Value} {s : L11}
end
def Af11 (w4 : World) (T : TypeId) (s : L11) (out : List Nat) (v o : Value) (wx : World) : Prop := ∃ (P : Nat) (F1 : Option Addr) (n1 d1 : Nat) (F2 : Option Addr) (n2 d2 : Nat) (F3 : Option Addr) (n3 d3 : Nat) (F4 : Option Addr) (n4 d4 : Nat), v = .pointer (some ⟨P, 0, none⟩) ∧ Below w4.heap.size w4 wx ∧ w4.heap.size ≤ P ∧ wx.heap[P]? = some (.cells (l11C s.c s.p (.slice F1 n1 d1) (.slice F2 n2 d2) (.slice F3 n3 d3) (.slice F4 n4 d4)) T (0, 0)) ∧ St11 wx s (.slice F1 n1 d1) (.slice F2 n2 d2) (.slice F3 n3 d3) (.slice F4 n4 d4) ∧ KV wx o out
section
variable {w4 w5 : World} {T : TypeId} {s : L11} {out : List Nat} {o : Value} {F1 : Option Addr} {n1 d1 : Nat} {F2 : Option Addr} {n2 d2 : Nat} {F3 : Option Addr} {n3 d3 : Nat} {F4 : Option Addr} {n4 d4 : Nat}
theorem af11_b (hb : Below w4.heap.size w4 w5) (hs : St11 w5 s (.slice F1 n1 d1) (.slice F2 n2 d2) (.slice F3 n3 d3) (.slice F4 n4 d4)) (ho : KV w5 o out) : Af11 w4 T s out (.pointer (some ⟨w5.heap.size, 0, none⟩)) o (w5.alloc (.cells (l11C s.c s.p (.slice F1 n1 d1) (.slice F2 n2 d2) (.slice F3 n3 d3) (.slice F4 n4 d4)) T)) :=
  ⟨_, _, _, _, _, _, _, _, _, _, _, _, _, rfl, hb.alloc hb.size _, hb.size, heap_alloc_new w5 _, hs.below (low_one w5 _), ho.below (low_one w5 _)⟩
theorem af11_a {O : Obj} {zs : Array Value} (hT : T ≠ 31) (hz : NoU zs) (hzn : ∃ x0 x1 x2 x3 x4 x5, zs = #[x0, x1, x2, x3, x4, x5]) (hb : Below (w4.alloc O).heap.size (w4.alloc O) w5) (hP : w5.heap[w4.heap.size]? = some (.cells zs T (0, 0))) (hs : St11 w5 s (.slice F1 n1 d1) (.slice F2 n2 d2) (.slice F3 n3 d3) (.slice F4 n4 d4)) (ho : KV w5 o out) : Af11 w4 T s out (.pointer (some ⟨w4.heap.size, 0, none⟩)) o ((((((w5.setCell ⟨w4.heap.size, 0, none⟩ (.int .i64 ((s).c : Nat))).setCell ⟨w4.heap.size, 1, none⟩ (.int .i64 ((s).p : Nat))).setCell ⟨w4.heap.size, 2, none⟩ (.slice F1 n1 d1)).setCell ⟨w4.heap.size, 3, none⟩ (.slice F2 n2 d2)).setCell ⟨w4.heap.size, 4, none⟩ (.slice F3 n3 d3)).setCell ⟨w4.heap.size, 5, none⟩ (.slice F4 n4 d4)) := by
  obtain ⟨x0, x1, x2, x3, x4, x5, rfl⟩ := hzn
  obtain ⟨h1, h2⟩ := c6_set hP (.int .i64 ((s).c : Nat)) (.int .i64 ((s).p : Nat)) (.slice F1 n1 d1) (.slice F2 n2 d2) (.slice F3 n3 d3) (.slice F4 n4 d4)
  have hl : Below w4.heap.size w4 w5 := (low_one w4 O).trans (hb.mono (by simp))
  have hbx : ∀ g ∈ [w4.heap.size], Bx w5 g := fun g hg => by
    simp only [List.mem_singleton] at hg
    subst hg
    exact ⟨_, _, hP, hz, hT⟩
  exact ⟨_, _, _, _, _, _, _, _, _, _, _, _, _, rfl, hl.trans (h2.below (by simp) hl.size), Nat.le_refl _, h1, ⟨hs.g1.only h2 hbx, hs.g2.only h2 hbx, hs.g3.only h2 hbx, hs.g4.only h2 hbx⟩, ho.only h2 hbx⟩
end
def L11.runS (s : L11) (l : List Act8) : L11 := l.foldl L11.act s
theorem L11.runS_next (s : L11) {l : List Act8} {i : Nat} (hi : i < l.length) : s.runS (l.take (i + 1)) = (s.runS (l.take i)).act l[i] := by
  unfold L11.runS
  rw [List.take_succ_eq_append_getElem hi, List.foldl_append]
  rfl
theorem L11.Ok.runS {s : L11} (h : s.Ok) : ∀ (l : List Act8), (∀ x ∈ l, x.Ok) → (s.runS l).Ok
  | [], _ => h
  | x :: l, hx => L11.Ok.runS (h.act (hx x (by simp))) l (fun y hy => hx y (by simp [hy]))
section
variable {w : World} {v : Value} {l : List Act8}
end
end Go.Proofs.YtgkblelgcikafaaGreat
