/- Words and walks: RcV RcR RcS. -/
import Derived.Test.YtgkblelgcikafaaG15
import Derived.Test.YtgkblelgcikafaaG18
import Derived.Deep.RegionHeld3
import Derived.Deep.RegionWith
namespace Go.Proofs.Ytgkblelgcikafaa
open Go Go.RowKit Go.Deep
structure Bx11 (w w1 : World) (T : TypeId) (b r : Nat) (s : L11) (u1 u2 u3 u4 : Value) : Prop where
  bo : Bo w w1 T b r (l11C s.c s.p u1 u2 u3 u4) z11
  st : St11 w1 s u1 u2 u3 u4
section
variable {w w1 w2 : World} {T : TypeId} {b r : Nat} {s : L11} {u1 u2 u3 u4 : Value}
theorem Bx11.start (w : World) (T : TypeId) (hT : T ≠ 31) {s : L11} {F1 : Option Addr} {n1 d1 : Nat} {F2 : Option Addr} {n2 d2 : Nat} {F3 : Option Addr} {n3 d3 : Nat} {F4 : Option Addr} {n4 d4 : Nat} (h : St11 w s (.slice F1 n1 d1) (.slice F2 n2 d2) (.slice F3 n3 d3) (.slice F4 n4 d4)) : Bx11 w ((w.alloc (.cells (l11C s.c s.p (.slice F1 n1 d1) (.slice F2 n2 d2) (.slice F3 n3 d3) (.slice F4 n4 d4)) T)).alloc (.cells z11 T)) T w.heap.size (w.heap.size + 1) s (.slice F1 n1 d1) (.slice F2 n2 d2) (.slice F3 n3 d3) (.slice F4 n4 d4) :=
  ⟨Bo.start w T _ _ rfl rfl hT, h.below (low_two w _ _)⟩
theorem Bx11.step (h : Bx11 w w1 T b r s u1 u2 u3 u4) (hb : Below w1.heap.size w1 w2) : Bx11 w w2 T b r s u1 u2 u3 u4 := ⟨h.bo.step hb, h.st.below hb⟩
theorem Bx11.kv {v : Value} {ks : List Nat} {i : Nat} {x : Value} (h : Bx11 w w1 T b r s u1 u2 u3 u4) (hk : KV w1 v ks) : KV (w1.setCell ⟨b, i, none⟩ x) v ks := h.bo.kv ((Only.refl _ _).setCell (by simp) _) hk
theorem Bx11.set2 (h : Bx11 w w1 T b r s u1 u2 u3 u4) {F : Option Addr} {m d : Nat} {ks : List Nat} (hk : KV w1 (.slice F m d) ks) : Bx11 w (w1.setCell ⟨b, 2, none⟩ (.slice F m d)) T b r ⟨s.c, s.p, ks, s.t2, s.b1, s.b2⟩ (.slice F m d) u2 u3 u4 := by
  obtain ⟨F1, n1, d1, rfl⟩ := h.st.form1
  obtain ⟨F2, n2, d2, rfl⟩ := h.st.form2
  obtain ⟨F3, n3, d3, rfl⟩ := h.st.form3
  obtain ⟨F4, n4, d4, rfl⟩ := h.st.form4
  obtain ⟨h1, h2⟩ := h.bo.set 2 (.slice F m d) rfl
  exact ⟨h1, h.bo.kv h2 hk, h.bo.kv h2 h.st.g2, h.bo.kv h2 h.st.g3, h.bo.kv h2 h.st.g4⟩
theorem Bx11.set3 (h : Bx11 w w1 T b r s u1 u2 u3 u4) {F : Option Addr} {m d : Nat} {ks : List Nat} (hk : KV w1 (.slice F m d) ks) : Bx11 w (w1.setCell ⟨b, 3, none⟩ (.slice F m d)) T b r ⟨s.c, s.p, s.t1, ks, s.b1, s.b2⟩ u1 (.slice F m d) u3 u4 := by
  obtain ⟨F1, n1, d1, rfl⟩ := h.st.form1
  obtain ⟨F2, n2, d2, rfl⟩ := h.st.form2
  obtain ⟨F3, n3, d3, rfl⟩ := h.st.form3
  obtain ⟨F4, n4, d4, rfl⟩ := h.st.form4
  obtain ⟨h1, h2⟩ := h.bo.set 3 (.slice F m d) rfl
  exact ⟨h1, h.bo.kv h2 h.st.g1, h.bo.kv h2 hk, h.bo.kv h2 h.st.g3, h.bo.kv h2 h.st.g4⟩
theorem Bx11.set4 (h : Bx11 w w1 T b r s u1 u2 u3 u4) {F : Option Addr} {m d : Nat} {ks : List Nat} (hk : KV w1 (.slice F m d) ks) : Bx11 w (w1.setCell ⟨b, 4, none⟩ (.slice F m d)) T b r ⟨s.c, s.p, s.t1, s.t2, ks, s.b2⟩ u1 u2 (.slice F m d) u4 := by
  obtain ⟨F1, n1, d1, rfl⟩ := h.st.form1
  obtain ⟨F2, n2, d2, rfl⟩ := h.st.form2
  obtain ⟨F3, n3, d3, rfl⟩ := h.st.form3
  obtain ⟨F4, n4, d4, rfl⟩ := h.st.form4
  obtain ⟨h1, h2⟩ := h.bo.set 4 (.slice F m d) rfl
  exact ⟨h1, h.bo.kv h2 h.st.g1, h.bo.kv h2 h.st.g2, h.bo.kv h2 hk, h.bo.kv h2 h.st.g4⟩
theorem Bx11.set5 (h : Bx11 w w1 T b r s u1 u2 u3 u4) {F : Option Addr} {m d : Nat} {ks : List Nat} (hk : KV w1 (.slice F m d) ks) : Bx11 w (w1.setCell ⟨b, 5, none⟩ (.slice F m d)) T b r ⟨s.c, s.p, s.t1, s.t2, s.b1, ks⟩ u1 u2 u3 (.slice F m d) := by
  obtain ⟨F1, n1, d1, rfl⟩ := h.st.form1
  obtain ⟨F2, n2, d2, rfl⟩ := h.st.form2
  obtain ⟨F3, n3, d3, rfl⟩ := h.st.form3
  obtain ⟨F4, n4, d4, rfl⟩ := h.st.form4
  obtain ⟨h1, h2⟩ := h.bo.set 5 (.slice F m d) rfl
  exact ⟨h1, h.bo.kv h2 h.st.g1, h.bo.kv h2 h.st.g2, h.bo.kv h2 h.st.g3, h.bo.kv h2 hk⟩
theorem Bx11.set0 (h : Bx11 w w1 T b r s u1 u2 u3 u4) (c' : Nat) : Bx11 w (w1.setCell ⟨b, 0, none⟩ (.int .i64 (c' : Nat))) T b r ⟨c', s.p, s.t1, s.t2, s.b1, s.b2⟩ u1 u2 u3 u4 := by
  obtain ⟨F1, n1, d1, rfl⟩ := h.st.form1
  obtain ⟨F2, n2, d2, rfl⟩ := h.st.form2
  obtain ⟨F3, n3, d3, rfl⟩ := h.st.form3
  obtain ⟨F4, n4, d4, rfl⟩ := h.st.form4
  obtain ⟨h1, h2⟩ := h.bo.set 0 (.int .i64 (c' : Nat)) rfl
  exact ⟨h1, h.bo.kv h2 h.st.g1, h.bo.kv h2 h.st.g2, h.bo.kv h2 h.st.g3, h.bo.kv h2 h.st.g4⟩
theorem Bx11.set1 (h : Bx11 w w1 T b r s u1 u2 u3 u4) (c' : Nat) : Bx11 w (w1.setCell ⟨b, 1, none⟩ (.int .i64 (c' : Nat))) T b r ⟨s.c, c', s.t1, s.t2, s.b1, s.b2⟩ u1 u2 u3 u4 := by
  obtain ⟨F1, n1, d1, rfl⟩ := h.st.form1
  obtain ⟨F2, n2, d2, rfl⟩ := h.st.form2
  obtain ⟨F3, n3, d3, rfl⟩ := h.st.form3
  obtain ⟨F4, n4, d4, rfl⟩ := h.st.form4
  obtain ⟨h1, h2⟩ := h.bo.set 1 (.int .i64 (c' : Nat)) rfl
  exact ⟨h1, h.bo.kv h2 h.st.g1, h.bo.kv h2 h.st.g2, h.bo.kv h2 h.st.g3, h.bo.kv h2 h.st.g4⟩
theorem Bx11.only (_ : Bx11 w w1 T b r s u1 u2 u3 u4) : Only [b, r] w1 ((((((w1.setCell ⟨r, 0, none⟩ (.int .i64 (s.c : Nat))).setCell ⟨r, 1, none⟩ (.int .i64 (s.p : Nat))).setCell ⟨r, 2, none⟩ u1).setCell ⟨r, 3, none⟩ u2).setCell ⟨r, 4, none⟩ u3).setCell ⟨r, 5, none⟩ u4) := ((((((Only.refl _ _).setCell (by simp) _).setCell (by simp) _).setCell (by simp) _).setCell (by simp) _).setCell (by simp) _).setCell (by simp) _
theorem Bx11.done (h : Bx11 w w1 T b r s u1 u2 u3 u4) : P11 w s (.returned (.agg (l11C s.c s.p u1 u2 u3 u4))) ((((((w1.setCell ⟨r, 0, none⟩ (.int .i64 (s.c : Nat))).setCell ⟨r, 1, none⟩ (.int .i64 (s.p : Nat))).setCell ⟨r, 2, none⟩ u1).setCell ⟨r, 3, none⟩ u2).setCell ⟨r, 4, none⟩ u3).setCell ⟨r, 5, none⟩ u4) := ⟨_, _, _, _, rfl, h.bo.fin h.only, h.bo.st11 h.only h.st⟩
theorem Bx11.doneo (h : Bx11 w w1 T b r s u1 u2 u3 u4) {o : Value} {out : List Nat} (ho : KV w1 o out) : P11o w s out (.returned (.tuple #[.agg (l11C s.c s.p u1 u2 u3 u4), o])) ((((((w1.setCell ⟨r, 0, none⟩ (.int .i64 (s.c : Nat))).setCell ⟨r, 1, none⟩ (.int .i64 (s.p : Nat))).setCell ⟨r, 2, none⟩ u1).setCell ⟨r, 3, none⟩ u2).setCell ⟨r, 4, none⟩ u3).setCell ⟨r, 5, none⟩ u4) := ⟨_, _, _, _, _, rfl, h.bo.fin h.only, h.bo.st11 h.only h.st, h.bo.kv h.only ho⟩
theorem Bx11.put {s' : L11} {u1 u2 u3 u4 : Value} {F1 : Option Addr} {n1 d1 : Nat} {F2 : Option Addr} {n2 d2 : Nat} {F3 : Option Addr} {n3 d3 : Nat} {F4 : Option Addr} {n4 d4 : Nat} (h : Bx11 w w1 T b r s u1 u2 u3 u4) (hs : St11 w1 s' (.slice F1 n1 d1) (.slice F2 n2 d2) (.slice F3 n3 d3) (.slice F4 n4 d4)) : Bx11 w ((((((w1.setCell ⟨b, 0, none⟩ (.int .i64 (s'.c : Nat))).setCell ⟨b, 1, none⟩ (.int .i64 (s'.p : Nat))).setCell ⟨b, 2, none⟩ (.slice F1 n1 d1)).setCell ⟨b, 3, none⟩ (.slice F2 n2 d2)).setCell ⟨b, 4, none⟩ (.slice F3 n3 d3)).setCell ⟨b, 5, none⟩ (.slice F4 n4 d4)) T b r s' (.slice F1 n1 d1) (.slice F2 n2 d2) (.slice F3 n3 d3) (.slice F4 n4 d4) := by
  obtain ⟨h1, h2⟩ := c6_set h.bo.box (.int .i64 (s'.c : Nat)) (.int .i64 (s'.p : Nat)) (.slice F1 n1 d1) (.slice F2 n2 d2) (.slice F3 n3 d3) (.slice F4 n4 d4)
  have ho : Only [b, r] w1 ((((((w1.setCell ⟨b, 0, none⟩ (.int .i64 (s'.c : Nat))).setCell ⟨b, 1, none⟩ (.int .i64 (s'.p : Nat))).setCell ⟨b, 2, none⟩ (.slice F1 n1 d1)).setCell ⟨b, 3, none⟩ (.slice F2 n2 d2)).setCell ⟨b, 4, none⟩ (.slice F3 n3 d3)).setCell ⟨b, 5, none⟩ (.slice F4 n4 d4)) := ((((((Only.refl _ _).setCell (by simp) _).setCell (by simp) _).setCell (by simp) _).setCell (by simp) _).setCell (by simp) _).setCell (by simp) _
  exact ⟨⟨h.bo.fin ho, h1, (h2.block r (head_row h.bo.res).lt (by simpa using fun e => h.bo.ge.2.2 e.symm)).trans h.bo.res, h.bo.ge, ⟨rfl, h.bo.nu.2⟩, h.bo.ty⟩, h.bo.st11 ho hs⟩
theorem Bx11.putOnly {s' : L11} {v1 v2 v3 v4 : Value} (_ : Bx11 w w1 T b r s u1 u2 u3 u4) : Only [b, r] w1 ((((((w1.setCell ⟨b, 0, none⟩ (.int .i64 (s'.c : Nat))).setCell ⟨b, 1, none⟩ (.int .i64 (s'.p : Nat))).setCell ⟨b, 2, none⟩ v1).setCell ⟨b, 3, none⟩ v2).setCell ⟨b, 4, none⟩ v3).setCell ⟨b, 5, none⟩ v4) := ((((((Only.refl _ _).setCell (by simp) _).setCell (by simp) _).setCell (by simp) _).setCell (by simp) _).setCell (by simp) _).setCell (by simp) _
theorem Bx11.alloc {s' : L11} {v1 v2 v3 v4 : Value} {F1 : Option Addr} {n1 d1 : Nat} {F2 : Option Addr} {n2 d2 : Nat} {F3 : Option Addr} {n3 d3 : Nat} {F4 : Option Addr} {n4 d4 : Nat} (h : Bx11 w w1 T b r s' v1 v2 v3 v4) (hs : St11 w1 s (.slice F1 n1 d1) (.slice F2 n2 d2) (.slice F3 n3 d3) (.slice F4 n4 d4)) : Bx11 w (w1.alloc (.cells (l11C s.c s.p (.slice F1 n1 d1) (.slice F2 n2 d2) (.slice F3 n3 d3) (.slice F4 n4 d4)) T)) T w1.heap.size r s (.slice F1 n1 d1) (.slice F2 n2 d2) (.slice F3 n3 d3) (.slice F4 n4 d4) :=
  ⟨h.bo.alloc _ rfl, hs.below (low_one w1 _)⟩
end
structure Bs11 (w w1 : World) (T : TypeId) (b : Nat) (s : L11) (u1 u2 u3 u4 : Value) : Prop where
  low : Below w.heap.size w w1
  box : w1.heap[b]? = some (.cells (l11C s.c s.p u1 u2 u3 u4) T (0, 0))
  ge : w.heap.size ≤ b
  ty : T ≠ 31
  st : St11 w1 s u1 u2 u3 u4
section
variable {w w1 w2 : World} {T : TypeId} {b : Nat} {s : L11} {u1 u2 u3 u4 : Value}
theorem Bs11.step (h : Bs11 w w1 T b s u1 u2 u3 u4) (hb : Below w1.heap.size w1 w2) : Bs11 w w2 T b s u1 u2 u3 u4 := ⟨h.low.trans (hb.mono h.low.size), (hb.block b (head_row h.box).lt).trans h.box, h.ge, h.ty, h.st.below hb⟩
theorem Bs11.new {F1 : Option Addr} {n1 d1 : Nat} {F2 : Option Addr} {n2 d2 : Nat} {F3 : Option Addr} {n3 d3 : Nat} {F4 : Option Addr} {n4 d4 : Nat} (hT : T ≠ 31) (hb : Below w.heap.size w w1) (hs : St11 w1 s (.slice F1 n1 d1) (.slice F2 n2 d2) (.slice F3 n3 d3) (.slice F4 n4 d4)) : Bs11 w (w1.alloc (.cells (l11C s.c s.p (.slice F1 n1 d1) (.slice F2 n2 d2) (.slice F3 n3 d3) (.slice F4 n4 d4)) T)) T w1.heap.size s (.slice F1 n1 d1) (.slice F2 n2 d2) (.slice F3 n3 d3) (.slice F4 n4 d4) := ⟨hb.alloc hb.size _, heap_alloc_new w1 _, hb.size, hT, hs.below (low_one w1 _)⟩
theorem Bs11.put {s' : L11} {F1 : Option Addr} {n1 d1 : Nat} {F2 : Option Addr} {n2 d2 : Nat} {F3 : Option Addr} {n3 d3 : Nat} {F4 : Option Addr} {n4 d4 : Nat} (h : Bs11 w w1 T b s u1 u2 u3 u4) (hs : St11 w1 s' (.slice F1 n1 d1) (.slice F2 n2 d2) (.slice F3 n3 d3) (.slice F4 n4 d4)) : Bs11 w ((((((w1.setCell ⟨b, 0, none⟩ (.int .i64 (s'.c : Nat))).setCell ⟨b, 1, none⟩ (.int .i64 (s'.p : Nat))).setCell ⟨b, 2, none⟩ (.slice F1 n1 d1)).setCell ⟨b, 3, none⟩ (.slice F2 n2 d2)).setCell ⟨b, 4, none⟩ (.slice F3 n3 d3)).setCell ⟨b, 5, none⟩ (.slice F4 n4 d4)) T b s' (.slice F1 n1 d1) (.slice F2 n2 d2) (.slice F3 n3 d3) (.slice F4 n4 d4) := by
  obtain ⟨G1, m1, e1, rfl⟩ := h.st.form1
  obtain ⟨G2, m2, e2, rfl⟩ := h.st.form2
  obtain ⟨G3, m3, e3, rfl⟩ := h.st.form3
  obtain ⟨G4, m4, e4, rfl⟩ := h.st.form4
  obtain ⟨h1, h2⟩ := c6_set h.box (.int .i64 (s'.c : Nat)) (.int .i64 (s'.p : Nat)) (.slice F1 n1 d1) (.slice F2 n2 d2) (.slice F3 n3 d3) (.slice F4 n4 d4)
  have hbx : ∀ g ∈ [b], Bx w1 g := fun g hg => by
    rw [List.mem_singleton] at hg
    subst hg
    exact ⟨_, _, h.box, rfl, h.ty⟩
  exact ⟨h.low.trans (h2.below (by simp; exact h.ge) h.low.size), h1, h.ge, h.ty, hs.g1.only h2 hbx, hs.g2.only h2 hbx, hs.g3.only h2 hbx, hs.g4.only h2 hbx⟩
theorem Bs11.kv {v : Value} {ks : List Nat} {s' : L11} {v1 v2 v3 v4 : Value} (h : Bs11 w w1 T b s u1 u2 u3 u4) (hk : KV w1 v ks) : KV ((((((w1.setCell ⟨b, 0, none⟩ (.int .i64 (s'.c : Nat))).setCell ⟨b, 1, none⟩ (.int .i64 (s'.p : Nat))).setCell ⟨b, 2, none⟩ v1).setCell ⟨b, 3, none⟩ v2).setCell ⟨b, 4, none⟩ v3).setCell ⟨b, 5, none⟩ v4) v ks := by
  obtain ⟨G1, m1, e1, rfl⟩ := h.st.form1
  obtain ⟨G2, m2, e2, rfl⟩ := h.st.form2
  obtain ⟨G3, m3, e3, rfl⟩ := h.st.form3
  obtain ⟨G4, m4, e4, rfl⟩ := h.st.form4
  have hbx : ∀ g ∈ [b], Bx w1 g := fun g hg => by
    rw [List.mem_singleton] at hg
    subst hg
    exact ⟨_, _, h.box, rfl, h.ty⟩
  exact hk.only (((((((Only.refl [b] _).setCell (by simp) _).setCell (by simp) _).setCell (by simp) _).setCell (by simp) _).setCell (by simp) _).setCell (by simp) _) hbx
end
section
variable {w : World} {u1 u2 u3 u4 : Value} {s : L11}
set_option maxHeartbeats 2000000 in
theorem r11new_walk (n : Int) (hn1 : -9223372036854775808 ≤ n) (hn2 : n ≤ 9223372036854775807) : Calls Try.prog 9 #[.int .i64 n] w (P11 w (L11.new n)) := by
  have KK := Lib.hid (rcap_walk (w := w.alloc (.cells z11 28)) n hn1 hn2)
  obtain ⟨c, hc⟩ : ∃ c, capI n = c := ⟨_, rfl⟩
  have HC : Hid (P11 w (L11.new n) = P11 w ⟨c, 0, [], [], [], []⟩) := Lib.hid (by rw [← hc]; rfl)
  rw [hc] at KK
  rw [HC.out]
  clear hc HC
  go_enter Try.func9, Try.ntmps9
  go_wp2_with fail
  refine KK.out.mono ?_
  rintro e w1 ⟨rfl, rfl⟩
  go_wp2
  exact bodyPost_ret (v := .agg (l11C c 0 (.slice none 0 0) (.slice none 0 0) (.slice none 0 0) (.slice none 0 0))) (by simp [results, Try.results9, go_sem]) rfl ⟨_, _, _, _, rfl, (Below.refl _ _).alloc (Nat.le_refl _) _, ⟨KV.nil _, KV.nil _, KV.nil _, KV.nil _⟩⟩
set_option maxHeartbeats 2000000 in
theorem r11drop_walk (hs : St11 w s u1 u2 u3 u4) (ok : s.Ok) (k : Nat) : Calls Try.prog 35 #[.agg (l11C s.c s.p u1 u2 u3 u4), .int .u64 (k : Nat)] w (P11 w (s.drop k)) := by
  have hl1 := ok.len_t1
  have hl2 := ok.len_t2
  have hl3 := ok.len_b1
  have hl4 := ok.len_b2
  clear ok
  obtain ⟨F1, n1, d1, rfl⟩ := hs.form1
  obtain ⟨F2, n2, d2, rfl⟩ := hs.form2
  obtain ⟨F3, n3, d3, rfl⟩ := hs.form3
  obtain ⟨F4, n4, d4, rfl⟩ := hs.form4
  have HX0 := Lib.hid (Bx11.start w T11 (by decide) hs)
  unfold L11.drop
  obtain ⟨c, pp, l1, l2, l3, l4⟩ := s
  simp only at *
  clear hs
  have K1 := Lib.hid (rwithout_walk HX0.out.st.g1 hl1 k)
  go_enter Try.func35, Try.ntmps35
  go_wp2_with fail
  refine K1.out.mono ?_
  rintro e va ⟨oa, rfl, ha⟩
  obtain ⟨Fa, na, da, rfl⟩ := ha.kv.form
  have hxa := HX0.out.step ha.low
  obtain ⟨⟨x0, x1, x2, x3, x4, x5⟩, xf0, xf1, xf2, xf3, xf4, xf5⟩ := c6_at hxa.bo.box
  have hbb := (head_row hxa.bo.box).lt
  have hya := hxa.set2 ha.kv
  generalize hWa : va.setCell ⟨w.heap.size, 2, none⟩ (.slice Fa na da) = wa at hya
  have HWa := Lib.hid hWa
  have HXa := Lib.hid hya
  clear ha hWa hxa hya HX0 K1
  have K2 := Lib.hid (rwithout_walk HXa.out.st.g2 hl2 k)
  go_wp2_with fail
  rw [HWa.out]
  clear HWa
  refine K2.out.mono ?_
  rintro e vb ⟨ob, rfl, hb⟩
  obtain ⟨Fb, nb, db, rfl⟩ := hb.kv.form
  have hxb := HXa.out.step hb.low
  clear x0 x1 x2 x3 x4 x5 xf0 xf1 xf2 xf3 xf4 xf5 hbb
  obtain ⟨⟨x0, x1, x2, x3, x4, x5⟩, xf0, xf1, xf2, xf3, xf4, xf5⟩ := c6_at hxb.bo.box
  have hbb := (head_row hxb.bo.box).lt
  have hyb := hxb.set3 hb.kv
  generalize hWb : vb.setCell ⟨w.heap.size, 3, none⟩ (.slice Fb nb db) = wb at hyb
  have HWb := Lib.hid hWb
  have HXb := Lib.hid hyb
  clear hb hWb hxb hyb HXa K2
  have K3 := Lib.hid (rwithout_walk HXb.out.st.g3 hl3 k)
  go_wp2_with fail
  rw [HWb.out]
  clear HWb
  refine K3.out.mono ?_
  rintro e vc ⟨oc, rfl, hc⟩
  obtain ⟨Fc, nc, dc, rfl⟩ := hc.kv.form
  have hxc := HXb.out.step hc.low
  clear x0 x1 x2 x3 x4 x5 xf0 xf1 xf2 xf3 xf4 xf5 hbb
  obtain ⟨⟨x0, x1, x2, x3, x4, x5⟩, xf0, xf1, xf2, xf3, xf4, xf5⟩ := c6_at hxc.bo.box
  have hbb := (head_row hxc.bo.box).lt
  have hyc := hxc.set4 hc.kv
  generalize hWc : vc.setCell ⟨w.heap.size, 4, none⟩ (.slice Fc nc dc) = wc at hyc
  have HWc := Lib.hid hWc
  have HXc := Lib.hid hyc
  clear hc hWc hxc hyc HXb K3
  have K4 := Lib.hid (rwithout_walk HXc.out.st.g4 hl4 k)
  go_wp2_with fail
  rw [HWc.out]
  clear HWc
  refine K4.out.mono ?_
  rintro e vd ⟨od, rfl, hd⟩
  obtain ⟨Fd, nd, dd, rfl⟩ := hd.kv.form
  have hxd := HXc.out.step hd.low
  clear x0 x1 x2 x3 x4 x5 xf0 xf1 xf2 xf3 xf4 xf5 hbb
  obtain ⟨⟨x0, x1, x2, x3, x4, x5⟩, xf0, xf1, xf2, xf3, xf4, xf5⟩ := c6_at hxd.bo.box
  have hbb := (head_row hxd.bo.box).lt
  have hyd := hxd.set5 hd.kv
  obtain ⟨⟨y0, y1, y2, y3, y4, y5⟩, yf0, yf1, yf2, yf3, yf4, yf5⟩ := c6_at hxd.bo.res
  have hrr := (head_row hxd.bo.res).lt
  have HXd := Lib.hid hyd
  clear hd hxd hyd HXc K4
  go_wp2
  exact bodyPost_ret (v := .agg (l11C c pp (.slice Fa na da) (.slice Fb nb db) (.slice Fc nc dc) (.slice Fd nd dd))) (by simp [results, Try.results35, go_sem, y0, y1, y2, y3, y4, y5]) rfl HXd.out.done
theorem r11ghosts_walk (hs : St11 w s u1 u2 u3 u4) (ok : s.Ok) : Calls Try.prog 20 #[.agg (l11C s.c s.p u1 u2 u3 u4)] w fun e w' => e = .returned (.int .i64 (s.ghosts : Nat)) ∧ Below w.heap.size w w' := by
  have hl3 := ok.len_b1
  have hl4 := ok.len_b2
  clear ok
  obtain ⟨F1, n1, d1, rfl⟩ := hs.form1
  obtain ⟨F2, n2, d2, rfl⟩ := hs.form2
  obtain ⟨F3, d3, rfl, -⟩ := hs.g3.mem
  obtain ⟨F4, d4, rfl, -⟩ := hs.g4.mem
  unfold L11.ghosts
  clear hs
  obtain ⟨n3, hn3⟩ : ∃ n, s.b1.length = n := ⟨_, rfl⟩
  obtain ⟨n4, hn4⟩ : ∃ n, s.b2.length = n := ⟨_, rfl⟩
  have hI3 : (n3 : Int) ≤ 100000000 := by omega
  have hI4 : (n4 : Int) ≤ 100000000 := by omega
  rw [hn3, hn4]
  clear hn3 hn4 hl3 hl4
  have HB := Lib.hid (low_one w (.cells (l11C s.c s.p (.slice F1 n1 d1) (.slice F2 n2 d2) (.slice F3 n3 d3) (.slice F4 n4 d4)) T11))
  obtain ⟨c, pp, l1, l2, l3, l4⟩ := s
  simp only at *
  go_enter Try.func20, Try.ntmps20
  go_wp2
  go_ret
  exact ⟨by simp, by first | exact HB.out | exact Below.refl _ _⟩
set_option maxHeartbeats 1000000 in
theorem r11keys_walk (hs : St11 w s u1 u2 u3 u4) (ok : s.Ok) : Calls Try.prog 15 #[.agg (l11C s.c s.p u1 u2 u3 u4)] w (RetK w s.keys) := by
  have hl1 := ok.len_t1
  have hl2 := ok.len_t2
  clear ok
  obtain ⟨F1, n1, d1, rfl⟩ := hs.form1
  obtain ⟨F2, n2, d2, rfl⟩ := hs.form2
  obtain ⟨F3, n3, d3, rfl⟩ := hs.form3
  obtain ⟨F4, n4, d4, rfl⟩ := hs.form4
  unfold L11.keys
  have HS := Lib.hid (fun (W : World) (hb : Below w.heap.size w W) => hs.below hb)
  obtain ⟨c, pp, l1, l2, l3, l4⟩ := s
  simp only at *
  have hlo := low_one w (.cells (l11C c pp (.slice F1 n1 d1) (.slice F2 n2 d2) (.slice F3 n3 d3) (.slice F4 n4 d4)) T11)
  have hnew := heap_alloc_new w (.cells (l11C c pp (.slice F1 n1 d1) (.slice F2 n2 d2) (.slice F3 n3 d3) (.slice F4 n4 d4)) T11)
  have HLO := Lib.hid hlo
  have hsz : w.heap.size ≤ (w.alloc (.cells (l11C c pp (.slice F1 n1 d1) (.slice F2 n2 d2) (.slice F3 n3 d3) (.slice F4 n4 d4)) T11)).heap.size := hlo.size
  have HLD : Hid (∀ W : World, (Below (w.alloc (.cells (l11C c pp (.slice F1 n1 d1) (.slice F2 n2 d2) (.slice F3 n3 d3) (.slice F4 n4 d4)) T11)).heap.size (w.alloc (.cells (l11C c pp (.slice F1 n1 d1) (.slice F2 n2 d2) (.slice F3 n3 d3) (.slice F4 n4 d4)) T11)) W) → W.cell? ⟨w.heap.size, 2, none⟩ = some (.slice F1 n1 d1) ∧ W.cell? ⟨w.heap.size, 3, none⟩ = some (.slice F2 n2 d2)) := Lib.hid (fun W hb => by
    obtain ⟨⟨x0, x1, x2, x3, x4, x5⟩, _⟩ := c6_at ((hb.block w.heap.size (by simp)).trans hnew)
    exact ⟨x2, x3⟩)
  obtain ⟨x2, x3⟩ := HLD.out _ (Below.refl _ _)
  clear hs hlo hnew
  go_enter Try.func15, Try.ntmps15
  go_wp2_with fail
  generalize (w.alloc (.cells (l11C c pp (.slice F1 n1 d1) (.slice F2 n2 d2) (.slice F3 n3 d3) (.slice F4 n4 d4)) T11)) = W0 at *
  go_region_held3 (fun w' => w'.cell? ⟨w.heap.size, 2, none⟩ = some (.slice F1 n1 d1) ∧ w'.cell? ⟨w.heap.size, 3, none⟩ = some (.slice F2 n2 d2))
    (first | with_reducible exact kk2 | with_reducible exact kk1 | go_keep)
    (first
      | (refine step_append_kv (by rfl) (.tmp 3) (.tmp 5) (by rfl) W0.heap.size (by kernel_rfl) (by kernel_rfl) _ [] (by rfl) (w0 := W0) ((KO.empty (Nat.le_refl _) (Below.refl _ _)).drewn _) _ l1 (by rfl) ((HS.out _ (below_drewn (HLO.out.trans ((low_one W0 (.cells #[] 31)).mono hsz)) _)).g1) (by simp; omega) (by simp) ?_; intro v1 w1 hown1; have kk1 := HLD.out w1 hown1.low)
      | (refine step_append_kv (by rfl) (.tmp 6) (.tmp 8) (by rfl) W0.heap.size (by kernel_rfl) (by kernel_rfl) _ _ (by rfl) hown1 _ l2 (by rfl) ((HS.out _ (HLO.out.trans (hown1.low.mono hsz))).g2) (by simp; omega) hown1.low.size ?_; intro v2 w2 hown2; have kk2 := HLD.out w2 hown2.low))
  have HF := Lib.hid (And.intro (HLO.out.trans (hown2.low.mono hsz)) hown2.kv)
  clear hown1 hown2 kk1 kk2
  go_wp2
  go_ret
  exact ⟨_, rfl, HF.out.1, HF.out.2⟩
set_option maxHeartbeats 2000000 in
theorem r11touch_walk (hs : St11 w s u1 u2 u3 u4) (ok : s.Ok) (k : Nat) : Calls Try.prog 33 #[.agg (l11C s.c s.p u1 u2 u3 u4), .int .u64 (k : Nat)] w (P11 w (s.touch k)) := by
  obtain ⟨F1, n1, d1, rfl⟩ := hs.form1
  obtain ⟨F2, n2, d2, rfl⟩ := hs.form2
  obtain ⟨F3, n3, d3, rfl⟩ := hs.form3
  obtain ⟨F4, n4, d4, rfl⟩ := hs.form4
  have HX0 := Lib.hid (Bx11.start w T11 (by decide) hs)
  have KY := Lib.hid (r11keys_walk HX0.out.st ok)
  have HKL := Lib.hid ok.keysLen
  have hl1 := ok.len_t1
  have hl2 := ok.len_t2
  clear ok hs
  obtain ⟨bb, hbb0⟩ : ∃ bb, decide (k ∈ s.keys) = bb := ⟨_, rfl⟩
  unfold L11.touch
  generalize hW0 : World.alloc _ (.cells z11 T11) = W0 at HX0 KY
  have HW0 := Lib.hid hW0
  clear hW0
  cases bb
  · rw [decide_eq_false_iff_not] at hbb0
    rw [if_neg hbb0]
    go_enter Try.func33, Try.ntmps33
    go_wp2_with fail
    rw [HW0.out]
    clear HW0
    refine KY.out.mono ?_
    rintro e w1 ⟨v1, rfl, hb1, hk1⟩
    have KH := Lib.hid (rhas_walk hk1 HKL.out k)
    have HX1 := Lib.hid (HX0.out.step hb1)
    clear hb1 hk1 KY HX0 HKL
    obtain ⟨c, pp, l1, l2, l3, l4⟩ := s
    simp only at *
    go_wp2_with fail
    rw [decide_eq_false hbb0] at KH
    clear hbb0
    refine KH.out.mono ?_
    rintro e w2 ⟨rfl, rfl⟩
    clear KH
    obtain ⟨⟨x0, x1, x2, x3, x4, x5⟩, xf0, xf1, xf2, xf3, xf4, xf5⟩ := c6_at HX1.out.bo.box
    have hbb := (head_row HX1.out.bo.box).lt
    obtain ⟨⟨y0, y1, y2, y3, y4, y5⟩, yf0, yf1, yf2, yf3, yf4, yf5⟩ := c6_at HX1.out.bo.res
    have hrr := (head_row HX1.out.bo.res).lt
    go_wp2
    exact bodyPost_ret (v := .agg (l11C c pp (.slice F1 n1 d1) (.slice F2 n2 d2) (.slice F3 n3 d3) (.slice F4 n4 d4))) (by simp [results, Try.results33, go_sem, y0, y1, y2, y3, y4, y5]) rfl HX1.out.done
  · rw [decide_eq_true_iff] at hbb0
    rw [if_pos hbb0]
    go_enter Try.func33, Try.ntmps33
    go_wp2_with fail
    rw [HW0.out]
    clear HW0
    refine KY.out.mono ?_
    rintro e w1 ⟨v1, rfl, hb1, hk1⟩
    have KH := Lib.hid (rhas_walk hk1 HKL.out k)
    have HX1 := Lib.hid (HX0.out.step hb1)
    clear hb1 hk1 KY HX0 HKL
    obtain ⟨c, pp, l1, l2, l3, l4⟩ := s
    simp only at *
    go_wp2_with fail
    rw [decide_eq_true hbb0] at KH
    clear hbb0
    refine KH.out.mono ?_
    rintro e w2 ⟨rfl, rfl⟩
    clear KH
    obtain ⟨⟨x0, x1, x2, x3, x4, x5⟩, xf0, xf1, xf2, xf3, xf4, xf5⟩ := c6_at HX1.out.bo.box
    have hbb := (head_row HX1.out.bo.box).lt
    have K1 := Lib.hid (rwithout_walk HX1.out.st.g1 hl1 k)
    go_wp2_with fail
    refine K1.out.mono ?_
    rintro e va ⟨oa, rfl, ha⟩
    obtain ⟨Fa, na, da, rfl⟩ := ha.kv.form
    have hxa := HX1.out.step ha.low
    clear x0 x1 x2 x3 x4 x5 xf0 xf1 xf2 xf3 xf4 xf5 hbb
    obtain ⟨⟨x0, x1, x2, x3, x4, x5⟩, xf0, xf1, xf2, xf3, xf4, xf5⟩ := c6_at hxa.bo.box
    have hbb := (head_row hxa.bo.box).lt
    have hya := hxa.set2 ha.kv
    generalize hWa : va.setCell ⟨w.heap.size, 2, none⟩ (.slice Fa na da) = wa at hya
    have HWa := Lib.hid hWa
    have HXa := Lib.hid hya
    clear ha hWa hxa hya HX1 K1
    have K2 := Lib.hid (rfront_walk HXa.out.st.g2 hl2 k)
    go_wp2_with fail
    rw [HWa.out]
    clear HWa
    refine K2.out.mono ?_
    rintro e vb ⟨ob, rfl, hb⟩
    obtain ⟨Fb, nb, db, rfl⟩ := hb.kv.form
    have hxb := HXa.out.step hb.low
    clear x0 x1 x2 x3 x4 x5 xf0 xf1 xf2 xf3 xf4 xf5 hbb
    obtain ⟨⟨x0, x1, x2, x3, x4, x5⟩, xf0, xf1, xf2, xf3, xf4, xf5⟩ := c6_at hxb.bo.box
    have hbb := (head_row hxb.bo.box).lt
    have hyb := hxb.set3 hb.kv
    obtain ⟨⟨y0, y1, y2, y3, y4, y5⟩, yf0, yf1, yf2, yf3, yf4, yf5⟩ := c6_at hxb.bo.res
    have hrr := (head_row hxb.bo.res).lt
    have HXb := Lib.hid hyb
    clear hb hxb hyb HXa K2
    go_wp2
    exact bodyPost_ret (v := .agg (l11C c pp (.slice Fa na da) (.slice Fb nb db) (.slice F3 n3 d3) (.slice F4 n4 d4))) (by simp [results, Try.results33, go_sem, y0, y1, y2, y3, y4, y5]) rfl HXb.out.done
end
theorem last_getD1 {l : List Nat} {k : Nat} (h : l.length = k + 1) : l.getLastD 0 = l.getD k 0 := by
  rw [List.getLastD_eq_getLast?, List.getLast?_eq_getElem?, h, List.getD_eq_getElem?_getD]
  rfl
def L11.ev (s : L11) : Bool → L11
  | true => ⟨s.c, s.p, s.t1.take (s.t1.length - 1), s.t2, fr (s.t1.getD (s.t1.length - 1) 0) s.b1, s.b2⟩
  | false => ⟨s.c, s.p, s.t1, s.t2.take (s.t2.length - 1), s.b1, fr (s.t2.getD (s.t2.length - 1) 0) s.b2⟩
def L11.evk (s : L11) : Bool → Nat
  | true => s.t1.getD (s.t1.length - 1) 0
  | false => s.t2.getD (s.t2.length - 1) 0
theorem kv_at (W : World) (x : Nat) {n : Nat} (h : W.heap.size = n) : KV (W.alloc (.cells #[.int .u64 (x : Nat)] 31)) (.slice (some ⟨n, 0, none⟩) 1 1) [x] := by
  subst h
  exact KV.one W x
section
variable {w : World} {u1 u2 u3 u4 : Value} {s : L11}
def P11n (w : World) (s : L11) (out : List Nat) (u1 u2 u3 u4 : Value) (e : Ending) (w' : World) : Prop := ∃ v1 v2 v3 v4 o, e = .returned (.tuple #[.agg (l11C s.c s.p v1 v2 v3 v4), o]) ∧ Below w.heap.size w w' ∧ St11 w' s v1 v2 v3 v4 ∧ KV w' o out ∧ Nw w.heap.size u1 v1 ∧ Nw w.heap.size u2 v2 ∧ Nw w.heap.size u3 v3 ∧ Nw w.heap.size u4 v4
theorem P11n.o {out : List Nat} {e : Ending} {w' : World} (h : P11n w s out u1 u2 u3 u4 e w') : P11o w s out e w' := by
  obtain ⟨v1, v2, v3, v4, o, h1, h2, h3, h4, _⟩ := h
  exact ⟨v1, v2, v3, v4, o, h1, h2, h3, h4⟩
theorem Bx11.one {w1 : World} {T : TypeId} {b r : Nat} (h : Bx11 w w1 T b r s u1 u2 u3 u4) (x : Nat) : Below w.heap.size w (((((((w1.setCell ⟨r, 0, none⟩ (.int .i64 (s.c : Nat))).setCell ⟨r, 1, none⟩ (.int .i64 (s.p : Nat))).setCell ⟨r, 2, none⟩ u1).setCell ⟨r, 3, none⟩ u2).setCell ⟨r, 4, none⟩ u3).setCell ⟨r, 5, none⟩ u4).alloc (.cells #[.int .u64 (x : Nat)] 31)) ∧ St11 (((((((w1.setCell ⟨r, 0, none⟩ (.int .i64 (s.c : Nat))).setCell ⟨r, 1, none⟩ (.int .i64 (s.p : Nat))).setCell ⟨r, 2, none⟩ u1).setCell ⟨r, 3, none⟩ u2).setCell ⟨r, 4, none⟩ u3).setCell ⟨r, 5, none⟩ u4).alloc (.cells #[.int .u64 (x : Nat)] 31)) s u1 u2 u3 u4 ∧ KV (((((((w1.setCell ⟨r, 0, none⟩ (.int .i64 (s.c : Nat))).setCell ⟨r, 1, none⟩ (.int .i64 (s.p : Nat))).setCell ⟨r, 2, none⟩ u1).setCell ⟨r, 3, none⟩ u2).setCell ⟨r, 4, none⟩ u3).setCell ⟨r, 5, none⟩ u4).alloc (.cells #[.int .u64 (x : Nat)] 31)) (.slice (some ⟨w1.heap.size, 0, none⟩) 1 1) [x] ∧
    (((((((w1.setCell ⟨r, 0, none⟩ (.int .i64 (s.c : Nat))).setCell ⟨r, 1, none⟩ (.int .i64 (s.p : Nat))).setCell ⟨r, 2, none⟩ u1).setCell ⟨r, 3, none⟩ u2).setCell ⟨r, 4, none⟩ u3).setCell ⟨r, 5, none⟩ u4).alloc (.cells #[.int .u64 (x : Nat)] 31)).heap[r]? = some (.cells (l11C s.c s.p u1 u2 u3 u4) T (0, 0)) := by
  have h1 := h.bo.fin h.only
  refine ⟨h1.alloc h1.size _, (h.bo.st11 h.only h.st).below (low_one _ _), kv_at _ x (by simp only [World.size_setCell]), ?_⟩
  rw [Below.heap_alloc _ _ _ (by simp only [World.size_setCell]; exact (head_row h.bo.res).lt)]
  exact (c6_set h.bo.res _ _ _ _ _ _).1
set_option maxHeartbeats 400000 in
theorem r11evict_in (hs : St11 w s u1 u2 u3 u4) (h0 : 1 ≤ s.t1.length) (hl : s.t1.length ≤ 100000000) (hg : s.b1.length ≤ 99999999) : Calls Try.prog 56 #[.agg (l11C s.c s.p u1 u2 u3 u4), .bool true] w (P11n w (s.ev true) [s.evk true] u1 u2 u3 u4) := by
  obtain ⟨F1, d1, rfl, hcap, _⟩ := hs.g1.mem
  obtain ⟨F2, n2, d2, rfl⟩ := hs.form2
  obtain ⟨F3, n3, d3, rfl⟩ := hs.form3
  obtain ⟨F4, n4, d4, rfl⟩ := hs.form4
  have HX0 := Lib.hid (Bx11.start w T11 (by decide) hs)
  obtain ⟨k, hk⟩ : ∃ k, s.t1.length = k + 1 := ⟨s.t1.length - 1, by omega⟩
  have HLA := Lib.hid (last_getD1 hk)
  have hkm : s.t1.length - 1 = k := by omega
  unfold L11.ev L11.evk
  simp only
  rw [hkm]
  clear hkm
  have HT : Hid (∀ W, Below w.heap.size w W → KV W (.slice F1 k d1) (s.t1.take k)) := Lib.hid (fun W hb => by
    obtain ⟨F', d', e, hk⟩ := (hs.g1.below hb).take k (by omega)
    injection e with e1 e2 e3
    subst e1 e3
    exact hk)
  have KB := Lib.hid (rback_walk HX0.out.st.g1 (by omega) hl)
  rw [HLA.out] at KB
  rw [hk] at HX0 KB hl hcap ⊢
  generalize s.t1.getD k 0 = x at *
  obtain ⟨c, pp, l1, l2, l3, l4⟩ := s
  simp only at *
  have hkc : k ≤ d1 := by omega
  have hkcI : (k : Int) ≤ (d1 : Int) := by omega
  have hkI : (k : Int) ≤ 100000000 := by omega
  clear hs hk hcap HLA hl h0
  go_enter Try.func56, Try.ntmps56
  go_wp2_with fail
  refine KB.out.mono ?_
  rintro e w1 ⟨rfl, rfl⟩
  generalize hW0 : World.alloc _ (.cells z11 T11) = W0 at HX0 ⊢
  clear hW0 KB
  obtain ⟨⟨x0, x1, x2, x3, x4, x5⟩, xf0, xf1, xf2, xf3, xf4, xf5⟩ := c6_at HX0.out.bo.box
  have hbb := (head_row HX0.out.bo.box).lt
  have hx1 := HX0.out.set2 (HT.out _ HX0.out.bo.low)
  generalize hWa : W0.setCell ⟨w.heap.size, 2, none⟩ (.slice F1 k d1) = wa at hx1
  have HWa := Lib.hid hWa
  have HXa := Lib.hid hx1
  clear hWa hx1 HT
  have K2 := Lib.hid (rfront_walk HXa.out.st.g3 (by show l3.length ≤ _; omega) x)
  go_wp2_with fail
  rw [HWa.out]
  clear HWa
  refine K2.out.mono ?_
  rintro e vb ⟨ob, rfl, hb⟩
  obtain ⟨Fb, nb, db, rfl⟩ := hb.kv.form
  have hxb := HXa.out.step hb.low
  clear x0 x1 x2 x3 x4 x5 xf0 xf1 xf2 xf3 xf4 xf5 hbb
  obtain ⟨⟨x0, x1, x2, x3, x4, x5⟩, xf0, xf1, xf2, xf3, xf4, xf5⟩ := c6_at hxb.bo.box
  have hbb := (head_row hxb.bo.box).lt
  have hyb := hxb.set4 hb.kv
  have HN2 := Lib.hid (Nw.of_own (B := w.heap.size) (.slice F3 n3 d3) hb HXa.out.bo.low.size)
  obtain ⟨⟨y0, y1, y2, y3, y4, y5⟩, yf0, yf1, yf2, yf3, yf4, yf5⟩ := c6_at hxb.bo.res
  have hrr := (head_row hxb.bo.res).lt
  have HXb := Lib.hid hyb
  clear hb hxb hyb HXa K2 HX0
  have ho := HXb.out.one x
  have HO := Lib.hid ho
  clear ho HXb hg
  go_wp2
  have hF := HO.out
  clear x0 x1 x2 x3 x4 x5 xf0 xf1 xf2 xf3 xf4 xf5 y0 y1 y2 y3 y4 y5 yf0 yf1 yf2 yf3 yf4 yf5 hbb hrr HO
  generalize World.alloc _ (.cells #[.int .u64 (x : Nat)] 31) = WF at hF ⊢
  obtain ⟨f1, f2, f3, f4⟩ := hF
  obtain ⟨⟨z0, z1, z2, z3, z4, z5⟩, _⟩ := c6_at f4
  exact bodyPost_ret (v := .tuple #[.agg (l11C c pp (.slice F1 k d1) (.slice F2 n2 d2) (.slice Fb nb db) (.slice F4 n4 d4)), .slice (some ⟨vb.heap.size, 0, none⟩) 1 1]) (by simp [results, Try.results56, go_sem, z0, z1, z2, z3, z4, z5]) rfl ⟨_, _, _, _, _, rfl, f1, f2, by simpa using f3, Nw.take _ _ _ (Nat.le_succ k), Nw.refl _ _, HN2.out, Nw.refl _ _⟩
set_option maxHeartbeats 400000 in
theorem r11evict_out (hs : St11 w s u1 u2 u3 u4) (h0 : 1 ≤ s.t2.length) (hl : s.t2.length ≤ 100000000) (hg : s.b2.length ≤ 99999999) : Calls Try.prog 56 #[.agg (l11C s.c s.p u1 u2 u3 u4), .bool false] w (P11n w (s.ev false) [s.evk false] u1 u2 u3 u4) := by
  obtain ⟨F1, n1, d1, rfl⟩ := hs.form1
  obtain ⟨F2, d2, rfl, hcap, _⟩ := hs.g2.mem
  obtain ⟨F3, n3, d3, rfl⟩ := hs.form3
  obtain ⟨F4, n4, d4, rfl⟩ := hs.form4
  have HX0 := Lib.hid (Bx11.start w T11 (by decide) hs)
  obtain ⟨k, hk⟩ : ∃ k, s.t2.length = k + 1 := ⟨s.t2.length - 1, by omega⟩
  have HLA := Lib.hid (last_getD1 hk)
  have hkm : s.t2.length - 1 = k := by omega
  unfold L11.ev L11.evk
  simp only
  rw [hkm]
  clear hkm
  have HT : Hid (∀ W, Below w.heap.size w W → KV W (.slice F2 k d2) (s.t2.take k)) := Lib.hid (fun W hb => by
    obtain ⟨F', d', e, hk⟩ := (hs.g2.below hb).take k (by omega)
    injection e with e1 e2 e3
    subst e1 e3
    exact hk)
  have KB := Lib.hid (rback_walk HX0.out.st.g2 (by omega) hl)
  rw [HLA.out] at KB
  rw [hk] at HX0 KB hl hcap ⊢
  generalize s.t2.getD k 0 = x at *
  obtain ⟨c, pp, l1, l2, l3, l4⟩ := s
  simp only at *
  have hkc : k ≤ d2 := by omega
  have hkcI : (k : Int) ≤ (d2 : Int) := by omega
  have hkI : (k : Int) ≤ 100000000 := by omega
  clear hs hk hcap HLA hl h0
  go_enter Try.func56, Try.ntmps56
  go_wp2_with fail
  refine KB.out.mono ?_
  rintro e w1 ⟨rfl, rfl⟩
  generalize hW0 : World.alloc _ (.cells z11 T11) = W0 at HX0 ⊢
  clear hW0 KB
  obtain ⟨⟨x0, x1, x2, x3, x4, x5⟩, xf0, xf1, xf2, xf3, xf4, xf5⟩ := c6_at HX0.out.bo.box
  have hbb := (head_row HX0.out.bo.box).lt
  have hx1 := HX0.out.set3 (HT.out _ HX0.out.bo.low)
  generalize hWa : W0.setCell ⟨w.heap.size, 3, none⟩ (.slice F2 k d2) = wa at hx1
  have HWa := Lib.hid hWa
  have HXa := Lib.hid hx1
  clear hWa hx1 HT
  have K2 := Lib.hid (rfront_walk HXa.out.st.g4 (by show l4.length ≤ _; omega) x)
  go_wp2_with fail
  rw [HWa.out]
  clear HWa
  refine K2.out.mono ?_
  rintro e vb ⟨ob, rfl, hb⟩
  obtain ⟨Fb, nb, db, rfl⟩ := hb.kv.form
  have hxb := HXa.out.step hb.low
  clear x0 x1 x2 x3 x4 x5 xf0 xf1 xf2 xf3 xf4 xf5 hbb
  obtain ⟨⟨x0, x1, x2, x3, x4, x5⟩, xf0, xf1, xf2, xf3, xf4, xf5⟩ := c6_at hxb.bo.box
  have hbb := (head_row hxb.bo.box).lt
  have hyb := hxb.set5 hb.kv
  have HN2 := Lib.hid (Nw.of_own (B := w.heap.size) (.slice F4 n4 d4) hb HXa.out.bo.low.size)
  obtain ⟨⟨y0, y1, y2, y3, y4, y5⟩, yf0, yf1, yf2, yf3, yf4, yf5⟩ := c6_at hxb.bo.res
  have hrr := (head_row hxb.bo.res).lt
  have HXb := Lib.hid hyb
  clear hb hxb hyb HXa K2 HX0
  have ho := HXb.out.one x
  have HO := Lib.hid ho
  clear ho HXb hg
  go_wp2
  have hF := HO.out
  clear x0 x1 x2 x3 x4 x5 xf0 xf1 xf2 xf3 xf4 xf5 y0 y1 y2 y3 y4 y5 yf0 yf1 yf2 yf3 yf4 yf5 hbb hrr HO
  generalize World.alloc _ (.cells #[.int .u64 (x : Nat)] 31) = WF at hF ⊢
  obtain ⟨f1, f2, f3, f4⟩ := hF
  obtain ⟨⟨z0, z1, z2, z3, z4, z5⟩, _⟩ := c6_at f4
  exact bodyPost_ret (v := .tuple #[.agg (l11C c pp (.slice F1 n1 d1) (.slice F2 k d2) (.slice F3 n3 d3) (.slice Fb nb db)), .slice (some ⟨vb.heap.size, 0, none⟩) 1 1]) (by simp [results, Try.results56, go_sem, z0, z1, z2, z3, z4, z5]) rfl ⟨_, _, _, _, _, rfl, f1, f2, by simpa using f3, Nw.refl _ _, Nw.take _ _ _ (Nat.le_succ k), Nw.refl _ _, HN2.out⟩
theorem r11evict_walk (q : Bool) (hs : St11 w s u1 u2 u3 u4) (h1 : q = true → 1 ≤ s.t1.length) (h2 : q = false → 1 ≤ s.t2.length) (l1 : s.t1.length ≤ 100000000) (l2 : s.t2.length ≤ 100000000) (l3 : s.b1.length ≤ 99999999) (l4 : s.b2.length ≤ 99999999) : Calls Try.prog 56 #[.agg (l11C s.c s.p u1 u2 u3 u4), .bool q] w (P11n w (s.ev q) [s.evk q] u1 u2 u3 u4) := by
  cases q
  · exact r11evict_out hs (h2 rfl) l2 l4
  · exact r11evict_in hs (h1 rfl) l1 l3
end
end Go.Proofs.Ytgkblelgcikafaa
