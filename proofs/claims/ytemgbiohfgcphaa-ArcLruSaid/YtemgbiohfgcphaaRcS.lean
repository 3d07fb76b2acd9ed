/- Adaptive replacement, the document's own: evict, replace. -/
import Derived.Test.YtemgbiohfgcphaaRcR
namespace Go.Proofs.Ytemgbiohfgcphaa
open Go Go.RowKit Go.Deep

theorem last_getD1 {l : List Nat} {k : Nat} (h : l.length = k + 1) : l.getLastD 0 = l.getD k 0 := by
  rw [List.getLastD_eq_getLast?, List.getLast?_eq_getElem?, h, List.getD_eq_getElem?_getD]
  rfl
/- One of T1, or of T2, evicted. -/
def L11.ev (s : L11) : Bool → L11
  | true => ⟨s.c, s.p, s.t1.take (s.t1.length - 1), s.t2, fr (s.t1.getD (s.t1.length - 1) 0) s.b1, s.b2⟩
  | false => ⟨s.c, s.p, s.t1, s.t2.take (s.t2.length - 1), s.b1, fr (s.t2.getD (s.t2.length - 1) 0) s.b2⟩
def L11.evk (s : L11) : Bool → Nat
  | true => s.t1.getD (s.t1.length - 1) 0
  | false => s.t2.getD (s.t2.length - 1) 0
theorem kv_at (W : World) (x : Nat) {n : Nat} (h : W.heap.size = n) : KV (W.alloc (.cells #[.int .u64 (x : Nat)] 32)) (.slice (some ⟨n, 0, none⟩) 1 1) [x] := by
  subst h
  exact KV.one W x
section
variable {w : World} {u1 u2 u3 u4 : Value} {s : L11}
/- Lists that are told lie where others lie, or in new memory. -/
def P11n (w : World) (s : L11) (out : List Nat) (u1 u2 u3 u4 : Value) (e : Ending) (w' : World) : Prop := ∃ v1 v2 v3 v4 o, e = .returned (.tuple #[.agg (l11C s.c s.p v1 v2 v3 v4), o]) ∧ Below w.heap.size w w' ∧ St11 w' s v1 v2 v3 v4 ∧ KV w' o out ∧ Nw w.heap.size u1 v1 ∧ Nw w.heap.size u2 v2 ∧ Nw w.heap.size u3 v3 ∧ Nw w.heap.size u4 v4
theorem P11n.o {out : List Nat} {e : Ending} {w' : World} (h : P11n w s out u1 u2 u3 u4 e w') : P11o w s out e w' := by
  obtain ⟨v1, v2, v3, v4, o, h1, h2, h3, h4, _⟩ := h
  exact ⟨v1, v2, v3, v4, o, h1, h2, h3, h4⟩
/- What is told, and a list of one key laid behind it. -/
theorem Bx11.one {w1 : World} {T : TypeId} {b r : Nat} (h : Bx11 w w1 T b r s u1 u2 u3 u4) (x : Nat) : Below w.heap.size w (((((((w1.setCell ⟨r, 0, none⟩ (.int .i64 (s.c : Nat))).setCell ⟨r, 1, none⟩ (.int .i64 (s.p : Nat))).setCell ⟨r, 2, none⟩ u1).setCell ⟨r, 3, none⟩ u2).setCell ⟨r, 4, none⟩ u3).setCell ⟨r, 5, none⟩ u4).alloc (.cells #[.int .u64 (x : Nat)] 32)) ∧ St11 (((((((w1.setCell ⟨r, 0, none⟩ (.int .i64 (s.c : Nat))).setCell ⟨r, 1, none⟩ (.int .i64 (s.p : Nat))).setCell ⟨r, 2, none⟩ u1).setCell ⟨r, 3, none⟩ u2).setCell ⟨r, 4, none⟩ u3).setCell ⟨r, 5, none⟩ u4).alloc (.cells #[.int .u64 (x : Nat)] 32)) s u1 u2 u3 u4 ∧ KV (((((((w1.setCell ⟨r, 0, none⟩ (.int .i64 (s.c : Nat))).setCell ⟨r, 1, none⟩ (.int .i64 (s.p : Nat))).setCell ⟨r, 2, none⟩ u1).setCell ⟨r, 3, none⟩ u2).setCell ⟨r, 4, none⟩ u3).setCell ⟨r, 5, none⟩ u4).alloc (.cells #[.int .u64 (x : Nat)] 32)) (.slice (some ⟨w1.heap.size, 0, none⟩) 1 1) [x] ∧
    (((((((w1.setCell ⟨r, 0, none⟩ (.int .i64 (s.c : Nat))).setCell ⟨r, 1, none⟩ (.int .i64 (s.p : Nat))).setCell ⟨r, 2, none⟩ u1).setCell ⟨r, 3, none⟩ u2).setCell ⟨r, 4, none⟩ u3).setCell ⟨r, 5, none⟩ u4).alloc (.cells #[.int .u64 (x : Nat)] 32)).heap[r]? = some (.cells (l11C s.c s.p u1 u2 u3 u4) T (0, 0)) := by
  have h1 := h.bo.fin h.only
  refine ⟨h1.alloc h1.size _, (h.bo.st11 h.only h.st).below (low_one _ _), kv_at _ x (by simp only [World.size_setCell]), ?_⟩
  rw [Below.heap_alloc _ _ _ (by simp only [World.size_setCell]; exact (head_row h.bo.res).lt)]
  exact (c6_set h.bo.res _ _ _ _ _ _).1
set_option maxHeartbeats 400000 in
theorem r11evict_in (hs : St11 w s u1 u2 u3 u4) (h0 : 1 ≤ s.t1.length) (hl : s.t1.length ≤ 100000000) (hg : s.b1.length ≤ 99999999) : Calls Try.prog 54 #[.agg (l11C s.c s.p u1 u2 u3 u4), .bool true] w (P11n w (s.ev true) [s.evk true] u1 u2 u3 u4) := by
  obtain ⟨F1, d1, rfl, hcap, _⟩ := hs.g1.mem
  obtain ⟨F2, n2, d2, rfl⟩ := hs.form2
  obtain ⟨F3, n3, d3, rfl⟩ := hs.form3
  obtain ⟨F4, n4, d4, rfl⟩ := hs.form4
  have HX0 := Lib.hid (Bx11.start w T11 (by decide) hs)
  obtain ⟨k, hk⟩ : ∃ k, s.t1.length = k + 1 := ⟨s.t1.length - 1, by omega⟩
  have HLA := Lib.hid (last_getD1 hk)
  have hkm : s.t1.length - 1 = k := by omega
  unfold L11.ev L11.evk
  simp only
  rw [hkm]
  clear hkm
  have HT : Hid (∀ W, Below w.heap.size w W → KV W (.slice F1 k d1) (s.t1.take k)) := Lib.hid (fun W hb => by
    obtain ⟨F', d', e, hk⟩ := (hs.g1.below hb).take k (by omega)
    injection e with e1 e2 e3
    subst e1 e3
    exact hk)
  have KB := Lib.hid (rback_walk HX0.out.st.g1 (by omega) hl)
  rw [HLA.out] at KB
  rw [hk] at HX0 KB hl hcap ⊢
  generalize s.t1.getD k 0 = x at *
  obtain ⟨c, pp, l1, l2, l3, l4⟩ := s
  simp only at *
  have hkc : k ≤ d1 := by omega
  have hkcI : (k : Int) ≤ (d1 : Int) := by omega
  have hkI : (k : Int) ≤ 100000000 := by omega
  clear hs hk hcap HLA hl h0
  go_enter Try.func54, Try.ntmps54
  go_wp2_with fail
  refine KB.out.mono ?_
  rintro e w1 ⟨rfl, rfl⟩
  generalize hW0 : World.alloc _ (.cells z11 T11) = W0 at HX0 ⊢
  clear hW0 KB
  obtain ⟨⟨x0, x1, x2, x3, x4, x5⟩, xf0, xf1, xf2, xf3, xf4, xf5⟩ := c6_at HX0.out.bo.box
  have hbb := (head_row HX0.out.bo.box).lt
  have hx1 := HX0.out.set2 (HT.out _ HX0.out.bo.low)
  generalize hWa : W0.setCell ⟨w.heap.size, 2, none⟩ (.slice F1 k d1) = wa at hx1
  have HWa := Lib.hid hWa
  have HXa := Lib.hid hx1
  clear hWa hx1 HT
  have K2 := Lib.hid (rfront_walk HXa.out.st.g3 (by show l3.length ≤ _; omega) x)
  go_wp2_with fail
  rw [HWa.out]
  clear HWa
  refine K2.out.mono ?_
  rintro e vb ⟨ob, rfl, hb⟩
  obtain ⟨Fb, nb, db, rfl⟩ := hb.kv.form
  have hxb := HXa.out.step hb.low
  clear x0 x1 x2 x3 x4 x5 xf0 xf1 xf2 xf3 xf4 xf5 hbb
  obtain ⟨⟨x0, x1, x2, x3, x4, x5⟩, xf0, xf1, xf2, xf3, xf4, xf5⟩ := c6_at hxb.bo.box
  have hbb := (head_row hxb.bo.box).lt
  have hyb := hxb.set4 hb.kv
  have HN2 := Lib.hid (Nw.of_own (B := w.heap.size) (.slice F3 n3 d3) hb HXa.out.bo.low.size)
  obtain ⟨⟨y0, y1, y2, y3, y4, y5⟩, yf0, yf1, yf2, yf3, yf4, yf5⟩ := c6_at hxb.bo.res
  have hrr := (head_row hxb.bo.res).lt
  have HXb := Lib.hid hyb
  clear hb hxb hyb HXa K2 HX0
  have ho := HXb.out.one x
  have HO := Lib.hid ho
  clear ho HXb hg
  go_wp2
  have hF := HO.out
  clear x0 x1 x2 x3 x4 x5 xf0 xf1 xf2 xf3 xf4 xf5 y0 y1 y2 y3 y4 y5 yf0 yf1 yf2 yf3 yf4 yf5 hbb hrr HO
  generalize World.alloc _ (.cells #[.int .u64 (x : Nat)] 32) = WF at hF ⊢
  obtain ⟨f1, f2, f3, f4⟩ := hF
  obtain ⟨⟨z0, z1, z2, z3, z4, z5⟩, _⟩ := c6_at f4
  exact bodyPost_ret (v := .tuple #[.agg (l11C c pp (.slice F1 k d1) (.slice F2 n2 d2) (.slice Fb nb db) (.slice F4 n4 d4)), .slice (some ⟨vb.heap.size, 0, none⟩) 1 1]) (by simp [results, Try.results54, go_sem, z0, z1, z2, z3, z4, z5]) rfl ⟨_, _, _, _, _, rfl, f1, f2, by simpa using f3, Nw.take _ _ _ (Nat.le_succ k), Nw.refl _ _, HN2.out, Nw.refl _ _⟩
set_option maxHeartbeats 400000 in
theorem r11evict_out (hs : St11 w s u1 u2 u3 u4) (h0 : 1 ≤ s.t2.length) (hl : s.t2.length ≤ 100000000) (hg : s.b2.length ≤ 99999999) : Calls Try.prog 54 #[.agg (l11C s.c s.p u1 u2 u3 u4), .bool false] w (P11n w (s.ev false) [s.evk false] u1 u2 u3 u4) := by
  obtain ⟨F1, n1, d1, rfl⟩ := hs.form1
  obtain ⟨F2, d2, rfl, hcap, _⟩ := hs.g2.mem
  obtain ⟨F3, n3, d3, rfl⟩ := hs.form3
  obtain ⟨F4, n4, d4, rfl⟩ := hs.form4
  have HX0 := Lib.hid (Bx11.start w T11 (by decide) hs)
  obtain ⟨k, hk⟩ : ∃ k, s.t2.length = k + 1 := ⟨s.t2.length - 1, by omega⟩
  have HLA := Lib.hid (last_getD1 hk)
  have hkm : s.t2.length - 1 = k := by omega
  unfold L11.ev L11.evk
  simp only
  rw [hkm]
  clear hkm
  have HT : Hid (∀ W, Below w.heap.size w W → KV W (.slice F2 k d2) (s.t2.take k)) := Lib.hid (fun W hb => by
    obtain ⟨F', d', e, hk⟩ := (hs.g2.below hb).take k (by omega)
    injection e with e1 e2 e3
    subst e1 e3
    exact hk)
  have KB := Lib.hid (rback_walk HX0.out.st.g2 (by omega) hl)
  rw [HLA.out] at KB
  rw [hk] at HX0 KB hl hcap ⊢
  generalize s.t2.getD k 0 = x at *
  obtain ⟨c, pp, l1, l2, l3, l4⟩ := s
  simp only at *
  have hkc : k ≤ d2 := by omega
  have hkcI : (k : Int) ≤ (d2 : Int) := by omega
  have hkI : (k : Int) ≤ 100000000 := by omega
  clear hs hk hcap HLA hl h0
  go_enter Try.func54, Try.ntmps54
  go_wp2_with fail
  refine KB.out.mono ?_
  rintro e w1 ⟨rfl, rfl⟩
  generalize hW0 : World.alloc _ (.cells z11 T11) = W0 at HX0 ⊢
  clear hW0 KB
  obtain ⟨⟨x0, x1, x2, x3, x4, x5⟩, xf0, xf1, xf2, xf3, xf4, xf5⟩ := c6_at HX0.out.bo.box
  have hbb := (head_row HX0.out.bo.box).lt
  have hx1 := HX0.out.set3 (HT.out _ HX0.out.bo.low)
  generalize hWa : W0.setCell ⟨w.heap.size, 3, none⟩ (.slice F2 k d2) = wa at hx1
  have HWa := Lib.hid hWa
  have HXa := Lib.hid hx1
  clear hWa hx1 HT
  have K2 := Lib.hid (rfront_walk HXa.out.st.g4 (by show l4.length ≤ _; omega) x)
  go_wp2_with fail
  rw [HWa.out]
  clear HWa
  refine K2.out.mono ?_
  rintro e vb ⟨ob, rfl, hb⟩
  obtain ⟨Fb, nb, db, rfl⟩ := hb.kv.form
  have hxb := HXa.out.step hb.low
  clear x0 x1 x2 x3 x4 x5 xf0 xf1 xf2 xf3 xf4 xf5 hbb
  obtain ⟨⟨x0, x1, x2, x3, x4, x5⟩, xf0, xf1, xf2, xf3, xf4, xf5⟩ := c6_at hxb.bo.box
  have hbb := (head_row hxb.bo.box).lt
  have hyb := hxb.set5 hb.kv
  have HN2 := Lib.hid (Nw.of_own (B := w.heap.size) (.slice F4 n4 d4) hb HXa.out.bo.low.size)
  obtain ⟨⟨y0, y1, y2, y3, y4, y5⟩, yf0, yf1, yf2, yf3, yf4, yf5⟩ := c6_at hxb.bo.res
  have hrr := (head_row hxb.bo.res).lt
  have HXb := Lib.hid hyb
  clear hb hxb hyb HXa K2 HX0
  have ho := HXb.out.one x
  have HO := Lib.hid ho
  clear ho HXb hg
  go_wp2
  have hF := HO.out
  clear x0 x1 x2 x3 x4 x5 xf0 xf1 xf2 xf3 xf4 xf5 y0 y1 y2 y3 y4 y5 yf0 yf1 yf2 yf3 yf4 yf5 hbb hrr HO
  generalize World.alloc _ (.cells #[.int .u64 (x : Nat)] 32) = WF at hF ⊢
  obtain ⟨f1, f2, f3, f4⟩ := hF
  obtain ⟨⟨z0, z1, z2, z3, z4, z5⟩, _⟩ := c6_at f4
  exact bodyPost_ret (v := .tuple #[.agg (l11C c pp (.slice F1 n1 d1) (.slice F2 k d2) (.slice F3 n3 d3) (.slice Fb nb db)), .slice (some ⟨vb.heap.size, 0, none⟩) 1 1]) (by simp [results, Try.results54, go_sem, z0, z1, z2, z3, z4, z5]) rfl ⟨_, _, _, _, _, rfl, f1, f2, by simpa using f3, Nw.refl _ _, Nw.take _ _ _ (Nat.le_succ k), Nw.refl _ _, HN2.out⟩
theorem r11evict_walk (q : Bool) (hs : St11 w s u1 u2 u3 u4) (h1 : q = true → 1 ≤ s.t1.length) (h2 : q = false → 1 ≤ s.t2.length) (l1 : s.t1.length ≤ 100000000) (l2 : s.t2.length ≤ 100000000) (l3 : s.b1.length ≤ 99999999) (l4 : s.b2.length ≤ 99999999) : Calls Try.prog 54 #[.agg (l11C s.c s.p u1 u2 u3 u4), .bool q] w (P11n w (s.ev q) [s.evk q] u1 u2 u3 u4) := by
  cases q
  · exact r11evict_out hs (h2 rfl) l2 l4
  · exact r11evict_in hs (h1 rfl) l1 l3
end
end Go.Proofs.Ytemgbiohfgcphaa
