/- Words and walks: RcF RcE. -/
import Derived.Test.YtgkblelgcikafaaG21
namespace Go.Proofs.Ytgkblelgcikafaa
open Go Go.RowKit Go.Deep
section
variable {w : World} {u1 u2 u3 u4 : Value} {s : L11}
set_option maxHeartbeats 1000000 in
theorem r11fresh_lost {c pp : Nat} {l1 l2 l3 l4 : List Nat} (hs : St11 w ⟨c, pp, l1, l2, l3, l4⟩ u1 u2 u3 u4) (b1 : l1.length ≤ 1048576) (_ : l2.length ≤ 1048576) (b3 : l3.length ≤ 1048576) (_ : l4.length ≤ 1048576) (hc : c ≤ 1048576) (h1 : c ≤ l1.length) (hc1 : 1 ≤ c) : Calls Try.prog 55 #[.agg (l11C c pp u1 u2 u3 u4)] w (P11o w ⟨c, pp, l1.take (l1.length - 1), l2, l3, l4⟩ [l1.getD (l1.length - 1) 0]) := by
  have g1 : KV w u1 l1 := hs.g1
  have g2 : KV w u2 l2 := hs.g2
  have g3 : KV w u3 l3 := hs.g3
  have g4 : KV w u4 l4 := hs.g4
  obtain ⟨F1, d1, rfl, hcap1, _⟩ := g1.mem
  obtain ⟨F2, d2, rfl, hcap2, _⟩ := g2.mem
  obtain ⟨F3, d3, rfl, hcap3, _⟩ := g3.mem
  obtain ⟨F4, d4, rfl, hcap4, _⟩ := g4.mem
  have HX0 := Lib.hid (Bx11.start w T11 (by decide) hs)
  dsimp only at HX0
  have hlen0 : 1 ≤ l1.length := by omega
  obtain ⟨k, hk⟩ : ∃ k, l1.length = k + 1 := ⟨l1.length - 1, by omega⟩
  have hkm : l1.length - 1 = k := by omega
  have HT : Hid (∀ W, Below w.heap.size w W → KV W (.slice F1 k d1) (l1.take k)) := Lib.hid (fun W hb => by
    obtain ⟨F', d', e, hk⟩ := (g1.below hb).take k (by omega)
    injection e with e1 e2 e3
    subst e1 e3
    exact hk)
  have hkc : k ≤ d1 := by omega
  have hkcI : (k : Int) ≤ (d1 : Int) := by omega
  have hkI : (k : Int) ≤ 1048576 := by omega
  rw [hkm]
  clear hkm
  have HLA := Lib.hid (last_getD1 hk)
  have KB := Lib.hid (rback_walk HX0.out.st.g1 (by show 1 ≤ l1.length; omega) (by show l1.length ≤ 100000000; omega))
  rw [HLA.out] at KB
  rw [hk] at HX0 KB b1 hcap1 h1
  generalize l1.getD k 0 = x at *
  obtain ⟨n2, hn2⟩ : ∃ n, l2.length = n := ⟨_, rfl⟩
  obtain ⟨n3, hn3⟩ : ∃ n, l3.length = n := ⟨_, rfl⟩
  obtain ⟨n4, hn4⟩ : ∃ n, l4.length = n := ⟨_, rfl⟩
  rw [hk, hn2, hn3, hn4]
  rw [hn2, hn3, hn4] at HX0 KB
  rw [hn3] at b3
  clear hn2 hn3 hn4 hs hk g1 g2 g3 g4 hcap1 HLA hcap2 hcap3 hcap4
  have i1 : ¬ (k : Int) + 1 + (n3 : Int) < (c : Int) := by omega
  have i2 : ¬ (k : Int) + 1 < (c : Int) := by omega
  have i3 : (n3 : Int) ≤ 1048576 := by omega
  generalize hW0 : World.alloc _ (.cells z11 T11) = W0 at HX0 KB
  have HW0 := Lib.hid hW0
  clear hW0
  obtain ⟨⟨x0, x1, x2, x3, x4, x5⟩, xf0, xf1, xf2, xf3, xf4, xf5⟩ := c6_at HX0.out.bo.box
  have hbb := (head_row HX0.out.bo.box).lt
  go_enter Try.func55, Try.ntmps55
  go_wp2_with fail
  rw [HW0.out]
  clear HW0
  go_wp2_with fail
  refine KB.out.mono ?_
  rintro e w1 ⟨rfl, rfl⟩
  have hx1 := HX0.out.set2 (HT.out _ HX0.out.bo.low)
  have HO := Lib.hid (hx1.one x)
  obtain ⟨⟨y0, y1, y2, y3, y4, y5⟩, yf0, yf1, yf2, yf3, yf4, yf5⟩ := c6_at HX0.out.bo.res
  have hrr := (head_row HX0.out.bo.res).lt
  clear KB HT hx1 HX0
  go_wp2
  have hF := HO.out
  clear x0 x1 x2 x3 x4 x5 xf0 xf1 xf2 xf3 xf4 xf5 y0 y1 y2 y3 y4 y5 yf0 yf1 yf2 yf3 yf4 yf5 hbb hrr HO
  rw [World.size_setCell] at hF
  generalize World.alloc _ (.cells #[.int .u64 (x : Nat)] 31) = WF at hF ⊢
  obtain ⟨f1, f2, f3, f4⟩ := hF
  obtain ⟨⟨z0, z1, z2, z3, z4, z5⟩, _⟩ := c6_at f4
  exact bodyPost_ret (v := .tuple #[.agg (l11C c pp (.slice F1 k d1) (.slice F2 n2 d2) (.slice F3 n3 d3) (.slice F4 n4 d4)), .slice (some ⟨W0.heap.size, 0, none⟩) 1 1]) (by simp [results, Try.results55, go_sem, z0, z1, z2, z3, z4, z5]) rfl ⟨_, _, _, _, _, rfl, f1, f2, f3⟩
set_option maxHeartbeats 1000000 in
theorem r11fresh_less1 {c pp : Nat} {l1 l2 l3 l4 : List Nat} (hs : St11 w ⟨c, pp, l1, l2, l3, l4⟩ u1 u2 u3 u4) (b1 : l1.length ≤ 1048576) (_ : l2.length ≤ 1048576) (b3 : l3.length ≤ 1048576) (_ : l4.length ≤ 1048576) (hc : c ≤ 1048576) (h1 : c ≤ l1.length + l3.length) (h2 : l1.length < c)
    {t' : L11} {out : List Nat} (HR : ∀ W v1 v2 v3 v4, St11 W ⟨c, pp, l1, l2, (l3.take (l3.length - 1)), l4⟩ v1 v2 v3 v4 → Calls Try.prog 77 #[.agg (l11C c pp v1 v2 v3 v4), .bool false] W (P11n W t' out v1 v2 v3 v4)) (htc : t'.c = c) (htp : t'.p = pp) : Calls Try.prog 55 #[.agg (l11C c pp u1 u2 u3 u4)] w (P11o w t' out) := by
  have g1 : KV w u1 l1 := hs.g1
  have g2 : KV w u2 l2 := hs.g2
  have g3 : KV w u3 l3 := hs.g3
  have g4 : KV w u4 l4 := hs.g4
  obtain ⟨F1, d1, rfl, hcap1, _⟩ := g1.mem
  obtain ⟨F2, d2, rfl, hcap2, _⟩ := g2.mem
  obtain ⟨F3, d3, rfl, hcap3, _⟩ := g3.mem
  obtain ⟨F4, d4, rfl, hcap4, _⟩ := g4.mem
  have HX0 := Lib.hid (Bx11.start w T11 (by decide) hs)
  dsimp only at HX0
  have hlen0 : 1 ≤ l3.length := by omega
  obtain ⟨k, hk⟩ : ∃ k, l3.length = k + 1 := ⟨l3.length - 1, by omega⟩
  have hkm : l3.length - 1 = k := by omega
  rw [hkm] at HR
  clear hkm
  have HT : Hid (∀ W, Below w.heap.size w W → KV W (.slice F3 k d3) (l3.take k)) := Lib.hid (fun W hb => by
    obtain ⟨F', d', e, hk⟩ := (g3.below hb).take k (by omega)
    injection e with e1 e2 e3
    subst e1 e3
    exact hk)
  have hkc : k ≤ d3 := by omega
  have hkcI : (k : Int) ≤ (d3 : Int) := by omega
  have hkI : (k : Int) ≤ 1048576 := by omega
  have HR := Lib.hid HR
  obtain ⟨n1, hn1⟩ : ∃ n, l1.length = n := ⟨_, rfl⟩
  rw [hn1] at HX0 ⊢
  obtain ⟨n2, hn2⟩ : ∃ n, l2.length = n := ⟨_, rfl⟩
  rw [hn2] at HX0 ⊢
  rw [hk] at HX0 ⊢
  obtain ⟨n4, hn4⟩ : ∃ n, l4.length = n := ⟨_, rfl⟩
  rw [hn4] at HX0 ⊢
  have i1 : ¬ (n1 : Int) + ((k : Int) + 1) < (c : Int) := by omega
  have i2 : (n1 : Int) < (c : Int) := by omega
  have i3 : (n1 : Int) ≤ 1048576 := by omega
  clear b1 b3
  have hx1 := Bx11.start w T11 (by decide) (s := ⟨c, pp, l1, l2, l3.take (k), l4⟩) ⟨g1, g2, (HT.out w (Below.refl _ _)), g4⟩
  dsimp only at hx1
  rw [hn1] at hx1
  rw [hn2] at hx1
  rw [hn4] at hx1
  clear HT hs hk g1 g2 g3 g4 hcap1 hcap2 hcap3 hcap4 hlen0 hn1 hn2 hn4
  have HXz := Lib.hid hx1
  clear hx1 HX0
  have KR := Lib.hid (HR.out _ _ _ _ _ HXz.out.st)
  clear HR
  go_enter Try.func55, Try.ntmps55
  go_wp2_with fail
  refine KR.out.mono ?_
  rintro e wc ⟨v1, v2, v3, v4, o, he, hbc, hsc, hoc, -⟩
  obtain ⟨Fc1, nc1, dc1, rfl⟩ := hsc.form1
  obtain ⟨Fc2, nc2, dc2, rfl⟩ := hsc.form2
  obtain ⟨Fc3, nc3, dc3, rfl⟩ := hsc.form3
  obtain ⟨Fc4, nc4, dc4, rfl⟩ := hsc.form4
  rw [htc, htp] at he
  subst he
  have hbo := HXz.out.bo.step hbc
  obtain ⟨⟨y0, y1, y2, y3, y4, y5⟩, yf0, yf1, yf2, yf3, yf4, yf5⟩ := c6_at hbo.res
  have hrr := (head_row hbo.res).lt
  have HBO := Lib.hid hbo
  have HSC := Lib.hid (And.intro hsc hoc)
  have HEC := Lib.hid (And.intro htc htp)
  clear hbo hsc hoc hbc KR HXz htc htp
  go_wp2
  have HO : Hid (Only [w.heap.size, w.heap.size + 1] wc ((((((wc.setCell ⟨w.heap.size + 1, 0, none⟩ (.int .i64 (c : Nat))).setCell ⟨w.heap.size + 1, 1, none⟩ (.int .i64 (pp : Nat))).setCell ⟨w.heap.size + 1, 2, none⟩ (.slice Fc1 nc1 dc1)).setCell ⟨w.heap.size + 1, 3, none⟩ (.slice Fc2 nc2 dc2)).setCell ⟨w.heap.size + 1, 4, none⟩ (.slice Fc3 nc3 dc3)).setCell ⟨w.heap.size + 1, 5, none⟩ (.slice Fc4 nc4 dc4))) := Lib.hid (((((((Only.refl _ _).setCell (by simp) _).setCell (by simp) _).setCell (by simp) _).setCell (by simp) _).setCell (by simp) _).setCell (by simp) _)
  exact bodyPost_ret (v := .tuple #[.agg (l11C c pp (.slice Fc1 nc1 dc1) (.slice Fc2 nc2 dc2) (.slice Fc3 nc3 dc3) (.slice Fc4 nc4 dc4)), o]) (by simp [results, Try.results55, go_sem, y0, y1, y2, y3, y4, y5]) rfl ⟨_, _, _, _, _, by rw [HEC.out.1, HEC.out.2], HBO.out.fin HO.out, HBO.out.st11 HO.out HSC.out.1, HBO.out.kv HO.out HSC.out.2⟩
set_option maxHeartbeats 1000000 in
theorem r11fresh_less2 {c pp : Nat} {l1 l2 l3 l4 : List Nat} (hs : St11 w ⟨c, pp, l1, l2, l3, l4⟩ u1 u2 u3 u4) (b1 : l1.length ≤ 1048576) (b2 : l2.length ≤ 1048576) (b3 : l3.length ≤ 1048576) (b4 : l4.length ≤ 1048576) (hc : c ≤ 1048576) (h1 : l1.length + l3.length < c) (h2 : 2 * c ≤ l1.length + l2.length + l3.length + l4.length) (h3 : 1 ≤ l4.length)
    {t' : L11} {out : List Nat} (HR : ∀ W v1 v2 v3 v4, St11 W ⟨c, pp, l1, l2, l3, (l4.take (l4.length - 1))⟩ v1 v2 v3 v4 → Calls Try.prog 77 #[.agg (l11C c pp v1 v2 v3 v4), .bool false] W (P11n W t' out v1 v2 v3 v4)) (htc : t'.c = c) (htp : t'.p = pp) : Calls Try.prog 55 #[.agg (l11C c pp u1 u2 u3 u4)] w (P11o w t' out) := by
  have g1 : KV w u1 l1 := hs.g1
  have g2 : KV w u2 l2 := hs.g2
  have g3 : KV w u3 l3 := hs.g3
  have g4 : KV w u4 l4 := hs.g4
  obtain ⟨F1, d1, rfl, hcap1, _⟩ := g1.mem
  obtain ⟨F2, d2, rfl, hcap2, _⟩ := g2.mem
  obtain ⟨F3, d3, rfl, hcap3, _⟩ := g3.mem
  obtain ⟨F4, d4, rfl, hcap4, _⟩ := g4.mem
  have HX0 := Lib.hid (Bx11.start w T11 (by decide) hs)
  dsimp only at HX0
  have hlen0 : 1 ≤ l4.length := by omega
  obtain ⟨k, hk⟩ : ∃ k, l4.length = k + 1 := ⟨l4.length - 1, by omega⟩
  have hkm : l4.length - 1 = k := by omega
  rw [hkm] at HR
  clear hkm
  have HT : Hid (∀ W, Below w.heap.size w W → KV W (.slice F4 k d4) (l4.take k)) := Lib.hid (fun W hb => by
    obtain ⟨F', d', e, hk⟩ := (g4.below hb).take k (by omega)
    injection e with e1 e2 e3
    subst e1 e3
    exact hk)
  have hkc : k ≤ d4 := by omega
  have hkcI : (k : Int) ≤ (d4 : Int) := by omega
  have hkI : (k : Int) ≤ 1048576 := by omega
  have HR := Lib.hid HR
  obtain ⟨n1, hn1⟩ : ∃ n, l1.length = n := ⟨_, rfl⟩
  rw [hn1] at HX0 ⊢
  obtain ⟨n2, hn2⟩ : ∃ n, l2.length = n := ⟨_, rfl⟩
  rw [hn2] at HX0 ⊢
  obtain ⟨n3, hn3⟩ : ∃ n, l3.length = n := ⟨_, rfl⟩
  rw [hn3] at HX0 ⊢
  rw [hk] at HX0 ⊢
  have i1 : (n1 : Int) + (n3 : Int) < (c : Int) := by omega
  have i2 : ¬ (n1 : Int) + (n2 : Int) + (n3 : Int) + ((k : Int) + 1) < (c : Int) := by omega
  have i4 : 2 * (c : Int) ≤ (n1 : Int) + (n2 : Int) + (n3 : Int) + ((k : Int) + 1) := by omega
  have i3 : (n1 : Int) ≤ 1048576 := by omega
  have i5 : (n2 : Int) ≤ 1048576 := by omega
  have i6 : (n3 : Int) ≤ 1048576 := by omega
  have i7 : (c : Int) ≤ 1048576 := by omega
  clear b1 b3 b2 b4
  have hx1 := Bx11.start w T11 (by decide) (s := ⟨c, pp, l1, l2, l3, l4.take (k)⟩) ⟨g1, g2, g3, (HT.out w (Below.refl _ _))⟩
  dsimp only at hx1
  rw [hn1] at hx1
  rw [hn2] at hx1
  rw [hn3] at hx1
  clear HT hs hk g1 g2 g3 g4 hcap1 hcap2 hcap3 hcap4 hlen0 hn1 hn2 hn3
  have HXz := Lib.hid hx1
  clear hx1 HX0
  have KR := Lib.hid (HR.out _ _ _ _ _ HXz.out.st)
  clear HR
  go_enter Try.func55, Try.ntmps55
  go_wp2_with fail
  refine KR.out.mono ?_
  rintro e wc ⟨v1, v2, v3, v4, o, he, hbc, hsc, hoc, -⟩
  obtain ⟨Fc1, nc1, dc1, rfl⟩ := hsc.form1
  obtain ⟨Fc2, nc2, dc2, rfl⟩ := hsc.form2
  obtain ⟨Fc3, nc3, dc3, rfl⟩ := hsc.form3
  obtain ⟨Fc4, nc4, dc4, rfl⟩ := hsc.form4
  rw [htc, htp] at he
  subst he
  have hbo := HXz.out.bo.step hbc
  obtain ⟨⟨y0, y1, y2, y3, y4, y5⟩, yf0, yf1, yf2, yf3, yf4, yf5⟩ := c6_at hbo.res
  have hrr := (head_row hbo.res).lt
  have HBO := Lib.hid hbo
  have HSC := Lib.hid (And.intro hsc hoc)
  have HEC := Lib.hid (And.intro htc htp)
  clear hbo hsc hoc hbc KR HXz htc htp
  go_wp2
  have HO : Hid (Only [w.heap.size, w.heap.size + 1] wc ((((((wc.setCell ⟨w.heap.size + 1, 0, none⟩ (.int .i64 (c : Nat))).setCell ⟨w.heap.size + 1, 1, none⟩ (.int .i64 (pp : Nat))).setCell ⟨w.heap.size + 1, 2, none⟩ (.slice Fc1 nc1 dc1)).setCell ⟨w.heap.size + 1, 3, none⟩ (.slice Fc2 nc2 dc2)).setCell ⟨w.heap.size + 1, 4, none⟩ (.slice Fc3 nc3 dc3)).setCell ⟨w.heap.size + 1, 5, none⟩ (.slice Fc4 nc4 dc4))) := Lib.hid (((((((Only.refl _ _).setCell (by simp) _).setCell (by simp) _).setCell (by simp) _).setCell (by simp) _).setCell (by simp) _).setCell (by simp) _)
  exact bodyPost_ret (v := .tuple #[.agg (l11C c pp (.slice Fc1 nc1 dc1) (.slice Fc2 nc2 dc2) (.slice Fc3 nc3 dc3) (.slice Fc4 nc4 dc4)), o]) (by simp [results, Try.results55, go_sem, y0, y1, y2, y3, y4, y5]) rfl ⟨_, _, _, _, _, by rw [HEC.out.1, HEC.out.2], HBO.out.fin HO.out, HBO.out.st11 HO.out HSC.out.1, HBO.out.kv HO.out HSC.out.2⟩
set_option maxHeartbeats 1000000 in
theorem r11fresh_rep {c pp : Nat} {l1 l2 l3 l4 : List Nat} (hs : St11 w ⟨c, pp, l1, l2, l3, l4⟩ u1 u2 u3 u4) (b1 : l1.length ≤ 1048576) (b2 : l2.length ≤ 1048576) (b3 : l3.length ≤ 1048576) (b4 : l4.length ≤ 1048576) (hc : c ≤ 1048576) (h1 : l1.length + l3.length < c) (h2 : c ≤ l1.length + l2.length + l3.length + l4.length) (h3 : l1.length + l2.length + l3.length + l4.length < 2 * c)
    {t' : L11} {out : List Nat} (HR : ∀ W v1 v2 v3 v4, St11 W ⟨c, pp, l1, l2, l3, l4⟩ v1 v2 v3 v4 → Calls Try.prog 77 #[.agg (l11C c pp v1 v2 v3 v4), .bool false] W (P11n W t' out v1 v2 v3 v4)) (htc : t'.c = c) (htp : t'.p = pp) : Calls Try.prog 55 #[.agg (l11C c pp u1 u2 u3 u4)] w (P11o w t' out) := by
  have g1 : KV w u1 l1 := hs.g1
  have g2 : KV w u2 l2 := hs.g2
  have g3 : KV w u3 l3 := hs.g3
  have g4 : KV w u4 l4 := hs.g4
  obtain ⟨F1, d1, rfl, hcap1, _⟩ := g1.mem
  obtain ⟨F2, d2, rfl, hcap2, _⟩ := g2.mem
  obtain ⟨F3, d3, rfl, hcap3, _⟩ := g3.mem
  obtain ⟨F4, d4, rfl, hcap4, _⟩ := g4.mem
  have HX0 := Lib.hid (Bx11.start w T11 (by decide) hs)
  dsimp only at HX0
  have HR := Lib.hid HR
  obtain ⟨n1, hn1⟩ : ∃ n, l1.length = n := ⟨_, rfl⟩
  rw [hn1] at HX0 ⊢
  obtain ⟨n2, hn2⟩ : ∃ n, l2.length = n := ⟨_, rfl⟩
  rw [hn2] at HX0 ⊢
  obtain ⟨n3, hn3⟩ : ∃ n, l3.length = n := ⟨_, rfl⟩
  rw [hn3] at HX0 ⊢
  obtain ⟨n4, hn4⟩ : ∃ n, l4.length = n := ⟨_, rfl⟩
  rw [hn4] at HX0 ⊢
  have i1 : (n1 : Int) + (n3 : Int) < (c : Int) := by omega
  have i2 : ¬ (n1 : Int) + (n2 : Int) + (n3 : Int) + (n4 : Int) < (c : Int) := by omega
  have i4 : ¬ 2 * (c : Int) ≤ (n1 : Int) + (n2 : Int) + (n3 : Int) + (n4 : Int) := by omega
  have i3 : (n1 : Int) ≤ 1048576 := by omega
  have i5 : (n2 : Int) ≤ 1048576 := by omega
  have i6 : (n3 : Int) ≤ 1048576 := by omega
  have i7 : (c : Int) ≤ 1048576 := by omega
  have i8 : (n4 : Int) ≤ 1048576 := by omega
  clear hs g1 g2 g3 g4 hcap1 hcap2 hcap3 hcap4 hn1 hn2 hn3 hn4
  clear b1 b2 b3 b4
  have HXz := HX0
  have KR := Lib.hid (HR.out _ _ _ _ _ HXz.out.st)
  clear HR HX0
  go_enter Try.func55, Try.ntmps55
  go_wp2_with fail
  refine KR.out.mono ?_
  rintro e wc ⟨v1, v2, v3, v4, o, he, hbc, hsc, hoc, -⟩
  obtain ⟨Fc1, nc1, dc1, rfl⟩ := hsc.form1
  obtain ⟨Fc2, nc2, dc2, rfl⟩ := hsc.form2
  obtain ⟨Fc3, nc3, dc3, rfl⟩ := hsc.form3
  obtain ⟨Fc4, nc4, dc4, rfl⟩ := hsc.form4
  rw [htc, htp] at he
  subst he
  have hbo := HXz.out.bo.step hbc
  obtain ⟨⟨y0, y1, y2, y3, y4, y5⟩, yf0, yf1, yf2, yf3, yf4, yf5⟩ := c6_at hbo.res
  have hrr := (head_row hbo.res).lt
  have HBO := Lib.hid hbo
  have HSC := Lib.hid (And.intro hsc hoc)
  have HEC := Lib.hid (And.intro htc htp)
  clear hbo hsc hoc hbc KR HXz htc htp
  go_wp2
  have HO : Hid (Only [w.heap.size, w.heap.size + 1] wc ((((((wc.setCell ⟨w.heap.size + 1, 0, none⟩ (.int .i64 (c : Nat))).setCell ⟨w.heap.size + 1, 1, none⟩ (.int .i64 (pp : Nat))).setCell ⟨w.heap.size + 1, 2, none⟩ (.slice Fc1 nc1 dc1)).setCell ⟨w.heap.size + 1, 3, none⟩ (.slice Fc2 nc2 dc2)).setCell ⟨w.heap.size + 1, 4, none⟩ (.slice Fc3 nc3 dc3)).setCell ⟨w.heap.size + 1, 5, none⟩ (.slice Fc4 nc4 dc4))) := Lib.hid (((((((Only.refl _ _).setCell (by simp) _).setCell (by simp) _).setCell (by simp) _).setCell (by simp) _).setCell (by simp) _).setCell (by simp) _)
  exact bodyPost_ret (v := .tuple #[.agg (l11C c pp (.slice Fc1 nc1 dc1) (.slice Fc2 nc2 dc2) (.slice Fc3 nc3 dc3) (.slice Fc4 nc4 dc4)), o]) (by simp [results, Try.results55, go_sem, y0, y1, y2, y3, y4, y5]) rfl ⟨_, _, _, _, _, by rw [HEC.out.1, HEC.out.2], HBO.out.fin HO.out, HBO.out.st11 HO.out HSC.out.1, HBO.out.kv HO.out HSC.out.2⟩
set_option maxHeartbeats 1000000 in
theorem r11fresh_none {c pp : Nat} {l1 l2 l3 l4 : List Nat} (hs : St11 w ⟨c, pp, l1, l2, l3, l4⟩ u1 u2 u3 u4) (b1 : l1.length ≤ 1048576) (b2 : l2.length ≤ 1048576) (b3 : l3.length ≤ 1048576) (b4 : l4.length ≤ 1048576) (hc : c ≤ 1048576) (h1 : l1.length + l3.length < c) (h2 : l1.length + l2.length + l3.length + l4.length < c) : Calls Try.prog 55 #[.agg (l11C c pp u1 u2 u3 u4)] w (P11o w ⟨c, pp, l1, l2, l3, l4⟩ []) := by
  have g1 : KV w u1 l1 := hs.g1
  have g2 : KV w u2 l2 := hs.g2
  have g3 : KV w u3 l3 := hs.g3
  have g4 : KV w u4 l4 := hs.g4
  obtain ⟨F1, d1, rfl, hcap1, _⟩ := g1.mem
  obtain ⟨F2, d2, rfl, hcap2, _⟩ := g2.mem
  obtain ⟨F3, d3, rfl, hcap3, _⟩ := g3.mem
  obtain ⟨F4, d4, rfl, hcap4, _⟩ := g4.mem
  have HX0 := Lib.hid (Bx11.start w T11 (by decide) hs)
  dsimp only at HX0
  have HST := Lib.hid (fun (W : World) (h : Below w.heap.size w W) => hs.below h)
  obtain ⟨n1, hn1⟩ : ∃ n, l1.length = n := ⟨_, rfl⟩
  rw [hn1] at HX0 HST ⊢
  obtain ⟨n2, hn2⟩ : ∃ n, l2.length = n := ⟨_, rfl⟩
  rw [hn2] at HX0 HST ⊢
  obtain ⟨n3, hn3⟩ : ∃ n, l3.length = n := ⟨_, rfl⟩
  rw [hn3] at HX0 HST ⊢
  obtain ⟨n4, hn4⟩ : ∃ n, l4.length = n := ⟨_, rfl⟩
  rw [hn4] at HX0 HST ⊢
  have i1 : (n1 : Int) + (n3 : Int) < (c : Int) := by omega
  have i2 : (n1 : Int) + (n2 : Int) + (n3 : Int) + (n4 : Int) < (c : Int) := by omega
  have i3 : (n1 : Int) ≤ 1048576 := by omega
  have i5 : (n2 : Int) ≤ 1048576 := by omega
  have i6 : (n3 : Int) ≤ 1048576 := by omega
  have i7 : (c : Int) ≤ 1048576 := by omega
  have i8 : (n4 : Int) ≤ 1048576 := by omega
  clear hs g1 g2 g3 g4 hcap1 hcap2 hcap3 hcap4 hn1 hn2 hn3 hn4
  clear b1 b2 b3 b4
  clear HX0
  go_enter Try.func55, Try.ntmps55
  go_wp2
  exact bodyPost_ret (v := .tuple #[.agg (l11C c pp (.slice F1 n1 d1) (.slice F2 n2 d2) (.slice F3 n3 d3) (.slice F4 n4 d4)), .slice none 0 0]) (by simp [results, Try.results55, go_sem]) rfl ⟨_, _, _, _, _, rfl, low_two w _ _, HST.out _ (low_two w _ _), KV.nil _⟩
theorem L11.cut_none {s : L11} {n : Nat} (h : s.t1.length + s.t2.length ≤ n) (g : Bool) : s.cut n g = s ∧ s.cutOut n g = [] := by
  have hm : s.many n = 0 := by unfold L11.many; omega
  unfold L11.cut L11.cutOut L11.li L11.lm
  rw [hm]
  simp [cuI, cuM, cuO]
theorem r11rep_cut {t : L11} (ht : t.Ok) {c' : Nat} (hc : t.c = c') : ∀ W v1 v2 v3 v4, St11 W t v1 v2 v3 v4 → Calls Try.prog 77 #[.agg (l11C t.c t.p v1 v2 v3 v4), .bool false] W (P11n W (t.cut (c' - 1) false) (t.cutOut (c' - 1) false) v1 v2 v3 v4) := fun W v1 v2 v3 v4 h => by
  have h1 := ht.cap
  have h2 := ht.pc
  have h3 := ht.len
  have h4 := ht.one
  have h5 := ht.gone
  obtain ⟨e1, e2⟩ := L11.rep_cut ht.fine ht.len ht.pos false
  have h := r11replace_walk false h (by omega) (by omega) ht.pos (by omega) (by omega) (by omega) (by omega)
  rw [e1, e2, hc] at h
  rw [← hc] at h ⊢
  exact h
theorem r11fresh_walk (hs : St11 w s u1 u2 u3 u4) (ok : s.Ok) : Calls Try.prog 55 #[.agg (l11C s.c s.p u1 u2 u3 u4)] w (P11o w s.room s.roomOut) := by
  have hp := ok.pos
  have hl := ok.len
  have ho := ok.one
  have hg := ok.gone
  have hc := ok.cap
  unfold L11.room L11.roomOut
  by_cases h1 : s.t1.length + s.b1.length < s.c
  · rw [if_pos h1, if_pos h1]
    by_cases h2 : 2 * s.c ≤ s.all
    · rw [if_pos h2]
      unfold L11.all at h2
      have hok : s.less2.Ok := by
        have hl2 : s.less2.b2.length ≤ s.b2.length := by
          show (s.b2.take (s.b2.length - 1)).length ≤ _
          rw [List.length_take]
          omega
        exact ⟨ok.pos, ok.cap, ok.fine.less2, ok.pc, hl, ho, by show s.b1.length + s.less2.b2.length ≤ s.c; omega⟩
      exact r11fresh_less2 hs (by omega) (by omega) (by omega) (by omega) hc h1 h2 (by omega) (r11rep_cut hok rfl) rfl rfl
    · rw [if_neg h2]
      unfold L11.all at h2
      by_cases h3 : s.t1.length + s.t2.length + s.b1.length + s.b2.length < s.c
      · obtain ⟨e1, e2⟩ := L11.cut_none (s := s) (n := s.c - 1) (by omega) false
        rw [e1, e2]
        exact r11fresh_none hs (by omega) (by omega) (by omega) (by omega) hc h1 h3
      · exact r11fresh_rep hs (by omega) (by omega) (by omega) (by omega) hc h1 (by omega) (by omega) (r11rep_cut ok rfl) rfl rfl
  · rw [if_neg h1, if_neg h1]
    by_cases h2 : s.t1.length < s.c
    · rw [if_pos h2, if_pos h2]
      have hok : s.less1.Ok := by
        have hl2 : s.less1.b1.length ≤ s.b1.length := by
          show (s.b1.take (s.b1.length - 1)).length ≤ _
          rw [List.length_take]
          omega
        exact ⟨ok.pos, ok.cap, ok.fine.less1, ok.pc, hl, by show s.t1.length + s.less1.b1.length ≤ s.c; omega, by show s.less1.b1.length + s.b2.length ≤ s.c; omega⟩
      exact r11fresh_less1 hs (by omega) (by omega) (by omega) (by omega) hc (by omega) h2 (r11rep_cut hok rfl) rfl rfl
    · rw [if_neg h2, if_neg h2]
      exact r11fresh_lost hs (by omega) (by omega) (by omega) (by omega) hc (by omega) hp
end
set_option maxRecDepth 8000
section
variable {w : World} {u1 u2 u3 u4 : Value} {s : L11}
set_option maxHeartbeats 2000000 in
theorem r11admit_walk (hs : St11 w s u1 u2 u3 u4) (ok : s.Ok) (k : Nat) (_ : k < 18446744073709551616) : Calls Try.prog 34 #[.agg (l11C s.c s.p u1 u2 u3 u4), .int .u64 (k : Nat)] w (P11o w (s.adm k) (s.admitOut k)) := by
  obtain ⟨F1, n1, d1, rfl⟩ := hs.form1
  obtain ⟨F2, n2, d2, rfl⟩ := hs.form2
  obtain ⟨F3, n3, d3, rfl⟩ := hs.form3
  obtain ⟨F4, n4, d4, rfl⟩ := hs.form4
  have HX0 := Lib.hid (Bx11.start w T11 (by decide) hs)
  have KK := Lib.hid (r11keys_walk HX0.out.st ok)
  have HLK := Lib.hid ok.keysLen
  have HOK := Lib.hid ok
  have hl1 := ok.len_b1
  have hl2 := ok.len_b2
  unfold L11.adm L11.admitOut
  have HRM := Lib.hid (And.intro ok.room.c (And.intro ok.room.p ok.room.ok.len_t1))
  clear ok hs
  generalize hW0 : World.alloc _ (.cells z11 T11) = W0 at HX0 KK
  have HW0 := Lib.hid hW0
  clear hW0
  by_cases hin : k ∈ s.keys
  · rw [if_pos hin, if_pos hin]
    go_enter Try.func34, Try.ntmps34
    go_wp2_with fail
    rw [HW0.out]
    clear HW0
    refine KK.out.mono ?_
    rintro e w1 ⟨v1, rfl, hb1, hk1⟩
    have KH := Lib.hid (rhas_walk hk1 HLK.out k)
    have HX1 := Lib.hid (HX0.out.step hb1)
    clear hb1 hk1 KK HX0 HLK
    rw [decide_eq_true hin] at KH
    clear hin
    go_wp2_with fail
    refine KH.out.mono ?_
    rintro e w2 ⟨rfl, rfl⟩
    clear KH
    obtain ⟨⟨x0, x1, x2, x3, x4, x5⟩, xf0, xf1, xf2, xf3, xf4, xf5⟩ := c6_at HX1.out.bo.box
    have hbb := (head_row HX1.out.bo.box).lt
    obtain ⟨⟨y0, y1, y2, y3, y4, y5⟩, yf0, yf1, yf2, yf3, yf4, yf5⟩ := c6_at HX1.out.bo.res
    have hrr := (head_row HX1.out.bo.res).lt
    clear HOK HRM
    go_wp2
    exact bodyPost_ret (v := .tuple #[.agg (l11C s.c s.p (.slice F1 n1 d1) (.slice F2 n2 d2) (.slice F3 n3 d3) (.slice F4 n4 d4)), .slice none 0 0]) (by simp [results, Try.results34, go_sem, y0, y1, y2, y3, y4, y5]) rfl (HX1.out.doneo (KV.nil _))
  · by_cases h1 : k ∈ s.b1
    · rw [if_neg hin, if_neg hin]
      rw [if_pos h1, if_pos h1]
      clear HRM
      obtain ⟨R, hR⟩ : ∃ R, ((s.up k).cut (s.c - 1) false).hit k = R := ⟨_, rfl⟩
      obtain ⟨O, hO⟩ : ∃ O, (s.up k).cutOut (s.c - 1) false = O := ⟨_, rfl⟩
      have hRc : R.c = s.c := by rw [← hR]; rfl
      obtain ⟨rp, hrp⟩ : ∃ rp, R.p = rp := ⟨_, rfl⟩
      rw [hR, hO]
      have HRE := Lib.hid (And.intro hR hO)
      have HRC := Lib.hid (And.intro hRc hrp)
      clear hR hO hRc hrp
      go_enter Try.func34, Try.ntmps34
      go_wp2_with fail
      rw [HW0.out]
      clear HW0
      refine KK.out.mono ?_
      rintro e w1 ⟨v1, rfl, hb1, hk1⟩
      have KH := Lib.hid (rhas_walk hk1 HLK.out k)
      have HX1 := Lib.hid (HX0.out.step hb1)
      clear hb1 hk1 KK HX0 HLK
      rw [decide_eq_false hin] at KH
      clear hin
      go_wp2_with fail
      refine KH.out.mono ?_
      rintro e w2 ⟨rfl, rfl⟩
      clear KH
      obtain ⟨⟨x0, x1, x2, x3, x4, x5⟩, xf0, xf1, xf2, xf3, xf4, xf5⟩ := c6_at HX1.out.bo.box
      have hbb := (head_row HX1.out.bo.box).lt
      have KH1 := Lib.hid (rhas_walk HX1.out.st.g3 hl1 k)
      rw [decide_eq_true h1] at KH1
      go_wp2_with fail
      refine KH1.out.mono ?_
      rintro e w21 ⟨rfl, rfl⟩
      clear KH1
      have KN := Lib.hid (r11known_up HX1.out.st HOK.out k h1)
      rw [HRE.out.1, HRE.out.2] at KN
      obtain ⟨hRc, hrp⟩ := HRC.out
      clear HOK h1 HRE HRC
      go_wp2_with fail
      refine KN.out.mono ?_
      rintro e wc ⟨v1, v2, v3, v4, o, he, hbc, hsc, hoc⟩
      obtain ⟨Fc1, nc1, dc1, rfl⟩ := hsc.form1
      obtain ⟨Fc2, nc2, dc2, rfl⟩ := hsc.form2
      obtain ⟨Fc3, nc3, dc3, rfl⟩ := hsc.form3
      obtain ⟨Fc4, nc4, dc4, rfl⟩ := hsc.form4
      rw [hRc, hrp] at he
      subst he
      have hbo := HX1.out.bo.step hbc
      clear x0 x1 x2 x3 x4 x5 xf0 xf1 xf2 xf3 xf4 xf5 hbb
      obtain ⟨⟨y0, y1, y2, y3, y4, y5⟩, yf0, yf1, yf2, yf3, yf4, yf5⟩ := c6_at hbo.res
      have hrr := (head_row hbo.res).lt
      have HBO := Lib.hid hbo
      have HSC := Lib.hid (And.intro hsc hoc)
      have HEC := Lib.hid (And.intro hRc hrp)
      clear hbo hsc hoc hbc KN HX1 hRc hrp
      go_wp2
      have HO : Hid (Only [w.heap.size, w.heap.size + 1] wc ((((((wc.setCell ⟨w.heap.size + 1, 0, none⟩ (.int .i64 (s.c : Nat))).setCell ⟨w.heap.size + 1, 1, none⟩ (.int .i64 (rp : Nat))).setCell ⟨w.heap.size + 1, 2, none⟩ (.slice Fc1 nc1 dc1)).setCell ⟨w.heap.size + 1, 3, none⟩ (.slice Fc2 nc2 dc2)).setCell ⟨w.heap.size + 1, 4, none⟩ (.slice Fc3 nc3 dc3)).setCell ⟨w.heap.size + 1, 5, none⟩ (.slice Fc4 nc4 dc4))) := Lib.hid (((((((Only.refl _ _).setCell (by simp) _).setCell (by simp) _).setCell (by simp) _).setCell (by simp) _).setCell (by simp) _).setCell (by simp) _)
      exact bodyPost_ret (v := .tuple #[.agg (l11C s.c rp (.slice Fc1 nc1 dc1) (.slice Fc2 nc2 dc2) (.slice Fc3 nc3 dc3) (.slice Fc4 nc4 dc4)), o]) (by simp [results, Try.results34, go_sem, y0, y1, y2, y3, y4, y5]) rfl ⟨_, _, _, _, _, by rw [HEC.out.1, HEC.out.2], HBO.out.fin HO.out, HBO.out.st11 HO.out HSC.out.1, HBO.out.kv HO.out HSC.out.2⟩
    · by_cases h2 : k ∈ s.b2
      · rw [if_neg hin, if_neg hin]
        rw [if_neg h1, if_neg h1, if_pos h2, if_pos h2]
        clear HRM
        obtain ⟨R, hR⟩ : ∃ R, ((s.dn k).cut (s.c - 1) true).hit k = R := ⟨_, rfl⟩
        obtain ⟨O, hO⟩ : ∃ O, (s.dn k).cutOut (s.c - 1) true = O := ⟨_, rfl⟩
        have hRc : R.c = s.c := by rw [← hR]; rfl
        obtain ⟨rp, hrp⟩ : ∃ rp, R.p = rp := ⟨_, rfl⟩
        rw [hR, hO]
        have HRE := Lib.hid (And.intro hR hO)
        have HRC := Lib.hid (And.intro hRc hrp)
        clear hR hO hRc hrp
        go_enter Try.func34, Try.ntmps34
        go_wp2_with fail
        rw [HW0.out]
        clear HW0
        refine KK.out.mono ?_
        rintro e w1 ⟨v1, rfl, hb1, hk1⟩
        have KH := Lib.hid (rhas_walk hk1 HLK.out k)
        have HX1 := Lib.hid (HX0.out.step hb1)
        clear hb1 hk1 KK HX0 HLK
        rw [decide_eq_false hin] at KH
        clear hin
        go_wp2_with fail
        refine KH.out.mono ?_
        rintro e w2 ⟨rfl, rfl⟩
        clear KH
        obtain ⟨⟨x0, x1, x2, x3, x4, x5⟩, xf0, xf1, xf2, xf3, xf4, xf5⟩ := c6_at HX1.out.bo.box
        have hbb := (head_row HX1.out.bo.box).lt
        have KH1 := Lib.hid (rhas_walk HX1.out.st.g3 hl1 k)
        rw [decide_eq_false h1] at KH1
        go_wp2_with fail
        refine KH1.out.mono ?_
        rintro e w21 ⟨rfl, rfl⟩
        clear KH1
        have KH2 := Lib.hid (rhas_walk HX1.out.st.g4 hl2 k)
        rw [decide_eq_true h2] at KH2
        go_wp2_with fail
        refine KH2.out.mono ?_
        rintro e w22 ⟨rfl, rfl⟩
        clear KH2
        have KN := Lib.hid (r11known_dn HX1.out.st HOK.out k h2)
        rw [HRE.out.1, HRE.out.2] at KN
        obtain ⟨hRc, hrp⟩ := HRC.out
        clear HOK h1 h2 HRE HRC
        go_wp2_with fail
        refine KN.out.mono ?_
        rintro e wc ⟨v1, v2, v3, v4, o, he, hbc, hsc, hoc⟩
        obtain ⟨Fc1, nc1, dc1, rfl⟩ := hsc.form1
        obtain ⟨Fc2, nc2, dc2, rfl⟩ := hsc.form2
        obtain ⟨Fc3, nc3, dc3, rfl⟩ := hsc.form3
        obtain ⟨Fc4, nc4, dc4, rfl⟩ := hsc.form4
        rw [hRc, hrp] at he
        subst he
        have hbo := HX1.out.bo.step hbc
        clear x0 x1 x2 x3 x4 x5 xf0 xf1 xf2 xf3 xf4 xf5 hbb
        obtain ⟨⟨y0, y1, y2, y3, y4, y5⟩, yf0, yf1, yf2, yf3, yf4, yf5⟩ := c6_at hbo.res
        have hrr := (head_row hbo.res).lt
        have HBO := Lib.hid hbo
        have HSC := Lib.hid (And.intro hsc hoc)
        have HEC := Lib.hid (And.intro hRc hrp)
        clear hbo hsc hoc hbc KN HX1 hRc hrp
        go_wp2
        have HO : Hid (Only [w.heap.size, w.heap.size + 1] wc ((((((wc.setCell ⟨w.heap.size + 1, 0, none⟩ (.int .i64 (s.c : Nat))).setCell ⟨w.heap.size + 1, 1, none⟩ (.int .i64 (rp : Nat))).setCell ⟨w.heap.size + 1, 2, none⟩ (.slice Fc1 nc1 dc1)).setCell ⟨w.heap.size + 1, 3, none⟩ (.slice Fc2 nc2 dc2)).setCell ⟨w.heap.size + 1, 4, none⟩ (.slice Fc3 nc3 dc3)).setCell ⟨w.heap.size + 1, 5, none⟩ (.slice Fc4 nc4 dc4))) := Lib.hid (((((((Only.refl _ _).setCell (by simp) _).setCell (by simp) _).setCell (by simp) _).setCell (by simp) _).setCell (by simp) _).setCell (by simp) _)
        exact bodyPost_ret (v := .tuple #[.agg (l11C s.c rp (.slice Fc1 nc1 dc1) (.slice Fc2 nc2 dc2) (.slice Fc3 nc3 dc3) (.slice Fc4 nc4 dc4)), o]) (by simp [results, Try.results34, go_sem, y0, y1, y2, y3, y4, y5]) rfl ⟨_, _, _, _, _, by rw [HEC.out.1, HEC.out.2], HBO.out.fin HO.out, HBO.out.st11 HO.out HSC.out.1, HBO.out.kv HO.out HSC.out.2⟩
      · rw [if_neg hin, if_neg hin]
        rw [if_neg h1, if_neg h1, if_neg h2, if_neg h2]
        obtain ⟨R, hR⟩ : ∃ R, s.room = R := ⟨_, rfl⟩
        obtain ⟨O, hO⟩ : ∃ O, s.roomOut = O := ⟨_, rfl⟩
        rw [hR] at HRM
        rw [hR, hO]
        have HRE := Lib.hid (And.intro hR hO)
        clear hR hO
        go_enter Try.func34, Try.ntmps34
        go_wp2_with fail
        rw [HW0.out]
        clear HW0
        refine KK.out.mono ?_
        rintro e w1 ⟨v1, rfl, hb1, hk1⟩
        have KH := Lib.hid (rhas_walk hk1 HLK.out k)
        have HX1 := Lib.hid (HX0.out.step hb1)
        clear hb1 hk1 KK HX0 HLK
        rw [decide_eq_false hin] at KH
        clear hin
        go_wp2_with fail
        refine KH.out.mono ?_
        rintro e w2 ⟨rfl, rfl⟩
        clear KH
        obtain ⟨⟨x0, x1, x2, x3, x4, x5⟩, xf0, xf1, xf2, xf3, xf4, xf5⟩ := c6_at HX1.out.bo.box
        have hbb := (head_row HX1.out.bo.box).lt
        have KH1 := Lib.hid (rhas_walk HX1.out.st.g3 hl1 k)
        rw [decide_eq_false h1] at KH1
        go_wp2_with fail
        refine KH1.out.mono ?_
        rintro e w21 ⟨rfl, rfl⟩
        clear KH1
        have KH2 := Lib.hid (rhas_walk HX1.out.st.g4 hl2 k)
        rw [decide_eq_false h2] at KH2
        go_wp2_with fail
        refine KH2.out.mono ?_
        rintro e w22 ⟨rfl, rfl⟩
        clear KH2
        have KN := Lib.hid (r11fresh_walk HX1.out.st HOK.out)
        rw [HRE.out.1, HRE.out.2] at KN
        clear HRE
        go_wp2_with fail
        refine KN.out.mono ?_
        rintro e wb ⟨q1, q2, q3, q4, ob, he, hbb2, hsb, hob⟩
        obtain ⟨Fp1, np1, dp1, rfl⟩ := hsb.form1
        obtain ⟨Fp2, np2, dp2, rfl⟩ := hsb.form2
        obtain ⟨Fp3, np3, dp3, rfl⟩ := hsb.form3
        obtain ⟨Fp4, np4, dp4, rfl⟩ := hsb.form4
        obtain ⟨htc, htp, ht2⟩ := HRM.out
        have hxp := (HX1.out.step hbb2).alloc hsb
        have HOB := Lib.hid (hob.below (low_one wb (.cells (l11C R.c R.p (.slice Fp1 np1 dp1) (.slice Fp2 np2 dp2) (.slice Fp3 np3 dp3) (.slice Fp4 np4 dp4)) T11)))
        have hne : w.heap.size + 2 ≤ wb.heap.size := by have := (head_row (HX1.out.step hbb2).bo.res).lt; omega
        clear x0 x1 x2 x3 x4 x5 xf0 xf1 xf2 xf3 xf4 xf5 hbb HRM
        clear hbb2 hsb hob KN HX1 HOK h1 h2
        obtain ⟨tc, tp, ti, tj, tO, tm⟩ := R
        dsimp only at htc htp ht2 hxp HOB he
        subst htc htp he
        have HXp := Lib.hid hxp
        clear hxp
        have KF := Lib.hid (rfront_walk HXp.out.st.g1 ht2 k)
        go_wp2_with fail
        refine KF.out.mono ?_
        rintro e vf ⟨of, rfl, hf⟩
        obtain ⟨Ff, nf, df, rfl⟩ := hf.kv.form
        have hxf := HXp.out.step hf.low
        obtain ⟨⟨x0, x1, x2, x3, x4, x5⟩, xf0, xf1, xf2, xf3, xf4, xf5⟩ := c6_at hxf.bo.box
        have hbb := (head_row hxf.bo.box).lt
        have hyf := hxf.set2 hf.kv
        have HOF := Lib.hid (hxf.kv (i := 2) (x := .slice Ff nf df) (HOB.out.below hf.low))
        obtain ⟨⟨y0, y1, y2, y3, y4, y5⟩, yf0, yf1, yf2, yf3, yf4, yf5⟩ := c6_at hxf.bo.res
        have hrr := (head_row hxf.bo.res).lt
        have HXf := Lib.hid hyf
        clear hf hxf hyf HXp KF HOB
        have HD := Lib.hid (HXf.out.doneo HOF.out)
        clear HXf HOF
        go_wp2
        exact bodyPost_ret (v := .tuple #[.agg (l11C _ _ (.slice Ff nf df) (.slice Fp2 np2 dp2) (.slice Fp3 np3 dp3) (.slice Fp4 np4 dp4)), ob]) (by simp [results, Try.results34, go_sem, y0, y1, y2, y3, y4, y5]) rfl HD.out
end
end Go.Proofs.Ytgkblelgcikafaa
