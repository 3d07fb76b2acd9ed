/- Words and walks: TqS TqT. -/
import Derived.Test.YtcjcddlflincdaaG18
import Derived.Deep.RegionHeld3
import Derived.Deep.RegionWith
import Derived.Deep.CutRange
namespace Go.Proofs.Ytcjcddlflincdaa
open Go Go.RowKit Go.Deep
section
variable {w : World} {u1 u2 u3 : Value} {s : L9}
def P9k (w : World) (s : L9) (k : Nat) (u1 u2 u3 : Value) (e : Ending) (w' : World) : Prop := ∃ v1 v2 v3, e = .returned (.tuple #[.agg (l9C s.c v1 v2 v3), .int .u64 (k : Nat)]) ∧ Below w.heap.size w w' ∧ St9 w' s v1 v2 v3 ∧ Nw w.heap.size u1 v1 ∧ Nw w.heap.size u2 v2 ∧ Nw w.heap.size u3 v3
theorem last_getD {l : List Nat} {k : Nat} (h : l.length = k + 1) : l.getLastD 0 = l.getD k 0 := by
  rw [List.getLastD_eq_getLast?, List.getLast?_eq_getElem?, h, List.getD_eq_getElem?_getD]
  rfl
set_option maxHeartbeats 4000000 in
theorem r9reclaim_in (hs : St9 w s u1 u2 u3) (hl1 : s.inn.length ≤ 100000000) (hl2 : s.out.length ≤ 99999999) (hl3 : s.main.length ≤ 100000000) (hc : s.c ≤ 1048576) (hin : kin9 s.c < s.inn.length ∨ s.main.length = 0) {k : Nat} (hk : s.inn.length = k + 1) : Calls Try.prog 75 #[.agg (l9C s.c u1 u2 u3)] w (P9k w ⟨s.c, s.inn.take k, (fr (s.inn.getD k 0) s.out).take (s.c / 2), s.main⟩ (s.inn.getD k 0) u1 u2 u3) := by
  obtain ⟨F1, d1, rfl, hcap1, _⟩ := hs.g1.mem
  obtain ⟨F2, n2, d2, rfl⟩ := hs.form2
  obtain ⟨F3, d3, rfl, hcap3, _⟩ := hs.g3.mem
  have HX0 := Lib.hid (Bx9.start w T9 (by decide) hs)
  have hkin : kin9 s.c = max (s.c / 4) 1 := rfl
  generalize kin9 s.c = kn at *
  obtain ⟨q, hq⟩ : ∃ q, s.c / 4 = q := ⟨_, rfl⟩
  have e4 : ((s.c : Nat) : Int).tdiv 4 = (q : Int) := by rw [Int.tdiv_eq_ediv_of_nonneg (by omega)]; omega
  have hqI : (q : Int) ≤ 1048576 := by omega
  rw [hq] at hkin
  have HLA := Lib.hid (last_getD hk)
  have HT : Hid (∀ W, Below w.heap.size w W → KV W (.slice F1 k d1) (s.inn.take k)) := Lib.hid (fun W hb => by
    obtain ⟨F', d', e, hk⟩ := (hs.g1.below hb).take k (by omega)
    injection e with e1 e2 e3
    subst e1 e3
    exact hk)
  have KB := Lib.hid (rback_walk HX0.out.st.g1 (by omega) hl1)
  rw [HLA.out] at KB
  rw [hk] at HX0 KB hl1 hcap1 hin ⊢
  generalize s.inn.getD k 0 = x at *
  obtain ⟨c, l1, l2, l3⟩ := s
  simp only at *
  obtain ⟨n3, hn3⟩ : ∃ n, l3.length = n := ⟨_, rfl⟩
  rw [hn3] at HX0 hl3 hcap3 hin KB ⊢
  have hkc : k ≤ d1 := by omega
  have hkcI : (k : Int) ≤ (d1 : Int) := by omega
  have hkI : (k : Int) ≤ 100000000 := by omega
  have HFL : Hid ((fr x l2).length ≤ 100000000) := Lib.hid (by have := fr_len x l2; omega)
  clear hs hk hq hcap1 HLA hn3 hcap3
  by_cases hq1 : q < 1
  · have hqI1 : (q : Int) < 1 := by omega
    obtain rfl : kn = 1 := by omega
    clear hkin hq1
    by_cases hgt : 1 < k + 1
    · have hgtI : 1 < (k : Int) + 1 := by omega
      clear hin hgt
      go_enter Try.func75, Try.ntmps75
      go_wp2_with fail
      refine KB.out.mono ?_
      rintro e w1 ⟨rfl, rfl⟩
      generalize hW0 : World.alloc _ (.cells z9 T9) = W0 at HX0 ⊢
      clear hW0 KB
      obtain ⟨⟨x0, x1, x2, x3⟩, xf0, xf1, xf2, xf3⟩ := c4_at HX0.out.bo.box
      have hbb := (head_row HX0.out.bo.box).lt
      have hx1 := HX0.out.set1 (HT.out _ HX0.out.bo.low)
      generalize hWa : W0.setCell ⟨w.heap.size, 1, none⟩ (.slice F1 k d1) = wa at hx1
      have HWa := Lib.hid hWa
      have HXa := Lib.hid hx1
      clear hWa hx1 HT
      have K2 := Lib.hid (rfront_walk HXa.out.st.g2 (by show l2.length ≤ _; omega) x)
      go_wp2_with fail
      rw [HWa.out]
      clear HWa
      refine K2.out.mono ?_
      rintro e vb ⟨ob, rfl, hb⟩
      obtain ⟨Fb, nb, db, rfl⟩ := hb.kv.form
      have hxb := HXa.out.step hb.low
      clear x0 x1 x2 x3 xf0 xf1 xf2 xf3 hbb
      obtain ⟨⟨x0, x1, x2, x3⟩, xf0, xf1, xf2, xf3⟩ := c4_at hxb.bo.box
      have hbb := (head_row hxb.bo.box).lt
      have hyb := hxb.set2 hb.kv
      have HN2 := Lib.hid (Nw.of_own (B := w.heap.size) (.slice F2 n2 d2) hb HXa.out.bo.low.size)
      generalize hWb : vb.setCell ⟨w.heap.size, 2, none⟩ (.slice Fb nb db) = wb at hyb
      have HWb := Lib.hid hWb
      have HXb := Lib.hid hyb
      clear hb hWb hxb hyb HXa K2 HX0
      have KF := Lib.hid (r9fall_walk HXb.out.st (show (fr x l2).length ≤ 100000000 from HFL.out) hc)
      go_wp2_with fail
      rw [HWb.out]
      clear HWb
      refine KF.out.mono ?_
      rintro e wc ⟨v1, v2, v3, he, hbc, hsc, hw1, hw2, hw3⟩
      obtain ⟨Fc1, nc1, dc1, rfl⟩ := hsc.form1
      obtain ⟨Fc2, nc2, dc2, rfl⟩ := hsc.form2
      obtain ⟨Fc3, nc3, dc3, rfl⟩ := hsc.form3
      have he' : e = .returned (.agg (l9C c (.slice Fc1 nc1 dc1) (.slice Fc2 nc2 dc2) (.slice Fc3 nc3 dc3))) := he
      subst he'
      have hbo := HXb.out.bo.step hbc
      obtain ⟨⟨y0, y1, y2, y3⟩, yf0, yf1, yf2, yf3⟩ := c4_at hbo.res
      have hrr := (head_row hbo.res).lt
      have HBO := Lib.hid hbo
      have HSC := Lib.hid hsc
      have hlb := HXb.out.bo.low.size
      have HNW := Lib.hid (And.intro ((Nw.take w.heap.size F1 d1 (Nat.le_succ k)).trans hw1 hlb) (And.intro (HN2.out.trans hw2 hlb) ((Nw.refl w.heap.size (.slice F3 _ d3)).trans hw3 hlb)))
      clear hlb hw1 hw2 hw3 HN2 hbo hsc hbc he KF HXb
      go_wp2
      have HO : Hid (Only [w.heap.size, w.heap.size + 1] wc ((((wc.setCell ⟨w.heap.size + 1, 0, none⟩ (.int .i64 (c : Nat))).setCell ⟨w.heap.size + 1, 1, none⟩ (.slice Fc1 nc1 dc1)).setCell ⟨w.heap.size + 1, 2, none⟩ (.slice Fc2 nc2 dc2)).setCell ⟨w.heap.size + 1, 3, none⟩ (.slice Fc3 nc3 dc3))) := Lib.hid (((((Only.refl _ _).setCell (by simp) _).setCell (by simp) _).setCell (by simp) _).setCell (by simp) _)
      exact bodyPost_ret (v := .tuple #[.agg (l9C c (.slice Fc1 nc1 dc1) (.slice Fc2 nc2 dc2) (.slice Fc3 nc3 dc3)), .int .u64 (x : Nat)]) (by simp [results, Try.results75, go_sem, y0, y1, y2, y3]) rfl ⟨_, _, _, rfl, HBO.out.fin HO.out, HBO.out.st9 HO.out HSC.out, HNW.out⟩
    · have hgtI : ¬ 1 < (k : Int) + 1 := by omega
      have hgtN : ¬ 1 < k + 1 := by omega
      obtain rfl : n3 = 0 := by omega
      clear hin hgt
      go_enter Try.func75, Try.ntmps75
      go_wp2_with fail
      refine KB.out.mono ?_
      rintro e w1 ⟨rfl, rfl⟩
      generalize hW0 : World.alloc _ (.cells z9 T9) = W0 at HX0 ⊢
      clear hW0 KB
      obtain ⟨⟨x0, x1, x2, x3⟩, xf0, xf1, xf2, xf3⟩ := c4_at HX0.out.bo.box
      have hbb := (head_row HX0.out.bo.box).lt
      have hx1 := HX0.out.set1 (HT.out _ HX0.out.bo.low)
      generalize hWa : W0.setCell ⟨w.heap.size, 1, none⟩ (.slice F1 k d1) = wa at hx1
      have HWa := Lib.hid hWa
      have HXa := Lib.hid hx1
      clear hWa hx1 HT
      have K2 := Lib.hid (rfront_walk HXa.out.st.g2 (by show l2.length ≤ _; omega) x)
      go_wp2_with fail
      rw [HWa.out]
      clear HWa
      refine K2.out.mono ?_
      rintro e vb ⟨ob, rfl, hb⟩
      obtain ⟨Fb, nb, db, rfl⟩ := hb.kv.form
      have hxb := HXa.out.step hb.low
      clear x0 x1 x2 x3 xf0 xf1 xf2 xf3 hbb
      obtain ⟨⟨x0, x1, x2, x3⟩, xf0, xf1, xf2, xf3⟩ := c4_at hxb.bo.box
      have hbb := (head_row hxb.bo.box).lt
      have hyb := hxb.set2 hb.kv
      have HN2 := Lib.hid (Nw.of_own (B := w.heap.size) (.slice F2 n2 d2) hb HXa.out.bo.low.size)
      generalize hWb : vb.setCell ⟨w.heap.size, 2, none⟩ (.slice Fb nb db) = wb at hyb
      have HWb := Lib.hid hWb
      have HXb := Lib.hid hyb
      clear hb hWb hxb hyb HXa K2 HX0
      have KF := Lib.hid (r9fall_walk HXb.out.st (show (fr x l2).length ≤ 100000000 from HFL.out) hc)
      go_wp2_with fail
      rw [HWb.out]
      clear HWb
      refine KF.out.mono ?_
      rintro e wc ⟨v1, v2, v3, he, hbc, hsc, hw1, hw2, hw3⟩
      obtain ⟨Fc1, nc1, dc1, rfl⟩ := hsc.form1
      obtain ⟨Fc2, nc2, dc2, rfl⟩ := hsc.form2
      obtain ⟨Fc3, nc3, dc3, rfl⟩ := hsc.form3
      have he' : e = .returned (.agg (l9C c (.slice Fc1 nc1 dc1) (.slice Fc2 nc2 dc2) (.slice Fc3 nc3 dc3))) := he
      subst he'
      have hbo := HXb.out.bo.step hbc
      obtain ⟨⟨y0, y1, y2, y3⟩, yf0, yf1, yf2, yf3⟩ := c4_at hbo.res
      have hrr := (head_row hbo.res).lt
      have HBO := Lib.hid hbo
      have HSC := Lib.hid hsc
      have hlb := HXb.out.bo.low.size
      have HNW := Lib.hid (And.intro ((Nw.take w.heap.size F1 d1 (Nat.le_succ k)).trans hw1 hlb) (And.intro (HN2.out.trans hw2 hlb) ((Nw.refl w.heap.size (.slice F3 _ d3)).trans hw3 hlb)))
      clear hlb hw1 hw2 hw3 HN2 hbo hsc hbc he KF HXb
      go_wp2
      have HO : Hid (Only [w.heap.size, w.heap.size + 1] wc ((((wc.setCell ⟨w.heap.size + 1, 0, none⟩ (.int .i64 (c : Nat))).setCell ⟨w.heap.size + 1, 1, none⟩ (.slice Fc1 nc1 dc1)).setCell ⟨w.heap.size + 1, 2, none⟩ (.slice Fc2 nc2 dc2)).setCell ⟨w.heap.size + 1, 3, none⟩ (.slice Fc3 nc3 dc3))) := Lib.hid (((((Only.refl _ _).setCell (by simp) _).setCell (by simp) _).setCell (by simp) _).setCell (by simp) _)
      exact bodyPost_ret (v := .tuple #[.agg (l9C c (.slice Fc1 nc1 dc1) (.slice Fc2 nc2 dc2) (.slice Fc3 nc3 dc3)), .int .u64 (x : Nat)]) (by simp [results, Try.results75, go_sem, y0, y1, y2, y3]) rfl ⟨_, _, _, rfl, HBO.out.fin HO.out, HBO.out.st9 HO.out HSC.out, HNW.out⟩
  · have hqI1 : (1 : Int) ≤ (q : Int) := by omega
    obtain rfl : q = kn := by omega
    clear hkin hq1
    by_cases hgt : q < k + 1
    · have hgtI : (q : Int) < (k : Int) + 1 := by omega
      clear hin hgt
      go_enter Try.func75, Try.ntmps75
      go_wp2_with fail
      refine KB.out.mono ?_
      rintro e w1 ⟨rfl, rfl⟩
      generalize hW0 : World.alloc _ (.cells z9 T9) = W0 at HX0 ⊢
      clear hW0 KB
      obtain ⟨⟨x0, x1, x2, x3⟩, xf0, xf1, xf2, xf3⟩ := c4_at HX0.out.bo.box
      have hbb := (head_row HX0.out.bo.box).lt
      have hx1 := HX0.out.set1 (HT.out _ HX0.out.bo.low)
      generalize hWa : W0.setCell ⟨w.heap.size, 1, none⟩ (.slice F1 k d1) = wa at hx1
      have HWa := Lib.hid hWa
      have HXa := Lib.hid hx1
      clear hWa hx1 HT
      have K2 := Lib.hid (rfront_walk HXa.out.st.g2 (by show l2.length ≤ _; omega) x)
      go_wp2_with fail
      rw [HWa.out]
      clear HWa
      refine K2.out.mono ?_
      rintro e vb ⟨ob, rfl, hb⟩
      obtain ⟨Fb, nb, db, rfl⟩ := hb.kv.form
      have hxb := HXa.out.step hb.low
      clear x0 x1 x2 x3 xf0 xf1 xf2 xf3 hbb
      obtain ⟨⟨x0, x1, x2, x3⟩, xf0, xf1, xf2, xf3⟩ := c4_at hxb.bo.box
      have hbb := (head_row hxb.bo.box).lt
      have hyb := hxb.set2 hb.kv
      have HN2 := Lib.hid (Nw.of_own (B := w.heap.size) (.slice F2 n2 d2) hb HXa.out.bo.low.size)
      generalize hWb : vb.setCell ⟨w.heap.size, 2, none⟩ (.slice Fb nb db) = wb at hyb
      have HWb := Lib.hid hWb
      have HXb := Lib.hid hyb
      clear hb hWb hxb hyb HXa K2 HX0
      have KF := Lib.hid (r9fall_walk HXb.out.st (show (fr x l2).length ≤ 100000000 from HFL.out) hc)
      go_wp2_with fail
      rw [HWb.out]
      clear HWb
      refine KF.out.mono ?_
      rintro e wc ⟨v1, v2, v3, he, hbc, hsc, hw1, hw2, hw3⟩
      obtain ⟨Fc1, nc1, dc1, rfl⟩ := hsc.form1
      obtain ⟨Fc2, nc2, dc2, rfl⟩ := hsc.form2
      obtain ⟨Fc3, nc3, dc3, rfl⟩ := hsc.form3
      have he' : e = .returned (.agg (l9C c (.slice Fc1 nc1 dc1) (.slice Fc2 nc2 dc2) (.slice Fc3 nc3 dc3))) := he
      subst he'
      have hbo := HXb.out.bo.step hbc
      obtain ⟨⟨y0, y1, y2, y3⟩, yf0, yf1, yf2, yf3⟩ := c4_at hbo.res
      have hrr := (head_row hbo.res).lt
      have HBO := Lib.hid hbo
      have HSC := Lib.hid hsc
      have hlb := HXb.out.bo.low.size
      have HNW := Lib.hid (And.intro ((Nw.take w.heap.size F1 d1 (Nat.le_succ k)).trans hw1 hlb) (And.intro (HN2.out.trans hw2 hlb) ((Nw.refl w.heap.size (.slice F3 _ d3)).trans hw3 hlb)))
      clear hlb hw1 hw2 hw3 HN2 hbo hsc hbc he KF HXb
      go_wp2
      have HO : Hid (Only [w.heap.size, w.heap.size + 1] wc ((((wc.setCell ⟨w.heap.size + 1, 0, none⟩ (.int .i64 (c : Nat))).setCell ⟨w.heap.size + 1, 1, none⟩ (.slice Fc1 nc1 dc1)).setCell ⟨w.heap.size + 1, 2, none⟩ (.slice Fc2 nc2 dc2)).setCell ⟨w.heap.size + 1, 3, none⟩ (.slice Fc3 nc3 dc3))) := Lib.hid (((((Only.refl _ _).setCell (by simp) _).setCell (by simp) _).setCell (by simp) _).setCell (by simp) _)
      exact bodyPost_ret (v := .tuple #[.agg (l9C c (.slice Fc1 nc1 dc1) (.slice Fc2 nc2 dc2) (.slice Fc3 nc3 dc3)), .int .u64 (x : Nat)]) (by simp [results, Try.results75, go_sem, y0, y1, y2, y3]) rfl ⟨_, _, _, rfl, HBO.out.fin HO.out, HBO.out.st9 HO.out HSC.out, HNW.out⟩
    · have hgtI : ¬ (q : Int) < (k : Int) + 1 := by omega
      have hgtN : ¬ q < k + 1 := by omega
      obtain rfl : n3 = 0 := by omega
      clear hin hgt
      go_enter Try.func75, Try.ntmps75
      go_wp2_with fail
      refine KB.out.mono ?_
      rintro e w1 ⟨rfl, rfl⟩
      generalize hW0 : World.alloc _ (.cells z9 T9) = W0 at HX0 ⊢
      clear hW0 KB
      obtain ⟨⟨x0, x1, x2, x3⟩, xf0, xf1, xf2, xf3⟩ := c4_at HX0.out.bo.box
      have hbb := (head_row HX0.out.bo.box).lt
      have hx1 := HX0.out.set1 (HT.out _ HX0.out.bo.low)
      generalize hWa : W0.setCell ⟨w.heap.size, 1, none⟩ (.slice F1 k d1) = wa at hx1
      have HWa := Lib.hid hWa
      have HXa := Lib.hid hx1
      clear hWa hx1 HT
      have K2 := Lib.hid (rfront_walk HXa.out.st.g2 (by show l2.length ≤ _; omega) x)
      go_wp2_with fail
      rw [HWa.out]
      clear HWa
      refine K2.out.mono ?_
      rintro e vb ⟨ob, rfl, hb⟩
      obtain ⟨Fb, nb, db, rfl⟩ := hb.kv.form
      have hxb := HXa.out.step hb.low
      clear x0 x1 x2 x3 xf0 xf1 xf2 xf3 hbb
      obtain ⟨⟨x0, x1, x2, x3⟩, xf0, xf1, xf2, xf3⟩ := c4_at hxb.bo.box
      have hbb := (head_row hxb.bo.box).lt
      have hyb := hxb.set2 hb.kv
      have HN2 := Lib.hid (Nw.of_own (B := w.heap.size) (.slice F2 n2 d2) hb HXa.out.bo.low.size)
      generalize hWb : vb.setCell ⟨w.heap.size, 2, none⟩ (.slice Fb nb db) = wb at hyb
      have HWb := Lib.hid hWb
      have HXb := Lib.hid hyb
      clear hb hWb hxb hyb HXa K2 HX0
      have KF := Lib.hid (r9fall_walk HXb.out.st (show (fr x l2).length ≤ 100000000 from HFL.out) hc)
      go_wp2_with fail
      rw [HWb.out]
      clear HWb
      refine KF.out.mono ?_
      rintro e wc ⟨v1, v2, v3, he, hbc, hsc, hw1, hw2, hw3⟩
      obtain ⟨Fc1, nc1, dc1, rfl⟩ := hsc.form1
      obtain ⟨Fc2, nc2, dc2, rfl⟩ := hsc.form2
      obtain ⟨Fc3, nc3, dc3, rfl⟩ := hsc.form3
      have he' : e = .returned (.agg (l9C c (.slice Fc1 nc1 dc1) (.slice Fc2 nc2 dc2) (.slice Fc3 nc3 dc3))) := he
      subst he'
      have hbo := HXb.out.bo.step hbc
      obtain ⟨⟨y0, y1, y2, y3⟩, yf0, yf1, yf2, yf3⟩ := c4_at hbo.res
      have hrr := (head_row hbo.res).lt
      have HBO := Lib.hid hbo
      have HSC := Lib.hid hsc
      have hlb := HXb.out.bo.low.size
      have HNW := Lib.hid (And.intro ((Nw.take w.heap.size F1 d1 (Nat.le_succ k)).trans hw1 hlb) (And.intro (HN2.out.trans hw2 hlb) ((Nw.refl w.heap.size (.slice F3 _ d3)).trans hw3 hlb)))
      clear hlb hw1 hw2 hw3 HN2 hbo hsc hbc he KF HXb
      go_wp2
      have HO : Hid (Only [w.heap.size, w.heap.size + 1] wc ((((wc.setCell ⟨w.heap.size + 1, 0, none⟩ (.int .i64 (c : Nat))).setCell ⟨w.heap.size + 1, 1, none⟩ (.slice Fc1 nc1 dc1)).setCell ⟨w.heap.size + 1, 2, none⟩ (.slice Fc2 nc2 dc2)).setCell ⟨w.heap.size + 1, 3, none⟩ (.slice Fc3 nc3 dc3))) := Lib.hid (((((Only.refl _ _).setCell (by simp) _).setCell (by simp) _).setCell (by simp) _).setCell (by simp) _)
      exact bodyPost_ret (v := .tuple #[.agg (l9C c (.slice Fc1 nc1 dc1) (.slice Fc2 nc2 dc2) (.slice Fc3 nc3 dc3)), .int .u64 (x : Nat)]) (by simp [results, Try.results75, go_sem, y0, y1, y2, y3]) rfl ⟨_, _, _, rfl, HBO.out.fin HO.out, HBO.out.st9 HO.out HSC.out, HNW.out⟩
set_option maxHeartbeats 4000000 in
theorem r9reclaim_main (hs : St9 w s u1 u2 u3) (hl1 : s.inn.length ≤ 100000000) (hl2 : s.out.length ≤ 99999999) (hl3 : s.main.length ≤ 100000000) (hc : s.c ≤ 1048576) (hin : ¬ (kin9 s.c < s.inn.length ∨ s.main.length = 0)) {k : Nat} (hk : s.main.length = k + 1) : Calls Try.prog 75 #[.agg (l9C s.c u1 u2 u3)] w (P9k w ⟨s.c, s.inn, s.out, s.main.take k⟩ (s.main.getD k 0) u1 u2 u3) := by
  obtain ⟨F1, d1, rfl, hcap1, _⟩ := hs.g1.mem
  obtain ⟨F2, n2, d2, rfl⟩ := hs.form2
  obtain ⟨F3, d3, rfl, hcap3, _⟩ := hs.g3.mem
  have HX0 := Lib.hid (Bx9.start w T9 (by decide) hs)
  have hkin : kin9 s.c = max (s.c / 4) 1 := rfl
  generalize kin9 s.c = kn at *
  obtain ⟨q, hq⟩ : ∃ q, s.c / 4 = q := ⟨_, rfl⟩
  have e4 : ((s.c : Nat) : Int).tdiv 4 = (q : Int) := by rw [Int.tdiv_eq_ediv_of_nonneg (by omega)]; omega
  have hqI : (q : Int) ≤ 1048576 := by omega
  rw [hq] at hkin
  have HLA := Lib.hid (last_getD hk)
  have HT : Hid (∀ W, Below w.heap.size w W → KV W (.slice F3 k d3) (s.main.take k)) := Lib.hid (fun W hb => by
    obtain ⟨F', d', e, hk⟩ := (hs.g3.below hb).take k (by omega)
    injection e with e1 e2 e3
    subst e1 e3
    exact hk)
  have KB := Lib.hid (rback_walk HX0.out.st.g3 (by omega) hl3)
  rw [HLA.out] at KB
  rw [hk] at HX0 KB hl3 hcap3 hin ⊢
  generalize s.main.getD k 0 = x at *
  obtain ⟨c, l1, l2, l3⟩ := s
  simp only at *
  obtain ⟨n1, hn1⟩ : ∃ n, l1.length = n := ⟨_, rfl⟩
  rw [hn1] at HX0 hl1 hcap1 hin KB ⊢
  have hkc : k ≤ d3 := by omega
  have hkcI : (k : Int) ≤ (d3 : Int) := by omega
  have hkI : (k : Int) ≤ 100000000 := by omega
  have hkne : (((k : Int) + 1) == 0) = false := by rw [beq_eq_false_iff_ne]; omega
  clear hs hk hq hcap1 HLA hn1 hcap3 hl2
  by_cases hq1 : q < 1
  · have hqI1 : (q : Int) < 1 := by omega
    obtain rfl : kn = 1 := by omega
    clear hkin hq1
    have hgtI : ¬ 1 < (n1 : Int) := by omega
    have hgtN : ¬ 1 < n1 := by omega
    clear hin
    go_enter Try.func75, Try.ntmps75
    go_wp2_with fail
    refine KB.out.mono ?_
    rintro e w1 ⟨rfl, rfl⟩
    generalize hW0 : World.alloc _ (.cells z9 T9) = W0 at HX0 ⊢
    clear hW0 KB
    obtain ⟨⟨x0, x1, x2, x3⟩, xf0, xf1, xf2, xf3⟩ := c4_at HX0.out.bo.box
    obtain ⟨⟨y0, y1, y2, y3⟩, yf0, yf1, yf2, yf3⟩ := c4_at HX0.out.bo.res
    have hbb := (head_row HX0.out.bo.box).lt
    have hrr := (head_row HX0.out.bo.res).lt
    have HXa := Lib.hid (HX0.out.set3 (HT.out _ HX0.out.bo.low))
    clear HT
    go_wp2
    exact bodyPost_ret (v := .tuple #[.agg (l9C c (.slice F1 n1 d1) (.slice F2 n2 d2) (.slice F3 k d3)), .int .u64 (x : Nat)]) (by simp [results, Try.results75, go_sem, y0, y1, y2, y3]) rfl ⟨_, _, _, rfl, HXa.out.bo.fin HXa.out.only, HXa.out.bo.st9 HXa.out.only HXa.out.st, Nw.refl _ _, Nw.refl _ _, Nw.take _ _ _ (Nat.le_succ k)⟩
  · have hqI1 : (1 : Int) ≤ (q : Int) := by omega
    obtain rfl : q = kn := by omega
    clear hkin hq1
    have hgtI : ¬ (q : Int) < (n1 : Int) := by omega
    have hgtN : ¬ q < n1 := by omega
    clear hin
    go_enter Try.func75, Try.ntmps75
    go_wp2_with fail
    refine KB.out.mono ?_
    rintro e w1 ⟨rfl, rfl⟩
    generalize hW0 : World.alloc _ (.cells z9 T9) = W0 at HX0 ⊢
    clear hW0 KB
    obtain ⟨⟨x0, x1, x2, x3⟩, xf0, xf1, xf2, xf3⟩ := c4_at HX0.out.bo.box
    obtain ⟨⟨y0, y1, y2, y3⟩, yf0, yf1, yf2, yf3⟩ := c4_at HX0.out.bo.res
    have hbb := (head_row HX0.out.bo.box).lt
    have hrr := (head_row HX0.out.bo.res).lt
    have HXa := Lib.hid (HX0.out.set3 (HT.out _ HX0.out.bo.low))
    clear HT
    go_wp2
    exact bodyPost_ret (v := .tuple #[.agg (l9C c (.slice F1 n1 d1) (.slice F2 n2 d2) (.slice F3 k d3)), .int .u64 (x : Nat)]) (by simp [results, Try.results75, go_sem, y0, y1, y2, y3]) rfl ⟨_, _, _, rfl, HXa.out.bo.fin HXa.out.only, HXa.out.bo.st9 HXa.out.only HXa.out.st, Nw.refl _ _, Nw.refl _ _, Nw.take _ _ _ (Nat.le_succ k)⟩
end
def L9.outAt (s : L9) (i : Nat) : List Nat := if i = s.inn.length then s.out else (s.inn.drop i ++ s.out).take (s.c / 2)
theorem cons_take {k h : Nat} {x : List Nat} : (k :: x.take h).take h = (k :: x).take h := by
  cases h with
  | zero => rfl
  | succ j => rw [List.take_succ_cons, List.take_succ_cons, List.take_take, Nat.min_eq_left (by omega)]
theorem L9.outAt_len (s : L9) (i : Nat) (h1 : s.out.length ≤ 99999999) (h2 : s.c ≤ 1048576) : (s.outAt i).length ≤ 99999999 := by
  unfold outAt
  split
  · exact h1
  · rw [List.length_take]
    omega
theorem drop_cut {l : List Nat} {i : Nat} (hi : i < l.length) : l.drop i = l.getD i 0 :: l.drop (i + 1) := by
  rw [List.drop_eq_getElem_cons hi]
  simp [List.getD_eq_getElem?_getD, List.getElem?_eq_getElem hi]
theorem L9.outAt_next {s : L9} (h : s.Fine) {i : Nat} (hi : i < s.inn.length) : (fr (s.inn.getD i 0) (s.outAt (i + 1))).take (s.c / 2) = s.outAt i := by
  have hd := drop_cut hi
  have hn : s.inn.getD i 0 ∉ s.outAt (i + 1) := by
    have h2 : (s.inn.drop i ++ s.out).Nodup := h.ioNd.sublist ((List.drop_sublist _ _).append (List.Sublist.refl _))
    rw [hd, List.cons_append] at h2
    have h3 := (List.nodup_cons.1 h2).1
    intro hm
    refine h3 ?_
    unfold outAt at hm
    split at hm
    · exact List.mem_append_right _ hm
    · exact List.mem_of_mem_take hm
  rw [fr, wo_none8 hn]
  unfold outAt
  rw [if_neg (show ¬ i = s.inn.length by omega), hd, List.cons_append]
  split
  · rename_i e
    rw [e, List.drop_length, List.nil_append]
  · exact cons_take
theorem take_getD {l : List Nat} {i k : Nat} (hk : k < i) : (l.take i).getD k 0 = l.getD k 0 := by
  rw [List.getD_eq_getElem?_getD, List.getD_eq_getElem?_getD, List.getElem?_take, if_pos hk]
structure At9 (w wr : World) (b r : Nat) (s : L9) (N i m : Nat) (u1 u2 u3 v : Value) : Prop where
  bx : Bx9 w wr T9 b r ⟨s.c, s.inn.take i, s.outAt i, s.main.take m⟩ u1 u2 u3
  ko : ∃ acc, KO w.heap.size w wr v acc ∧ acc ++ rcO (kin9 s.c) s.inn s.main (i + m - N) i m = s.shrOut N ∧ acc.length ≤ 100000000
  li : rcI (kin9 s.c) (i + m - N) i m = s.li N
  lm : rcM (kin9 s.c) (i + m - N) i m = s.lm N
  le : i ≤ s.inn.length ∧ m ≤ s.main.length
  off : Off u1 v ∧ Off u2 v ∧ Off u3 v
section
variable {w wr : World} {u1 u2 u3 : Value} {s : L9}
def At9N (w : World) (s : L9) (N f : Nat) (acc : List Nat) (i m : Nat) (u1 u2 u3 : Value) (e : Ending) (w' : World) : Prop := ∃ i' m' x, P9k w ⟨s.c, s.inn.take i', s.outAt i', s.main.take m'⟩ x u1 u2 u3 e w' ∧ i' + m' + 1 = i + m ∧ i' ≤ s.inn.length ∧ m' ≤ s.main.length ∧
  rcI (kin9 s.c) f i' m' = s.li N ∧ rcM (kin9 s.c) f i' m' = s.lm N ∧ (acc ++ [x]) ++ rcO (kin9 s.c) s.inn s.main f i' m' = s.shrOut N
theorem r9reclaim_walk {N i m f : Nat} {acc : List Nat} (fine : s.Fine) (h1 : s.inn.length ≤ 100000000) (h2 : s.out.length ≤ 99999999) (h3 : s.main.length ≤ 100000000) (hc : s.c ≤ 1048576) (hi : i ≤ s.inn.length) (hm : m ≤ s.main.length) (hf : i + m - N = f + 1)
    (hs : St9 wr ⟨s.c, s.inn.take i, s.outAt i, s.main.take m⟩ u1 u2 u3) (li : rcI (kin9 s.c) (f + 1) i m = s.li N) (lm : rcM (kin9 s.c) (f + 1) i m = s.lm N) (lo : acc ++ rcO (kin9 s.c) s.inn s.main (f + 1) i m = s.shrOut N) :
    Calls Try.prog 75 #[.agg (l9C s.c u1 u2 u3)] wr (At9N wr s N f acc i m u1 u2 u3) := by
  have e1 : (s.inn.take i).length = i := by rw [List.length_take]; omega
  have e3 : (s.main.take m).length = m := by rw [List.length_take]; omega
  by_cases h : kin9 s.c < i ∨ m = 0
  · obtain ⟨k, rfl⟩ : ∃ k, i = k + 1 := ⟨i - 1, by omega⟩
    rw [rcI_in h, Nat.add_sub_cancel] at li
    rw [rcM_in h, Nat.add_sub_cancel] at lm
    rw [rcO_in h, Nat.add_sub_cancel] at lo
    refine (r9reclaim_in hs (by show (s.inn.take (k + 1)).length ≤ _; omega) (s.outAt_len _ h2 hc) (by show (s.main.take m).length ≤ _; omega) hc (by show kin9 s.c < (s.inn.take (k + 1)).length ∨ (s.main.take m).length = 0; rw [e1, e3]; exact h) e1).mono (fun e w' hp => ?_)
    refine ⟨k, m, s.inn.getD k 0, ?_, by omega, by omega, hm, li, lm, by rw [List.append_assoc]; exact lo⟩
    have hp2 : P9k wr ⟨s.c, (s.inn.take (k + 1)).take k, (fr ((s.inn.take (k + 1)).getD k 0) (s.outAt (k + 1))).take (s.c / 2), s.main.take m⟩ ((s.inn.take (k + 1)).getD k 0) u1 u2 u3 e w' := hp
    rw [take_getD (by omega), L9.outAt_next fine (by omega), List.take_take, Nat.min_eq_left (by omega)] at hp2
    exact hp2
  · obtain ⟨k, rfl⟩ : ∃ k, m = k + 1 := ⟨m - 1, by omega⟩
    rw [rcI_main h, Nat.add_sub_cancel] at li
    rw [rcM_main h, Nat.add_sub_cancel] at lm
    rw [rcO_main h, Nat.add_sub_cancel] at lo
    refine (r9reclaim_main hs (by show (s.inn.take i).length ≤ _; omega) (s.outAt_len _ h2 hc) (by show (s.main.take (k + 1)).length ≤ _; omega) hc (by show ¬ (kin9 s.c < (s.inn.take i).length ∨ (s.main.take (k + 1)).length = 0); rw [e1, e3]; exact h) e3).mono (fun e w' hp => ?_)
    refine ⟨i, k, s.main.getD k 0, ?_, by omega, hi, by omega, li, lm, by rw [List.append_assoc]; exact lo⟩
    have hp2 : P9k wr ⟨s.c, s.inn.take i, s.outAt i, (s.main.take (k + 1)).take k⟩ ((s.main.take (k + 1)).getD k 0) u1 u2 u3 e w' := hp
    rw [take_getD (by omega), List.take_take, Nat.min_eq_left (by omega)] at hp2
    exact hp2
set_option maxHeartbeats 400000 in
theorem r9shrink_walk (hs : St9 w s u1 u2 u3) (fine : s.Fine) (h1 : s.inn.length ≤ 1048576) (h2 : s.out.length ≤ 99999999) (h3 : s.main.length ≤ 1048576) (hc : s.c ≤ 1048576) (N : Nat) (hN : N ≤ 1048576) : Calls Try.prog 53 #[.agg (l9C s.c u1 u2 u3), .int .i64 (N : Nat)] w (P9o w ⟨s.c, s.inn.take (s.li N), s.outAt (s.li N), s.main.take (s.lm N)⟩ (s.shrOut N)) := by
  have e0 : s.inn.length + s.main.length - N = s.many N := rfl
  obtain ⟨F1, n1, d1, rfl⟩ := hs.form1
  obtain ⟨F2, n2, d2, rfl⟩ := hs.form2
  obtain ⟨F3, n3, d3, rfl⟩ := hs.form3
  have hx0 := Bx9.start w T9 (by decide) hs
  have HI0 : Hid (At9 w ((w.alloc (.cells (l9C s.c (.slice F1 n1 d1) (.slice F2 n2 d2) (.slice F3 n3 d3)) T9)).alloc (.cells z9 T9)) w.heap.size (w.heap.size + 1) s N s.inn.length s.main.length (.slice F1 n1 d1) (.slice F2 n2 d2) (.slice F3 n3 d3) (.slice none 0 0)) :=
    Lib.hid ⟨by rw [List.take_length, List.take_length, L9.outAt, if_pos rfl]; exact hx0, ⟨[], KO.nil hx0.bo.low, by rw [e0]; rfl, by simp⟩, by rw [e0]; rfl, by rw [e0]; rfl, ⟨Nat.le_refl _, Nat.le_refl _⟩, Off.nil _, Off.nil _, Off.nil _⟩
  clear hx0 hs
  go_enter Try.func53, Try.ntmps53
  go_wp2_with fail
  generalize World.alloc _ (.cells z9 T9) = W0 at HI0 ⊢
  go_loopg [6] (s.inn.length + s.main.length - N) (fun gg s6 wr => ∃ (i m : Nat) (u1 u2 u3 v6 : Value), gg = i + m - N ∧ v6 = s6 ∧ Hid (At9 w wr w.heap.size (w.heap.size + 1) s N i m u1 u2 u3 v6))
  case atStart => exact ⟨s.inn.length, s.main.length, _, _, _, _, rfl, rfl, HI0⟩
  case round =>
    clear HI0
    obtain ⟨i, m, u1, u2, u3, v6, hi, rfl, HI⟩ := hrel
    obtain ⟨F1, d1, rfl, _, _⟩ := HI.out.bx.st.g1.mem
    obtain ⟨F2, n2, d2, rfl⟩ := HI.out.bx.st.form2
    obtain ⟨F3, d3, rfl, _, _⟩ := HI.out.bx.st.g3.mem
    have e1 : (s.inn.take i).length = i := by have := HI.out.le.1; rw [List.length_take]; omega
    have e3 : (s.main.take m).length = m := by have := HI.out.le.2; rw [List.length_take]; omega
    rw [e1, e3] at HI
    have hle := HI.out.le
    have hiI : (i : Int) ≤ 1048576 := by omega
    have hmI : (m : Int) ≤ 1048576 := by omega
    obtain ⟨⟨x0, x1, x2, x3⟩, xf0, xf1, xf2, xf3⟩ := c4_at HI.out.bx.bo.box
    have hbb := (head_row HI.out.bx.bo.box).lt
    by_cases hgt : N < i + m
    · obtain ⟨f, hf⟩ : ∃ f, i + m - N = f + 1 := ⟨i + m - N - 1, by omega⟩
      have hgtI : (N : Int) < (i : Int) + (m : Int) := by omega
      obtain ⟨acc, hko, hac, hal⟩ := HI.out.ko
      have hli := HI.out.li
      have hlm := HI.out.lm
      rw [hf] at hac hli hlm
      have KR := Lib.hid (r9reclaim_walk fine (by omega) h2 (by omega) hc hle.1 hle.2 hf HI.out.bx.st hli hlm hac)
      have HKO := Lib.hid hko
      have HOF := Lib.hid HI.out.off
      have HAL : Hid (acc.length ≤ 3000000) := Lib.hid (by
        have := congrArg List.length hac
        rw [List.length_append, rcO_len, L9.shrOut_len] at this
        have := s.many_le N
        omega)
      have HBO := Lib.hid HI.out.bx
      clear hko hac hli hlm e1 e3 HI hgt e0 hal
      go_wp2_with fail
      refine KR.out.mono ?_
      rintro e w5 ⟨i', m', x, ⟨v1, v2, v3, he, hb5, hs5, hw1, hw2, hw3⟩, hsum, hi', hm', hli', hlm', hac'⟩
      obtain ⟨Fa1, na1, da1, rfl⟩ := hs5.form1
      obtain ⟨Fa2, na2, da2, rfl⟩ := hs5.form2
      obtain ⟨Fa3, na3, da3, rfl⟩ := hs5.form3
      have he' : e = .returned (.tuple #[.agg (l9C s.c (.slice Fa1 na1 da1) (.slice Fa2 na2 da2) (.slice Fa3 na3 da3)), .int .u64 (x : Nat)]) := he
      subst he'
      have hxa := (HBO.out.step hb5).step (low_one w5 (.cells (l9C s.c (.slice Fa1 na1 da1) (.slice Fa2 na2 da2) (.slice Fa3 na3 da3)) T9))
      have hsa := hs5.below (low_one w5 (.cells (l9C s.c (.slice Fa1 na1 da1) (.slice Fa2 na2 da2) (.slice Fa3 na3 da3)) T9))
      have hka := (HKO.out.below HBO.out.bo.low.size hb5).alloc (HBO.out.step hb5).bo.low.size (.cells (l9C s.c (.slice Fa1 na1 da1) (.slice Fa2 na2 da2) (.slice Fa3 na3 da3)) T9)
      have hne : w.heap.size ≠ w5.heap.size := by have := (head_row (HBO.out.step hb5).bo.box).lt; omega
      clear x0 x1 x2 x3 xf0 xf1 xf2 xf3 hbb
      obtain ⟨⟨x0, x1, x2, x3⟩, xf0, xf1, xf2, xf3⟩ := c4_at hxa.bo.box
      dsimp only at x0 x1 x2 x3
      have hbb := (head_row hxa.bo.box).lt
      have hnew := heap_alloc_new w5 (.cells (l9C s.c (.slice Fa1 na1 da1) (.slice Fa2 na2 da2) (.slice Fa3 na3 da3)) T9)
      obtain ⟨⟨z0, z1, z2, z3⟩, zf0, zf1, zf2, zf3⟩ := c4_at hnew
      have HP := Lib.hid (hxa.put hsa)
      have HK2 := Lib.hid (hxa.bo.ko (hxa.putOnly (s' := ⟨s.c, s.inn.take i', s.outAt i', s.main.take m'⟩) (v1 := .slice Fa1 na1 da1) (v2 := .slice Fa2 na2 da2) (v3 := .slice Fa3 na3 da3)) hka)
      have HN := Lib.hid (And.intro hsum (And.intro hi' (And.intro hm' (And.intro hli' (And.intro hlm' hac')))))
      have HHF := Lib.hid hf
      have HO5 := Lib.hid (And.intro (hw1.off HOF.out.1 HKO.out.lt) (And.intro (hw2.off HOF.out.2.1 HKO.out.lt) (hw3.off HOF.out.2.2 HKO.out.lt)))
      clear hxa hsa hka hnew he hb5 hs5 hsum hi' hm' hli' hlm' hac' hw1 hw2 hw3 HOF HKO HBO KR h1 h2 h3 hle hf
      go_upto_region 4 with fail
      generalize w5.alloc (.cells (l9C s.c (.slice Fa1 na1 da1) (.slice Fa2 na2 da2) (.slice Fa3 na3 da3)) T9) = wx at *
      generalize w5.heap.size = P at *
      have hne2 := hne.symm
      go_upto_region 5 with fail
      generalize (((wx.setCell ⟨w.heap.size, 0, none⟩ (.int .i64 (s.c : Nat))).setCell ⟨w.heap.size, 1, none⟩ (.slice Fa1 na1 da1)).setCell ⟨w.heap.size, 2, none⟩ (.slice Fa2 na2 da2)).setCell ⟨w.heap.size, 3, none⟩ (.slice Fa3 na3 da3) = w6 at HP HK2 ⊢
      have HOW := Lib.hid (HK2.out.alloc HP.out.bo.low.size (.cells #[.int .u64 (x : Nat)] 31))
      have HSRC := Lib.hid (KV.one w6 x)
      have HBX := Lib.hid (HP.out.step (low_one w6 (.cells #[.int .u64 (x : Nat)] 31)))
      have hszA : w.heap.size ≤ (w6.alloc (.cells #[.int .u64 (x : Nat)] 31)).heap.size := HBX.out.bo.low.size
      have halen := HAL.out
      clear x0 x1 x2 x3 xf0 xf1 xf2 xf3 z0 z1 z2 z3 zf0 zf1 zf2 zf3 hbb HP HK2 HAL hne hne2 hgtI hiI hmI
      go_wp2_with (at_builtin; refine wpList_append_kv rfl (.tmp 24) (.tmp 26) rfl w.heap.size (by kernel_rfl) (by kernel_rfl) v6 acc rfl HOW.out _ [x] rfl HSRC.out (by simp; omega) hszA ?_)
      intro v7 w7 hown7 hkp hkt
      have hst := HBX.out.st
      obtain ⟨k1, f1⟩ := hkp.kv hst.g1 HO5.out.1
      obtain ⟨k2, f2⟩ := hkp.kv hst.g2 HO5.out.2.1
      obtain ⟨k3, f3⟩ := hkp.kv hst.g3 HO5.out.2.2
      obtain ⟨hsum, hi', hm', hli', hlm', hac'⟩ := HN.out
      have hff : i' + m' - N = f := by have := HHF.out; omega
      have HNX : Hid (At9 w w7 w.heap.size (w.heap.size + 1) s N i' m' (.slice Fa1 na1 da1) (.slice Fa2 na2 da2) (.slice Fa3 na3 da3) v7) := Lib.hid
        ⟨⟨HBX.out.bo.kt hkt hown7.low, k1, k2, k3⟩, ⟨acc ++ [x], hown7, by rw [hff]; exact hac', by simp; omega⟩, by rw [hff]; exact hli', by rw [hff]; exact hlm', ⟨hi', hm'⟩, f1, f2, f3⟩
      have hgf : f < gk := by have := HHF.out; omega
      have HFF := Lib.hid hff
      clear hst k1 f1 k2 f2 k3 f3 hsum hi' hm' hli' hlm' hac' hff hown7 hkp hkt HN HO5 HHF HOW HSRC HBX halen
      go_wp2
      go_roundg f
      case measure => omega
      case rel => exact ⟨i', m', _, _, _, _, HFF.out.symm, rfl, HNX⟩
    · have hgtI : ¬ (N : Int) < (i : Int) + (m : Int) := by omega
      obtain ⟨acc, hko, hac, hal⟩ := HI.out.ko
      have hli := HI.out.li
      have hlm := HI.out.lm
      rw [show i + m - N = 0 by omega] at hac hli hlm
      have HE : Hid (s.li N = i ∧ s.lm N = m ∧ s.shrOut N = acc) := Lib.hid ⟨hli.symm, hlm.symm, by rw [← hac]; simp [rcO]⟩
      have HX := Lib.hid HI.out.bx
      have HA := Lib.hid hko.kv
      obtain ⟨⟨y0, y1, y2, y3⟩, yf0, yf1, yf2, yf3⟩ := c4_at HI.out.bx.bo.res
      have hrr := (head_row HI.out.bx.bo.res).lt
      dsimp only at x0
      clear hko hac hal hli hlm e1 e3 HI hgt e0 hi h1 h2 h3 hle
      go_wp2
      exact bodyPost_ret (v := .tuple #[.agg (l9C s.c (.slice F1 i d1) (.slice F2 n2 d2) (.slice F3 m d3)), v6]) (by simp [results, Try.results53, go_sem, y0, y1, y2, y3]) rfl (by rw [HE.out.1, HE.out.2.1, HE.out.2.2]; exact HX.out.doneo HA.out)
end
end Go.Proofs.Ytcjcddlflincdaa
