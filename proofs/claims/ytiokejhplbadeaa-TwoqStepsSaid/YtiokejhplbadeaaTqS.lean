/- Two queues, the document's own: reclaim. -/
import Derived.Test.YtiokejhplbadeaaTqR
namespace Go.Proofs.Ytiokejhplbadeaa
open Go Go.RowKit Go.Deep

section
variable {w : World} {u1 u2 u3 : Value} {s : L9}
def P9k (w : World) (s : L9) (k : Nat) (u1 u2 u3 : Value) (e : Ending) (w' : World) : Prop := ∃ v1 v2 v3, e = .returned (.tuple #[.agg (l9C s.c v1 v2 v3), .int .u64 (k : Nat)]) ∧ Below w.heap.size w w' ∧ St9 w' s v1 v2 v3 ∧ Nw w.heap.size u1 v1 ∧ Nw w.heap.size u2 v2 ∧ Nw w.heap.size u3 v3
theorem last_getD {l : List Nat} {k : Nat} (h : l.length = k + 1) : l.getLastD 0 = l.getD k 0 := by
  rw [List.getLastD_eq_getLast?, List.getLast?_eq_getElem?, h, List.getD_eq_getElem?_getD]
  rfl
set_option maxHeartbeats 4000000 in
theorem r9reclaim_in (hs : St9 w s u1 u2 u3) (hl1 : s.inn.length ≤ 100000000) (hl2 : s.out.length ≤ 99999999) (hl3 : s.main.length ≤ 100000000) (hc : s.c ≤ 1048576) (hin : kin9 s.c < s.inn.length ∨ s.main.length = 0) {k : Nat} (hk : s.inn.length = k + 1) : Calls Try.prog 87 #[.agg (l9C s.c u1 u2 u3)] w (P9k w ⟨s.c, s.inn.take k, (fr (s.inn.getD k 0) s.out).take (s.c / 2), s.main⟩ (s.inn.getD k 0) u1 u2 u3) := by
  obtain ⟨F1, d1, rfl, hcap1, _⟩ := hs.g1.mem
  obtain ⟨F2, n2, d2, rfl⟩ := hs.form2
  obtain ⟨F3, d3, rfl, hcap3, _⟩ := hs.g3.mem
  have HX0 := Lib.hid (Bx9.start w T9 (by decide) hs)
  have hkin : kin9 s.c = max (s.c / 4) 1 := rfl
  generalize kin9 s.c = kn at *
  obtain ⟨q, hq⟩ : ∃ q, s.c / 4 = q := ⟨_, rfl⟩
  have e4 : ((s.c : Nat) : Int).tdiv 4 = (q : Int) := by rw [Int.tdiv_eq_ediv_of_nonneg (by omega)]; omega
  have hqI : (q : Int) ≤ 1048576 := by omega
  rw [hq] at hkin
  have HLA := Lib.hid (last_getD hk)
  have HT : Hid (∀ W, Below w.heap.size w W → KV W (.slice F1 k d1) (s.inn.take k)) := Lib.hid (fun W hb => by
    obtain ⟨F', d', e, hk⟩ := (hs.g1.below hb).take k (by omega)
    injection e with e1 e2 e3
    subst e1 e3
    exact hk)
  have KB := Lib.hid (rback_walk HX0.out.st.g1 (by omega) hl1)
  rw [HLA.out] at KB
  rw [hk] at HX0 KB hl1 hcap1 hin ⊢
  generalize s.inn.getD k 0 = x at *
  obtain ⟨c, l1, l2, l3⟩ := s
  simp only at *
  obtain ⟨n3, hn3⟩ : ∃ n, l3.length = n := ⟨_, rfl⟩
  rw [hn3] at HX0 hl3 hcap3 hin KB ⊢
  have hkc : k ≤ d1 := by omega
  have hkcI : (k : Int) ≤ (d1 : Int) := by omega
  have hkI : (k : Int) ≤ 100000000 := by omega
  have HFL : Hid ((fr x l2).length ≤ 100000000) := Lib.hid (by have := fr_len x l2; omega)
  clear hs hk hq hcap1 HLA hn3 hcap3
  by_cases hq1 : q < 1
  · have hqI1 : (q : Int) < 1 := by omega
    obtain rfl : kn = 1 := by omega
    clear hkin hq1
    by_cases hgt : 1 < k + 1
    · have hgtI : 1 < (k : Int) + 1 := by omega
      clear hin hgt
      go_enter Try.func87, Try.ntmps87
      go_wp2_with fail
      refine KB.out.mono ?_
      rintro e w1 ⟨rfl, rfl⟩
      generalize hW0 : World.alloc _ (.cells z9 T9) = W0 at HX0 ⊢
      clear hW0 KB
      obtain ⟨⟨x0, x1, x2, x3⟩, xf0, xf1, xf2, xf3⟩ := c4_at HX0.out.bo.box
      have hbb := (head_row HX0.out.bo.box).lt
      have hx1 := HX0.out.set1 (HT.out _ HX0.out.bo.low)
      generalize hWa : W0.setCell ⟨w.heap.size, 1, none⟩ (.slice F1 k d1) = wa at hx1
      have HWa := Lib.hid hWa
      have HXa := Lib.hid hx1
      clear hWa hx1 HT
      have K2 := Lib.hid (rfront_walk HXa.out.st.g2 (by show l2.length ≤ _; omega) x)
      go_wp2_with fail
      rw [HWa.out]
      clear HWa
      refine K2.out.mono ?_
      rintro e vb ⟨ob, rfl, hb⟩
      obtain ⟨Fb, nb, db, rfl⟩ := hb.kv.form
      have hxb := HXa.out.step hb.low
      clear x0 x1 x2 x3 xf0 xf1 xf2 xf3 hbb
      obtain ⟨⟨x0, x1, x2, x3⟩, xf0, xf1, xf2, xf3⟩ := c4_at hxb.bo.box
      have hbb := (head_row hxb.bo.box).lt
      have hyb := hxb.set2 hb.kv
      have HN2 := Lib.hid (Nw.of_own (B := w.heap.size) (.slice F2 n2 d2) hb HXa.out.bo.low.size)
      generalize hWb : vb.setCell ⟨w.heap.size, 2, none⟩ (.slice Fb nb db) = wb at hyb
      have HWb := Lib.hid hWb
      have HXb := Lib.hid hyb
      clear hb hWb hxb hyb HXa K2 HX0
      have KF := Lib.hid (r9fall_walk HXb.out.st (show (fr x l2).length ≤ 100000000 from HFL.out) hc)
      go_wp2_with fail
      rw [HWb.out]
      clear HWb
      refine KF.out.mono ?_
      rintro e wc ⟨v1, v2, v3, he, hbc, hsc, hw1, hw2, hw3⟩
      obtain ⟨Fc1, nc1, dc1, rfl⟩ := hsc.form1
      obtain ⟨Fc2, nc2, dc2, rfl⟩ := hsc.form2
      obtain ⟨Fc3, nc3, dc3, rfl⟩ := hsc.form3
      have he' : e = .returned (.agg (l9C c (.slice Fc1 nc1 dc1) (.slice Fc2 nc2 dc2) (.slice Fc3 nc3 dc3))) := he
      subst he'
      have hbo := HXb.out.bo.step hbc
      obtain ⟨⟨y0, y1, y2, y3⟩, yf0, yf1, yf2, yf3⟩ := c4_at hbo.res
      have hrr := (head_row hbo.res).lt
      have HBO := Lib.hid hbo
      have HSC := Lib.hid hsc
      have hlb := HXb.out.bo.low.size
      have HNW := Lib.hid (And.intro ((Nw.take w.heap.size F1 d1 (Nat.le_succ k)).trans hw1 hlb) (And.intro (HN2.out.trans hw2 hlb) ((Nw.refl w.heap.size (.slice F3 _ d3)).trans hw3 hlb)))
      clear hlb hw1 hw2 hw3 HN2 hbo hsc hbc he KF HXb
      go_wp2
      have HO : Hid (Only [w.heap.size, w.heap.size + 1] wc ((((wc.setCell ⟨w.heap.size + 1, 0, none⟩ (.int .i64 (c : Nat))).setCell ⟨w.heap.size + 1, 1, none⟩ (.slice Fc1 nc1 dc1)).setCell ⟨w.heap.size + 1, 2, none⟩ (.slice Fc2 nc2 dc2)).setCell ⟨w.heap.size + 1, 3, none⟩ (.slice Fc3 nc3 dc3))) := Lib.hid (((((Only.refl _ _).setCell (by simp) _).setCell (by simp) _).setCell (by simp) _).setCell (by simp) _)
      exact bodyPost_ret (v := .tuple #[.agg (l9C c (.slice Fc1 nc1 dc1) (.slice Fc2 nc2 dc2) (.slice Fc3 nc3 dc3)), .int .u64 (x : Nat)]) (by simp [results, Try.results87, go_sem, y0, y1, y2, y3]) rfl ⟨_, _, _, rfl, HBO.out.fin HO.out, HBO.out.st9 HO.out HSC.out, HNW.out⟩
    · have hgtI : ¬ 1 < (k : Int) + 1 := by omega
      have hgtN : ¬ 1 < k + 1 := by omega
      obtain rfl : n3 = 0 := by omega
      clear hin hgt
      go_enter Try.func87, Try.ntmps87
      go_wp2_with fail
      refine KB.out.mono ?_
      rintro e w1 ⟨rfl, rfl⟩
      generalize hW0 : World.alloc _ (.cells z9 T9) = W0 at HX0 ⊢
      clear hW0 KB
      obtain ⟨⟨x0, x1, x2, x3⟩, xf0, xf1, xf2, xf3⟩ := c4_at HX0.out.bo.box
      have hbb := (head_row HX0.out.bo.box).lt
      have hx1 := HX0.out.set1 (HT.out _ HX0.out.bo.low)
      generalize hWa : W0.setCell ⟨w.heap.size, 1, none⟩ (.slice F1 k d1) = wa at hx1
      have HWa := Lib.hid hWa
      have HXa := Lib.hid hx1
      clear hWa hx1 HT
      have K2 := Lib.hid (rfront_walk HXa.out.st.g2 (by show l2.length ≤ _; omega) x)
      go_wp2_with fail
      rw [HWa.out]
      clear HWa
      refine K2.out.mono ?_
      rintro e vb ⟨ob, rfl, hb⟩
      obtain ⟨Fb, nb, db, rfl⟩ := hb.kv.form
      have hxb := HXa.out.step hb.low
      clear x0 x1 x2 x3 xf0 xf1 xf2 xf3 hbb
      obtain ⟨⟨x0, x1, x2, x3⟩, xf0, xf1, xf2, xf3⟩ := c4_at hxb.bo.box
      have hbb := (head_row hxb.bo.box).lt
      have hyb := hxb.set2 hb.kv
      have HN2 := Lib.hid (Nw.of_own (B := w.heap.size) (.slice F2 n2 d2) hb HXa.out.bo.low.size)
      generalize hWb : vb.setCell ⟨w.heap.size, 2, none⟩ (.slice Fb nb db) = wb at hyb
      have HWb := Lib.hid hWb
      have HXb := Lib.hid hyb
      clear hb hWb hxb hyb HXa K2 HX0
      have KF := Lib.hid (r9fall_walk HXb.out.st (show (fr x l2).length ≤ 100000000 from HFL.out) hc)
      go_wp2_with fail
      rw [HWb.out]
      clear HWb
      refine KF.out.mono ?_
      rintro e wc ⟨v1, v2, v3, he, hbc, hsc, hw1, hw2, hw3⟩
      obtain ⟨Fc1, nc1, dc1, rfl⟩ := hsc.form1
      obtain ⟨Fc2, nc2, dc2, rfl⟩ := hsc.form2
      obtain ⟨Fc3, nc3, dc3, rfl⟩ := hsc.form3
      have he' : e = .returned (.agg (l9C c (.slice Fc1 nc1 dc1) (.slice Fc2 nc2 dc2) (.slice Fc3 nc3 dc3))) := he
      subst he'
      have hbo := HXb.out.bo.step hbc
      obtain ⟨⟨y0, y1, y2, y3⟩, yf0, yf1, yf2, yf3⟩ := c4_at hbo.res
      have hrr := (head_row hbo.res).lt
      have HBO := Lib.hid hbo
      have HSC := Lib.hid hsc
      have hlb := HXb.out.bo.low.size
      have HNW := Lib.hid (And.intro ((Nw.take w.heap.size F1 d1 (Nat.le_succ k)).trans hw1 hlb) (And.intro (HN2.out.trans hw2 hlb) ((Nw.refl w.heap.size (.slice F3 _ d3)).trans hw3 hlb)))
      clear hlb hw1 hw2 hw3 HN2 hbo hsc hbc he KF HXb
      go_wp2
      have HO : Hid (Only [w.heap.size, w.heap.size + 1] wc ((((wc.setCell ⟨w.heap.size + 1, 0, none⟩ (.int .i64 (c : Nat))).setCell ⟨w.heap.size + 1, 1, none⟩ (.slice Fc1 nc1 dc1)).setCell ⟨w.heap.size + 1, 2, none⟩ (.slice Fc2 nc2 dc2)).setCell ⟨w.heap.size + 1, 3, none⟩ (.slice Fc3 nc3 dc3))) := Lib.hid (((((Only.refl _ _).setCell (by simp) _).setCell (by simp) _).setCell (by simp) _).setCell (by simp) _)
      exact bodyPost_ret (v := .tuple #[.agg (l9C c (.slice Fc1 nc1 dc1) (.slice Fc2 nc2 dc2) (.slice Fc3 nc3 dc3)), .int .u64 (x : Nat)]) (by simp [results, Try.results87, go_sem, y0, y1, y2, y3]) rfl ⟨_, _, _, rfl, HBO.out.fin HO.out, HBO.out.st9 HO.out HSC.out, HNW.out⟩
  · have hqI1 : (1 : Int) ≤ (q : Int) := by omega
    obtain rfl : q = kn := by omega
    clear hkin hq1
    by_cases hgt : q < k + 1
    · have hgtI : (q : Int) < (k : Int) + 1 := by omega
      clear hin hgt
      go_enter Try.func87, Try.ntmps87
      go_wp2_with fail
      refine KB.out.mono ?_
      rintro e w1 ⟨rfl, rfl⟩
      generalize hW0 : World.alloc _ (.cells z9 T9) = W0 at HX0 ⊢
      clear hW0 KB
      obtain ⟨⟨x0, x1, x2, x3⟩, xf0, xf1, xf2, xf3⟩ := c4_at HX0.out.bo.box
      have hbb := (head_row HX0.out.bo.box).lt
      have hx1 := HX0.out.set1 (HT.out _ HX0.out.bo.low)
      generalize hWa : W0.setCell ⟨w.heap.size, 1, none⟩ (.slice F1 k d1) = wa at hx1
      have HWa := Lib.hid hWa
      have HXa := Lib.hid hx1
      clear hWa hx1 HT
      have K2 := Lib.hid (rfront_walk HXa.out.st.g2 (by show l2.length ≤ _; omega) x)
      go_wp2_with fail
      rw [HWa.out]
      clear HWa
      refine K2.out.mono ?_
      rintro e vb ⟨ob, rfl, hb⟩
      obtain ⟨Fb, nb, db, rfl⟩ := hb.kv.form
      have hxb := HXa.out.step hb.low
      clear x0 x1 x2 x3 xf0 xf1 xf2 xf3 hbb
      obtain ⟨⟨x0, x1, x2, x3⟩, xf0, xf1, xf2, xf3⟩ := c4_at hxb.bo.box
      have hbb := (head_row hxb.bo.box).lt
      have hyb := hxb.set2 hb.kv
      have HN2 := Lib.hid (Nw.of_own (B := w.heap.size) (.slice F2 n2 d2) hb HXa.out.bo.low.size)
      generalize hWb : vb.setCell ⟨w.heap.size, 2, none⟩ (.slice Fb nb db) = wb at hyb
      have HWb := Lib.hid hWb
      have HXb := Lib.hid hyb
      clear hb hWb hxb hyb HXa K2 HX0
      have KF := Lib.hid (r9fall_walk HXb.out.st (show (fr x l2).length ≤ 100000000 from HFL.out) hc)
      go_wp2_with fail
      rw [HWb.out]
      clear HWb
      refine KF.out.mono ?_
      rintro e wc ⟨v1, v2, v3, he, hbc, hsc, hw1, hw2, hw3⟩
      obtain ⟨Fc1, nc1, dc1, rfl⟩ := hsc.form1
      obtain ⟨Fc2, nc2, dc2, rfl⟩ := hsc.form2
      obtain ⟨Fc3, nc3, dc3, rfl⟩ := hsc.form3
      have he' : e = .returned (.agg (l9C c (.slice Fc1 nc1 dc1) (.slice Fc2 nc2 dc2) (.slice Fc3 nc3 dc3))) := he
      subst he'
      have hbo := HXb.out.bo.step hbc
      obtain ⟨⟨y0, y1, y2, y3⟩, yf0, yf1, yf2, yf3⟩ := c4_at hbo.res
      have hrr := (head_row hbo.res).lt
      have HBO := Lib.hid hbo
      have HSC := Lib.hid hsc
      have hlb := HXb.out.bo.low.size
      have HNW := Lib.hid (And.intro ((Nw.take w.heap.size F1 d1 (Nat.le_succ k)).trans hw1 hlb) (And.intro (HN2.out.trans hw2 hlb) ((Nw.refl w.heap.size (.slice F3 _ d3)).trans hw3 hlb)))
      clear hlb hw1 hw2 hw3 HN2 hbo hsc hbc he KF HXb
      go_wp2
      have HO : Hid (Only [w.heap.size, w.heap.size + 1] wc ((((wc.setCell ⟨w.heap.size + 1, 0, none⟩ (.int .i64 (c : Nat))).setCell ⟨w.heap.size + 1, 1, none⟩ (.slice Fc1 nc1 dc1)).setCell ⟨w.heap.size + 1, 2, none⟩ (.slice Fc2 nc2 dc2)).setCell ⟨w.heap.size + 1, 3, none⟩ (.slice Fc3 nc3 dc3))) := Lib.hid (((((Only.refl _ _).setCell (by simp) _).setCell (by simp) _).setCell (by simp) _).setCell (by simp) _)
      exact bodyPost_ret (v := .tuple #[.agg (l9C c (.slice Fc1 nc1 dc1) (.slice Fc2 nc2 dc2) (.slice Fc3 nc3 dc3)), .int .u64 (x : Nat)]) (by simp [results, Try.results87, go_sem, y0, y1, y2, y3]) rfl ⟨_, _, _, rfl, HBO.out.fin HO.out, HBO.out.st9 HO.out HSC.out, HNW.out⟩
    · have hgtI : ¬ (q : Int) < (k : Int) + 1 := by omega
      have hgtN : ¬ q < k + 1 := by omega
      obtain rfl : n3 = 0 := by omega
      clear hin hgt
      go_enter Try.func87, Try.ntmps87
      go_wp2_with fail
      refine KB.out.mono ?_
      rintro e w1 ⟨rfl, rfl⟩
      generalize hW0 : World.alloc _ (.cells z9 T9) = W0 at HX0 ⊢
      clear hW0 KB
      obtain ⟨⟨x0, x1, x2, x3⟩, xf0, xf1, xf2, xf3⟩ := c4_at HX0.out.bo.box
      have hbb := (head_row HX0.out.bo.box).lt
      have hx1 := HX0.out.set1 (HT.out _ HX0.out.bo.low)
      generalize hWa : W0.setCell ⟨w.heap.size, 1, none⟩ (.slice F1 k d1) = wa at hx1
      have HWa := Lib.hid hWa
      have HXa := Lib.hid hx1
      clear hWa hx1 HT
      have K2 := Lib.hid (rfront_walk HXa.out.st.g2 (by show l2.length ≤ _; omega) x)
      go_wp2_with fail
      rw [HWa.out]
      clear HWa
      refine K2.out.mono ?_
      rintro e vb ⟨ob, rfl, hb⟩
      obtain ⟨Fb, nb, db, rfl⟩ := hb.kv.form
      have hxb := HXa.out.step hb.low
      clear x0 x1 x2 x3 xf0 xf1 xf2 xf3 hbb
      obtain ⟨⟨x0, x1, x2, x3⟩, xf0, xf1, xf2, xf3⟩ := c4_at hxb.bo.box
      have hbb := (head_row hxb.bo.box).lt
      have hyb := hxb.set2 hb.kv
      have HN2 := Lib.hid (Nw.of_own (B := w.heap.size) (.slice F2 n2 d2) hb HXa.out.bo.low.size)
      generalize hWb : vb.setCell ⟨w.heap.size, 2, none⟩ (.slice Fb nb db) = wb at hyb
      have HWb := Lib.hid hWb
      have HXb := Lib.hid hyb
      clear hb hWb hxb hyb HXa K2 HX0
      have KF := Lib.hid (r9fall_walk HXb.out.st (show (fr x l2).length ≤ 100000000 from HFL.out) hc)
      go_wp2_with fail
      rw [HWb.out]
      clear HWb
      refine KF.out.mono ?_
      rintro e wc ⟨v1, v2, v3, he, hbc, hsc, hw1, hw2, hw3⟩
      obtain ⟨Fc1, nc1, dc1, rfl⟩ := hsc.form1
      obtain ⟨Fc2, nc2, dc2, rfl⟩ := hsc.form2
      obtain ⟨Fc3, nc3, dc3, rfl⟩ := hsc.form3
      have he' : e = .returned (.agg (l9C c (.slice Fc1 nc1 dc1) (.slice Fc2 nc2 dc2) (.slice Fc3 nc3 dc3))) := he
      subst he'
      have hbo := HXb.out.bo.step hbc
      obtain ⟨⟨y0, y1, y2, y3⟩, yf0, yf1, yf2, yf3⟩ := c4_at hbo.res
      have hrr := (head_row hbo.res).lt
      have HBO := Lib.hid hbo
      have HSC := Lib.hid hsc
      have hlb := HXb.out.bo.low.size
      have HNW := Lib.hid (And.intro ((Nw.take w.heap.size F1 d1 (Nat.le_succ k)).trans hw1 hlb) (And.intro (HN2.out.trans hw2 hlb) ((Nw.refl w.heap.size (.slice F3 _ d3)).trans hw3 hlb)))
      clear hlb hw1 hw2 hw3 HN2 hbo hsc hbc he KF HXb
      go_wp2
      have HO : Hid (Only [w.heap.size, w.heap.size + 1] wc ((((wc.setCell ⟨w.heap.size + 1, 0, none⟩ (.int .i64 (c : Nat))).setCell ⟨w.heap.size + 1, 1, none⟩ (.slice Fc1 nc1 dc1)).setCell ⟨w.heap.size + 1, 2, none⟩ (.slice Fc2 nc2 dc2)).setCell ⟨w.heap.size + 1, 3, none⟩ (.slice Fc3 nc3 dc3))) := Lib.hid (((((Only.refl _ _).setCell (by simp) _).setCell (by simp) _).setCell (by simp) _).setCell (by simp) _)
      exact bodyPost_ret (v := .tuple #[.agg (l9C c (.slice Fc1 nc1 dc1) (.slice Fc2 nc2 dc2) (.slice Fc3 nc3 dc3)), .int .u64 (x : Nat)]) (by simp [results, Try.results87, go_sem, y0, y1, y2, y3]) rfl ⟨_, _, _, rfl, HBO.out.fin HO.out, HBO.out.st9 HO.out HSC.out, HNW.out⟩
set_option maxHeartbeats 4000000 in
theorem r9reclaim_main (hs : St9 w s u1 u2 u3) (hl1 : s.inn.length ≤ 100000000) (hl2 : s.out.length ≤ 99999999) (hl3 : s.main.length ≤ 100000000) (hc : s.c ≤ 1048576) (hin : ¬ (kin9 s.c < s.inn.length ∨ s.main.length = 0)) {k : Nat} (hk : s.main.length = k + 1) : Calls Try.prog 87 #[.agg (l9C s.c u1 u2 u3)] w (P9k w ⟨s.c, s.inn, s.out, s.main.take k⟩ (s.main.getD k 0) u1 u2 u3) := by
  obtain ⟨F1, d1, rfl, hcap1, _⟩ := hs.g1.mem
  obtain ⟨F2, n2, d2, rfl⟩ := hs.form2
  obtain ⟨F3, d3, rfl, hcap3, _⟩ := hs.g3.mem
  have HX0 := Lib.hid (Bx9.start w T9 (by decide) hs)
  have hkin : kin9 s.c = max (s.c / 4) 1 := rfl
  generalize kin9 s.c = kn at *
  obtain ⟨q, hq⟩ : ∃ q, s.c / 4 = q := ⟨_, rfl⟩
  have e4 : ((s.c : Nat) : Int).tdiv 4 = (q : Int) := by rw [Int.tdiv_eq_ediv_of_nonneg (by omega)]; omega
  have hqI : (q : Int) ≤ 1048576 := by omega
  rw [hq] at hkin
  have HLA := Lib.hid (last_getD hk)
  have HT : Hid (∀ W, Below w.heap.size w W → KV W (.slice F3 k d3) (s.main.take k)) := Lib.hid (fun W hb => by
    obtain ⟨F', d', e, hk⟩ := (hs.g3.below hb).take k (by omega)
    injection e with e1 e2 e3
    subst e1 e3
    exact hk)
  have KB := Lib.hid (rback_walk HX0.out.st.g3 (by omega) hl3)
  rw [HLA.out] at KB
  rw [hk] at HX0 KB hl3 hcap3 hin ⊢
  generalize s.main.getD k 0 = x at *
  obtain ⟨c, l1, l2, l3⟩ := s
  simp only at *
  obtain ⟨n1, hn1⟩ : ∃ n, l1.length = n := ⟨_, rfl⟩
  rw [hn1] at HX0 hl1 hcap1 hin KB ⊢
  have hkc : k ≤ d3 := by omega
  have hkcI : (k : Int) ≤ (d3 : Int) := by omega
  have hkI : (k : Int) ≤ 100000000 := by omega
  have hkne : (((k : Int) + 1) == 0) = false := by rw [beq_eq_false_iff_ne]; omega
  clear hs hk hq hcap1 HLA hn1 hcap3 hl2
  by_cases hq1 : q < 1
  · have hqI1 : (q : Int) < 1 := by omega
    obtain rfl : kn = 1 := by omega
    clear hkin hq1
    have hgtI : ¬ 1 < (n1 : Int) := by omega
    have hgtN : ¬ 1 < n1 := by omega
    clear hin
    go_enter Try.func87, Try.ntmps87
    go_wp2_with fail
    refine KB.out.mono ?_
    rintro e w1 ⟨rfl, rfl⟩
    generalize hW0 : World.alloc _ (.cells z9 T9) = W0 at HX0 ⊢
    clear hW0 KB
    obtain ⟨⟨x0, x1, x2, x3⟩, xf0, xf1, xf2, xf3⟩ := c4_at HX0.out.bo.box
    obtain ⟨⟨y0, y1, y2, y3⟩, yf0, yf1, yf2, yf3⟩ := c4_at HX0.out.bo.res
    have hbb := (head_row HX0.out.bo.box).lt
    have hrr := (head_row HX0.out.bo.res).lt
    have HXa := Lib.hid (HX0.out.set3 (HT.out _ HX0.out.bo.low))
    clear HT
    go_wp2
    exact bodyPost_ret (v := .tuple #[.agg (l9C c (.slice F1 n1 d1) (.slice F2 n2 d2) (.slice F3 k d3)), .int .u64 (x : Nat)]) (by simp [results, Try.results87, go_sem, y0, y1, y2, y3]) rfl ⟨_, _, _, rfl, HXa.out.bo.fin HXa.out.only, HXa.out.bo.st9 HXa.out.only HXa.out.st, Nw.refl _ _, Nw.refl _ _, Nw.take _ _ _ (Nat.le_succ k)⟩
  · have hqI1 : (1 : Int) ≤ (q : Int) := by omega
    obtain rfl : q = kn := by omega
    clear hkin hq1
    have hgtI : ¬ (q : Int) < (n1 : Int) := by omega
    have hgtN : ¬ q < n1 := by omega
    clear hin
    go_enter Try.func87, Try.ntmps87
    go_wp2_with fail
    refine KB.out.mono ?_
    rintro e w1 ⟨rfl, rfl⟩
    generalize hW0 : World.alloc _ (.cells z9 T9) = W0 at HX0 ⊢
    clear hW0 KB
    obtain ⟨⟨x0, x1, x2, x3⟩, xf0, xf1, xf2, xf3⟩ := c4_at HX0.out.bo.box
    obtain ⟨⟨y0, y1, y2, y3⟩, yf0, yf1, yf2, yf3⟩ := c4_at HX0.out.bo.res
    have hbb := (head_row HX0.out.bo.box).lt
    have hrr := (head_row HX0.out.bo.res).lt
    have HXa := Lib.hid (HX0.out.set3 (HT.out _ HX0.out.bo.low))
    clear HT
    go_wp2
    exact bodyPost_ret (v := .tuple #[.agg (l9C c (.slice F1 n1 d1) (.slice F2 n2 d2) (.slice F3 k d3)), .int .u64 (x : Nat)]) (by simp [results, Try.results87, go_sem, y0, y1, y2, y3]) rfl ⟨_, _, _, rfl, HXa.out.bo.fin HXa.out.only, HXa.out.bo.st9 HXa.out.only HXa.out.st, Nw.refl _ _, Nw.refl _ _, Nw.take _ _ _ (Nat.le_succ k)⟩
end
end Go.Proofs.Ytiokejhplbadeaa
