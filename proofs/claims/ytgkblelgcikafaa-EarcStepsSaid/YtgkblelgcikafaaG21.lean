/- Words and walks: RcN. -/
import Derived.Test.YtgkblelgcikafaaG20
import Derived.Deep.CutRange
import Derived.Deep.DeepCutAuto
namespace Go.Proofs.Ytgkblelgcikafaa
open Go Go.RowKit Go.Deep
section
variable {w : World} {u1 u2 u3 u4 : Value} {s : L11}
theorem below_drew1 {B : Nat} {w0 w : World} (h : Below B w0 w) : Below B w0 w.drew := ⟨h.os, h.tape, h.output, h.size, h.block⟩
theorem mid11 {w1 : World} {T : TypeId} {b r : Nat} (h : Bx11 w w1 T b r s u1 u2 u3 u4) (e : Int) : Bo w (w1.setCell ⟨b, 1, none⟩ (.int .i64 e)).drew T b r #[.int .i64 (s.c : Nat), .int .i64 e, u1, u2, u3, u4] z11 ∧ St11 (w1.setCell ⟨b, 1, none⟩ (.int .i64 e)).drew s u1 u2 u3 u4 := by
  obtain ⟨F1, n1, d1, rfl⟩ := h.st.form1
  obtain ⟨F2, n2, d2, rfl⟩ := h.st.form2
  obtain ⟨F3, n3, d3, rfl⟩ := h.st.form3
  obtain ⟨F4, n4, d4, rfl⟩ := h.st.form4
  obtain ⟨h1, h2⟩ := h.bo.set 1 (.int .i64 e) rfl
  have hb := below_drew1 (Below.refl (w1.setCell ⟨b, 1, none⟩ (.int .i64 e)).heap.size (w1.setCell ⟨b, 1, none⟩ (.int .i64 e)))
  exact ⟨h1.step hb, (h.bo.st11 h2 h.st).below hb⟩
theorem mid11_set {w1 : World} {T : TypeId} {b r c pp p' : Nat} {e : Int} {l1 l2 l3 l4 : List Nat} (h : Bo w w1 T b r #[.int .i64 (c : Nat), .int .i64 e, u1, u2, u3, u4] z11) (hs : St11 w1 ⟨c, pp, l1, l2, l3, l4⟩ u1 u2 u3 u4) : Bx11 w (w1.setCell ⟨b, 1, none⟩ (.int .i64 (p' : Nat))) T b r ⟨c, p', l1, l2, l3, l4⟩ u1 u2 u3 u4 := by
  obtain ⟨F1, n1, d1, rfl⟩ := hs.form1
  obtain ⟨F2, n2, d2, rfl⟩ := hs.form2
  obtain ⟨F3, n3, d3, rfl⟩ := hs.form3
  obtain ⟨F4, n4, d4, rfl⟩ := hs.form4
  obtain ⟨h1, h2⟩ := h.set 1 (.int .i64 (p' : Nat)) rfl
  have hs2 := h.st11 h2 hs
  exact ⟨h1, ⟨hs2.g1, hs2.g2, hs2.g3, hs2.g4⟩⟩
set_option maxHeartbeats 1000000 in
theorem r11known_up_aux {c pp pz k : Nat} {l1 l2 l3 l4 out : List Nat} {t' : L11} (hs : St11 w ⟨c, pp, l1, l2, l3, l4⟩ u1 u2 u3 u4) (h0 : 0 < l3.length) (hl3 : l3.length ≤ 100000000) (hl4 : l4.length ≤ 100000000) (hc : c ≤ 1048576) (hp : pp ≤ c) (hpz : min (pp + max (l4.length / l3.length) 1) c = pz)
    (HR : ∀ W v1 v2 v3 v4, St11 W ⟨c, pz, l1, l2, wo k l3, l4⟩ v1 v2 v3 v4 → Calls Try.prog 77 #[.agg (l11C c pz v1 v2 v3 v4), .bool false] W (P11n W t' out v1 v2 v3 v4)) (htc : t'.c = c) (htp : t'.p = pz) (ht2 : t'.t2.length ≤ 100000000) :
    Calls Try.prog 54 #[.agg (l11C c pp u1 u2 u3 u4), .int .u64 (k : Nat), .bool false] w (P11o w (t'.hit k) out) := by
  obtain ⟨F1, n1, d1, rfl⟩ := hs.form1
  obtain ⟨F2, n2, d2, rfl⟩ := hs.form2
  obtain ⟨F3, d3, rfl, -⟩ := hs.g3.mem
  obtain ⟨F4, d4, rfl, -⟩ := hs.g4.mem
  have HX0 := Lib.hid (Bx11.start w T11 (by decide) hs)
  obtain ⟨q, hq⟩ : ∃ q, l4.length / l3.length = q := ⟨_, rfl⟩
  have hqle : q ≤ l4.length := by rw [← hq]; exact Nat.div_le_self _ _
  have hqI : ((l4.length : Nat) : Int).tdiv (l3.length : Nat) = (q : Int) := by rw [Int.tdiv_eq_ediv_of_nonneg (by omega), ← hq]; rfl
  have hqJ : ((l4.length : Nat) : Int) / ((l3.length : Nat) : Int) = (q : Int) := by rw [← hq]; rfl
  rw [hq] at hpz
  obtain ⟨mx, hmx⟩ : ∃ mx, max q 1 = mx := ⟨_, rfl⟩
  rw [hmx] at hpz
  have HL3 := Lib.hid hl3
  have HL4 := Lib.hid hl4
  obtain ⟨n3, hn3⟩ : ∃ n, l3.length = n := ⟨_, rfl⟩
  obtain ⟨n4, hn4⟩ : ∃ n, l4.length = n := ⟨_, rfl⟩
  rw [hn3, hn4] at HX0 ⊢
  rw [hn3] at hqI hqJ hl3 h0
  rw [hn4] at hqI hqJ hl4 hqle
  clear hn3 hn4 hq hs
  obtain ⟨e1, he1⟩ : ∃ e1 : Int, (pp : Int) + (mx : Int) = e1 := ⟨_, rfl⟩
  have hmI : (mx : Int) ≤ 200000000 := by omega
  have hm1 : (1 : Int) ≤ (mx : Int) := by omega
  have hpI : (pp : Int) ≤ 1048576 := by omega
  have hcI : (c : Int) ≤ 1048576 := by omega
  have hqI2 : (q : Int) ≤ 100000000 := by omega
  have HPZ := Lib.hid hpz
  have HE1 := Lib.hid he1
  have HR := Lib.hid HR
  have HT := Lib.hid (And.intro htc (And.intro htp ht2))
  have HC := Lib.hid hc
  have hpz2 := hpz
  clear hqle hpz htc htp ht2
  go_enter Try.func54, Try.ntmps54
  go_upto_region 4 with fail
  generalize World.alloc _ (.cells z11 T11) = W0 at HX0 ⊢
  obtain ⟨⟨x0, x1, x2, x3, x4, x5⟩, xf0, xf1, xf2, xf3, xf4, xf5⟩ := c6_at HX0.out.bo.box
  have hbb := (head_row HX0.out.bo.box).lt
  dsimp only at x0 x1
  go_cut [] (fun wx => wx = (W0.setCell ⟨w.heap.size, 1, none⟩ (.int .i64 e1)).drew)
  case first =>
    rcases (by omega : q = 0 ∨ q = 1 ∨ 2 ≤ q) with hq0 | hq0 | hq0
    · have hqv : (q : Int) < 1 := by omega
      obtain rfl : mx = 1 := by omega
      have hden : ¬ ((n3 : Nat) : Int) = 0 := by omega
      have hdenb : (((n3 : Nat) : Int) == 0) = false := by rw [beq_eq_false_iff_ne]; omega
      clear hmx HE1 h0
      go_region
      all_goals
        go_wp2_with fail
        go_meet
        first
          | rfl
          | (rw [← he1]; rfl)
          | (rw [← he1]; simp)
    · subst hq0
      obtain rfl : mx = 1 := by omega
      have hden : ¬ ((n3 : Nat) : Int) = 0 := by omega
      have hdenb : (((n3 : Nat) : Int) == 0) = false := by rw [beq_eq_false_iff_ne]; omega
      clear hmx HE1 h0
      go_region
      all_goals
        go_wp2_with fail
        go_meet
        first
          | rfl
          | (rw [← he1]; rfl)
          | (rw [← he1]; simp)
    · have hqv : (1 : Int) < (q : Int) := by omega
      obtain rfl : q = mx := by omega
      have hden : ¬ ((n3 : Nat) : Int) = 0 := by omega
      have hdenb : (((n3 : Nat) : Int) == 0) = false := by rw [beq_eq_false_iff_ne]; omega
      clear hmx HE1 h0
      go_region
      all_goals
        go_wp2_with fail
        go_meet
        first
          | rfl
          | (rw [← he1]; rfl)
          | (rw [← he1]; simp)
  case rest =>
    subst hcut
    clear hmx x0 x1 x2 x3 x4 x5 xf0 xf1 xf2 xf3 xf4 xf5 hbb
    have HM := Lib.hid (mid11 HX0.out e1)
    have hsp : (e1 ≤ (c : Int) ∧ e1 = (pz : Int)) ∨ ((c : Int) < e1 ∧ pz = c) := by omega
    clear he1
    generalize (W0.setCell ⟨w.heap.size, 1, none⟩ (.int .i64 e1)).drew = W1 at HM ⊢
    clear HX0
    obtain ⟨⟨x0, x1, x2, x3, x4, x5⟩, xf0, xf1, xf2, xf3, xf4, xf5⟩ := c6_at HM.out.1.box
    dsimp only at x0
    have hbb := (head_row HM.out.1.box).lt
    rcases hsp with ⟨hcmp, he⟩ | ⟨hcmp, he⟩
    · subst he
      have hcmpN : ¬ (c : Int) < (pz : Int) := by omega
      have HXz : Hid (Bx11 w W1 T11 w.heap.size (w.heap.size + 1) ⟨c, pz, l1, l2, l3, l4⟩ (.slice F1 n1 d1) (.slice F2 n2 d2) (.slice F3 n3 d3) (.slice F4 n4 d4)) := Lib.hid ⟨HM.out.1, ⟨HM.out.2.g1, HM.out.2.g2, HM.out.2.g3, HM.out.2.g4⟩⟩
      have KW := Lib.hid (rwithout_walk HXz.out.st.g3 HL3.out k)
      clear HM hpz2 HPZ HE1 hqI hqJ
      go_wp2_with fail
      refine KW.out.mono ?_
      rintro e va ⟨oa, rfl, ha⟩
      obtain ⟨Fa, na, da, rfl⟩ := ha.kv.form
      have hxa := HXz.out.step ha.low
      clear x0 x1 x2 x3 x4 x5 xf0 xf1 xf2 xf3 xf4 xf5 hbb
      obtain ⟨⟨x0, x1, x2, x3, x4, x5⟩, xf0, xf1, xf2, xf3, xf4, xf5⟩ := c6_at hxa.bo.box
      have hbb := (head_row hxa.bo.box).lt
      have hya := hxa.set4 ha.kv
      generalize hWa : va.setCell ⟨w.heap.size, 4, none⟩ (.slice Fa na da) = wa at hya
      have HWa := Lib.hid hWa
      have HXa := Lib.hid hya
      clear ha hWa hxa hya HXz KW
      have KR := Lib.hid (HR.out _ _ _ _ _ HXa.out.st)
      go_wp2_with fail
      rw [HWa.out]
      clear HWa
      refine KR.out.mono ?_
      rintro e wb ⟨q1, q2, q3, q4, ob, he, hbb2, hsb, hob, -⟩
      obtain ⟨Fp1, np1, dp1, rfl⟩ := hsb.form1
      obtain ⟨Fp2, np2, dp2, rfl⟩ := hsb.form2
      obtain ⟨Fp3, np3, dp3, rfl⟩ := hsb.form3
      obtain ⟨Fp4, np4, dp4, rfl⟩ := hsb.form4
      obtain ⟨htc, htp, ht2⟩ := HT.out
      have hxp := (HXa.out.step hbb2).alloc hsb
      have HOB := Lib.hid (hob.below (low_one wb (.cells (l11C t'.c t'.p (.slice Fp1 np1 dp1) (.slice Fp2 np2 dp2) (.slice Fp3 np3 dp3) (.slice Fp4 np4 dp4)) T11)))
      have hne : w.heap.size + 2 ≤ wb.heap.size := by have := (head_row (HXa.out.step hbb2).bo.res).lt; omega
      clear x0 x1 x2 x3 x4 x5 xf0 xf1 xf2 xf3 xf4 xf5 hbb HT
      clear hbb2 hsb hob KR HXa HR
      obtain ⟨tc, tp, ti, tj, tO, tm⟩ := t'
      dsimp only at htc htp ht2 hxp HOB he
      subst htc htp he
      have HXp := Lib.hid hxp
      clear hxp
      have KF := Lib.hid (rfront_walk HXp.out.st.g2 ht2 k)
      go_wp2_with fail
      refine KF.out.mono ?_
      rintro e vf ⟨of, rfl, hf⟩
      obtain ⟨Ff, nf, df, rfl⟩ := hf.kv.form
      have hxf := HXp.out.step hf.low
      obtain ⟨⟨x0, x1, x2, x3, x4, x5⟩, xf0, xf1, xf2, xf3, xf4, xf5⟩ := c6_at hxf.bo.box
      have hbb := (head_row hxf.bo.box).lt
      have hyf := hxf.set3 hf.kv
      have HOF := Lib.hid (hxf.kv (i := 3) (x := .slice Ff nf df) (HOB.out.below hf.low))
      obtain ⟨⟨y0, y1, y2, y3, y4, y5⟩, yf0, yf1, yf2, yf3, yf4, yf5⟩ := c6_at hxf.bo.res
      have hrr := (head_row hxf.bo.res).lt
      have HXf := Lib.hid hyf
      clear hf hxf hyf HXp KF HOB
      have HD := Lib.hid (HXf.out.doneo HOF.out)
      clear HXf HOF
      go_wp2
      exact bodyPost_ret (v := .tuple #[.agg (l11C _ _ (.slice Fp1 np1 dp1) (.slice Ff nf df) (.slice Fp3 np3 dp3) (.slice Fp4 np4 dp4)), ob]) (by simp [results, Try.results54, go_sem, y0, y1, y2, y3, y4, y5]) rfl HD.out
    · subst he
      have hcmpN : (pz : Int) < e1 := by omega
      have HXz : Hid (Bx11 w (W1.setCell ⟨w.heap.size, 1, none⟩ (.int .i64 (pz : Nat))) T11 w.heap.size (w.heap.size + 1) ⟨pz, pz, l1, l2, l3, l4⟩ (.slice F1 n1 d1) (.slice F2 n2 d2) (.slice F3 n3 d3) (.slice F4 n4 d4)) := Lib.hid (mid11_set HM.out.1 HM.out.2)
      have KW := Lib.hid (rwithout_walk HXz.out.st.g3 HL3.out k)
      clear HM hpz2 HPZ HE1 hqI hqJ
      go_wp2_with fail
      refine KW.out.mono ?_
      rintro e va ⟨oa, rfl, ha⟩
      obtain ⟨Fa, na, da, rfl⟩ := ha.kv.form
      have hxa := HXz.out.step ha.low
      clear x0 x1 x2 x3 x4 x5 xf0 xf1 xf2 xf3 xf4 xf5 hbb
      obtain ⟨⟨x0, x1, x2, x3, x4, x5⟩, xf0, xf1, xf2, xf3, xf4, xf5⟩ := c6_at hxa.bo.box
      have hbb := (head_row hxa.bo.box).lt
      have hya := hxa.set4 ha.kv
      generalize hWa : va.setCell ⟨w.heap.size, 4, none⟩ (.slice Fa na da) = wa at hya
      have HWa := Lib.hid hWa
      have HXa := Lib.hid hya
      clear ha hWa hxa hya HXz KW
      have KR := Lib.hid (HR.out _ _ _ _ _ HXa.out.st)
      go_wp2_with fail
      rw [HWa.out]
      clear HWa
      refine KR.out.mono ?_
      rintro e wb ⟨q1, q2, q3, q4, ob, he, hbb2, hsb, hob, -⟩
      obtain ⟨Fp1, np1, dp1, rfl⟩ := hsb.form1
      obtain ⟨Fp2, np2, dp2, rfl⟩ := hsb.form2
      obtain ⟨Fp3, np3, dp3, rfl⟩ := hsb.form3
      obtain ⟨Fp4, np4, dp4, rfl⟩ := hsb.form4
      obtain ⟨htc, htp, ht2⟩ := HT.out
      have hxp := (HXa.out.step hbb2).alloc hsb
      have HOB := Lib.hid (hob.below (low_one wb (.cells (l11C t'.c t'.p (.slice Fp1 np1 dp1) (.slice Fp2 np2 dp2) (.slice Fp3 np3 dp3) (.slice Fp4 np4 dp4)) T11)))
      have hne : w.heap.size + 2 ≤ wb.heap.size := by have := (head_row (HXa.out.step hbb2).bo.res).lt; omega
      clear x0 x1 x2 x3 x4 x5 xf0 xf1 xf2 xf3 xf4 xf5 hbb HT
      clear hbb2 hsb hob KR HXa HR
      obtain ⟨tc, tp, ti, tj, tO, tm⟩ := t'
      dsimp only at htc htp ht2 hxp HOB he
      subst htc htp he
      have HXp := Lib.hid hxp
      clear hxp
      have KF := Lib.hid (rfront_walk HXp.out.st.g2 ht2 k)
      go_wp2_with fail
      refine KF.out.mono ?_
      rintro e vf ⟨of, rfl, hf⟩
      obtain ⟨Ff, nf, df, rfl⟩ := hf.kv.form
      have hxf := HXp.out.step hf.low
      obtain ⟨⟨x0, x1, x2, x3, x4, x5⟩, xf0, xf1, xf2, xf3, xf4, xf5⟩ := c6_at hxf.bo.box
      have hbb := (head_row hxf.bo.box).lt
      have hyf := hxf.set3 hf.kv
      have HOF := Lib.hid (hxf.kv (i := 3) (x := .slice Ff nf df) (HOB.out.below hf.low))
      obtain ⟨⟨y0, y1, y2, y3, y4, y5⟩, yf0, yf1, yf2, yf3, yf4, yf5⟩ := c6_at hxf.bo.res
      have hrr := (head_row hxf.bo.res).lt
      have HXf := Lib.hid hyf
      clear hf hxf hyf HXp KF HOB
      have HD := Lib.hid (HXf.out.doneo HOF.out)
      clear HXf HOF
      go_wp2
      exact bodyPost_ret (v := .tuple #[.agg (l11C _ _ (.slice Fp1 np1 dp1) (.slice Ff nf df) (.slice Fp3 np3 dp3) (.slice Fp4 np4 dp4)), ob]) (by simp [results, Try.results54, go_sem, y0, y1, y2, y3, y4, y5]) rfl HD.out
set_option maxHeartbeats 1000000 in
theorem r11known_dn_aux {c pp pz k : Nat} {l1 l2 l3 l4 out : List Nat} {t' : L11} (hs : St11 w ⟨c, pp, l1, l2, l3, l4⟩ u1 u2 u3 u4) (h0 : 0 < l4.length) (hl3 : l3.length ≤ 100000000) (hl4 : l4.length ≤ 100000000) (hc : c ≤ 1048576) (hp : pp ≤ c) (hpz : pp - max (l3.length / l4.length) 1 = pz)
    (HR : ∀ W v1 v2 v3 v4, St11 W ⟨c, pz, l1, l2, l3, wo k l4⟩ v1 v2 v3 v4 → Calls Try.prog 77 #[.agg (l11C c pz v1 v2 v3 v4), .bool true] W (P11n W t' out v1 v2 v3 v4)) (htc : t'.c = c) (htp : t'.p = pz) (ht2 : t'.t2.length ≤ 100000000) :
    Calls Try.prog 54 #[.agg (l11C c pp u1 u2 u3 u4), .int .u64 (k : Nat), .bool true] w (P11o w (t'.hit k) out) := by
  obtain ⟨F1, n1, d1, rfl⟩ := hs.form1
  obtain ⟨F2, n2, d2, rfl⟩ := hs.form2
  obtain ⟨F3, d3, rfl, -⟩ := hs.g3.mem
  obtain ⟨F4, d4, rfl, -⟩ := hs.g4.mem
  have HX0 := Lib.hid (Bx11.start w T11 (by decide) hs)
  obtain ⟨q, hq⟩ : ∃ q, l3.length / l4.length = q := ⟨_, rfl⟩
  have hqle : q ≤ l3.length := by rw [← hq]; exact Nat.div_le_self _ _
  have hqI : ((l3.length : Nat) : Int).tdiv (l4.length : Nat) = (q : Int) := by rw [Int.tdiv_eq_ediv_of_nonneg (by omega), ← hq]; rfl
  have hqJ : ((l3.length : Nat) : Int) / ((l4.length : Nat) : Int) = (q : Int) := by rw [← hq]; rfl
  rw [hq] at hpz
  obtain ⟨mx, hmx⟩ : ∃ mx, max q 1 = mx := ⟨_, rfl⟩
  rw [hmx] at hpz
  have HL3 := Lib.hid hl3
  have HL4 := Lib.hid hl4
  obtain ⟨n3, hn3⟩ : ∃ n, l3.length = n := ⟨_, rfl⟩
  obtain ⟨n4, hn4⟩ : ∃ n, l4.length = n := ⟨_, rfl⟩
  rw [hn3, hn4] at HX0 ⊢
  rw [hn3] at hqI hqJ hl3 hqle
  rw [hn4] at hqI hqJ hl4 h0
  clear hn3 hn4 hq hs
  obtain ⟨e1, he1⟩ : ∃ e1 : Int, (pp : Int) - (mx : Int) = e1 := ⟨_, rfl⟩
  have hmI : (mx : Int) ≤ 200000000 := by omega
  have hm1 : (1 : Int) ≤ (mx : Int) := by omega
  have hpI : (pp : Int) ≤ 1048576 := by omega
  have hcI : (c : Int) ≤ 1048576 := by omega
  have hqI2 : (q : Int) ≤ 100000000 := by omega
  have HPZ := Lib.hid hpz
  have HE1 := Lib.hid he1
  have HR := Lib.hid HR
  have HT := Lib.hid (And.intro htc (And.intro htp ht2))
  have HC := Lib.hid hc
  have hpz2 := hpz
  clear hqle hpz htc htp ht2
  go_enter Try.func54, Try.ntmps54
  go_upto_region 4 with fail
  generalize World.alloc _ (.cells z11 T11) = W0 at HX0 ⊢
  obtain ⟨⟨x0, x1, x2, x3, x4, x5⟩, xf0, xf1, xf2, xf3, xf4, xf5⟩ := c6_at HX0.out.bo.box
  have hbb := (head_row HX0.out.bo.box).lt
  dsimp only at x0 x1
  go_cut [] (fun wx => wx = (W0.setCell ⟨w.heap.size, 1, none⟩ (.int .i64 e1)).drew)
  case first =>
    rcases (by omega : q = 0 ∨ q = 1 ∨ 2 ≤ q) with hq0 | hq0 | hq0
    · have hqv : (q : Int) < 1 := by omega
      obtain rfl : mx = 1 := by omega
      have hden : ¬ ((n4 : Nat) : Int) = 0 := by omega
      have hdenb : (((n4 : Nat) : Int) == 0) = false := by rw [beq_eq_false_iff_ne]; omega
      clear hmx HE1 h0
      go_region
      all_goals
        go_wp2_with fail
        go_meet
        first
          | rfl
          | (rw [← he1]; rfl)
          | (rw [← he1]; simp)
    · subst hq0
      obtain rfl : mx = 1 := by omega
      have hden : ¬ ((n4 : Nat) : Int) = 0 := by omega
      have hdenb : (((n4 : Nat) : Int) == 0) = false := by rw [beq_eq_false_iff_ne]; omega
      clear hmx HE1 h0
      go_region
      all_goals
        go_wp2_with fail
        go_meet
        first
          | rfl
          | (rw [← he1]; rfl)
          | (rw [← he1]; simp)
    · have hqv : (1 : Int) < (q : Int) := by omega
      obtain rfl : q = mx := by omega
      have hden : ¬ ((n4 : Nat) : Int) = 0 := by omega
      have hdenb : (((n4 : Nat) : Int) == 0) = false := by rw [beq_eq_false_iff_ne]; omega
      clear hmx HE1 h0
      go_region
      all_goals
        go_wp2_with fail
        go_meet
        first
          | rfl
          | (rw [← he1]; rfl)
          | (rw [← he1]; simp)
  case rest =>
    subst hcut
    clear hmx x0 x1 x2 x3 x4 x5 xf0 xf1 xf2 xf3 xf4 xf5 hbb
    have HM := Lib.hid (mid11 HX0.out e1)
    have hsp : (0 ≤ e1 ∧ e1 = (pz : Int)) ∨ (e1 < 0 ∧ pz = 0) := by omega
    clear he1
    generalize (W0.setCell ⟨w.heap.size, 1, none⟩ (.int .i64 e1)).drew = W1 at HM ⊢
    clear HX0
    obtain ⟨⟨x0, x1, x2, x3, x4, x5⟩, xf0, xf1, xf2, xf3, xf4, xf5⟩ := c6_at HM.out.1.box
    dsimp only at x0
    have hbb := (head_row HM.out.1.box).lt
    rcases hsp with ⟨hcmp, he⟩ | ⟨hcmp, he⟩
    · subst he
      have hcmpN : ¬ (pz : Int) < 0 := by omega
      have HXz : Hid (Bx11 w W1 T11 w.heap.size (w.heap.size + 1) ⟨c, pz, l1, l2, l3, l4⟩ (.slice F1 n1 d1) (.slice F2 n2 d2) (.slice F3 n3 d3) (.slice F4 n4 d4)) := Lib.hid ⟨HM.out.1, ⟨HM.out.2.g1, HM.out.2.g2, HM.out.2.g3, HM.out.2.g4⟩⟩
      have KW := Lib.hid (rwithout_walk HXz.out.st.g4 HL4.out k)
      clear HM hpz2 HPZ HE1 hqI hqJ
      go_wp2_with fail
      refine KW.out.mono ?_
      rintro e va ⟨oa, rfl, ha⟩
      obtain ⟨Fa, na, da, rfl⟩ := ha.kv.form
      have hxa := HXz.out.step ha.low
      clear x0 x1 x2 x3 x4 x5 xf0 xf1 xf2 xf3 xf4 xf5 hbb
      obtain ⟨⟨x0, x1, x2, x3, x4, x5⟩, xf0, xf1, xf2, xf3, xf4, xf5⟩ := c6_at hxa.bo.box
      have hbb := (head_row hxa.bo.box).lt
      have hya := hxa.set5 ha.kv
      generalize hWa : va.setCell ⟨w.heap.size, 5, none⟩ (.slice Fa na da) = wa at hya
      have HWa := Lib.hid hWa
      have HXa := Lib.hid hya
      clear ha hWa hxa hya HXz KW
      have KR := Lib.hid (HR.out _ _ _ _ _ HXa.out.st)
      go_wp2_with fail
      rw [HWa.out]
      clear HWa
      refine KR.out.mono ?_
      rintro e wb ⟨q1, q2, q3, q4, ob, he, hbb2, hsb, hob, -⟩
      obtain ⟨Fp1, np1, dp1, rfl⟩ := hsb.form1
      obtain ⟨Fp2, np2, dp2, rfl⟩ := hsb.form2
      obtain ⟨Fp3, np3, dp3, rfl⟩ := hsb.form3
      obtain ⟨Fp4, np4, dp4, rfl⟩ := hsb.form4
      obtain ⟨htc, htp, ht2⟩ := HT.out
      have hxp := (HXa.out.step hbb2).alloc hsb
      have HOB := Lib.hid (hob.below (low_one wb (.cells (l11C t'.c t'.p (.slice Fp1 np1 dp1) (.slice Fp2 np2 dp2) (.slice Fp3 np3 dp3) (.slice Fp4 np4 dp4)) T11)))
      have hne : w.heap.size + 2 ≤ wb.heap.size := by have := (head_row (HXa.out.step hbb2).bo.res).lt; omega
      clear x0 x1 x2 x3 x4 x5 xf0 xf1 xf2 xf3 xf4 xf5 hbb HT
      clear hbb2 hsb hob KR HXa HR
      obtain ⟨tc, tp, ti, tj, tO, tm⟩ := t'
      dsimp only at htc htp ht2 hxp HOB he
      subst htc htp he
      have HXp := Lib.hid hxp
      clear hxp
      have KF := Lib.hid (rfront_walk HXp.out.st.g2 ht2 k)
      go_wp2_with fail
      refine KF.out.mono ?_
      rintro e vf ⟨of, rfl, hf⟩
      obtain ⟨Ff, nf, df, rfl⟩ := hf.kv.form
      have hxf := HXp.out.step hf.low
      obtain ⟨⟨x0, x1, x2, x3, x4, x5⟩, xf0, xf1, xf2, xf3, xf4, xf5⟩ := c6_at hxf.bo.box
      have hbb := (head_row hxf.bo.box).lt
      have hyf := hxf.set3 hf.kv
      have HOF := Lib.hid (hxf.kv (i := 3) (x := .slice Ff nf df) (HOB.out.below hf.low))
      obtain ⟨⟨y0, y1, y2, y3, y4, y5⟩, yf0, yf1, yf2, yf3, yf4, yf5⟩ := c6_at hxf.bo.res
      have hrr := (head_row hxf.bo.res).lt
      have HXf := Lib.hid hyf
      clear hf hxf hyf HXp KF HOB
      have HD := Lib.hid (HXf.out.doneo HOF.out)
      clear HXf HOF
      go_wp2
      exact bodyPost_ret (v := .tuple #[.agg (l11C _ _ (.slice Fp1 np1 dp1) (.slice Ff nf df) (.slice Fp3 np3 dp3) (.slice Fp4 np4 dp4)), ob]) (by simp [results, Try.results54, go_sem, y0, y1, y2, y3, y4, y5]) rfl HD.out
    · subst he
      have hcmpN : e1 < 0 := by omega
      have HXz : Hid (Bx11 w (W1.setCell ⟨w.heap.size, 1, none⟩ (.int .i64 (0 : Nat))) T11 w.heap.size (w.heap.size + 1) ⟨c, 0, l1, l2, l3, l4⟩ (.slice F1 n1 d1) (.slice F2 n2 d2) (.slice F3 n3 d3) (.slice F4 n4 d4)) := Lib.hid (mid11_set HM.out.1 HM.out.2)
      have KW := Lib.hid (rwithout_walk HXz.out.st.g4 HL4.out k)
      clear HM hpz2 HPZ HE1 hqI hqJ
      go_wp2_with fail
      refine KW.out.mono ?_
      rintro e va ⟨oa, rfl, ha⟩
      obtain ⟨Fa, na, da, rfl⟩ := ha.kv.form
      have hxa := HXz.out.step ha.low
      clear x0 x1 x2 x3 x4 x5 xf0 xf1 xf2 xf3 xf4 xf5 hbb
      obtain ⟨⟨x0, x1, x2, x3, x4, x5⟩, xf0, xf1, xf2, xf3, xf4, xf5⟩ := c6_at hxa.bo.box
      have hbb := (head_row hxa.bo.box).lt
      have hya := hxa.set5 ha.kv
      generalize hWa : va.setCell ⟨w.heap.size, 5, none⟩ (.slice Fa na da) = wa at hya
      have HWa := Lib.hid hWa
      have HXa := Lib.hid hya
      clear ha hWa hxa hya HXz KW
      have KR := Lib.hid (HR.out _ _ _ _ _ HXa.out.st)
      go_wp2_with fail
      rw [HWa.out]
      clear HWa
      refine KR.out.mono ?_
      rintro e wb ⟨q1, q2, q3, q4, ob, he, hbb2, hsb, hob, -⟩
      obtain ⟨Fp1, np1, dp1, rfl⟩ := hsb.form1
      obtain ⟨Fp2, np2, dp2, rfl⟩ := hsb.form2
      obtain ⟨Fp3, np3, dp3, rfl⟩ := hsb.form3
      obtain ⟨Fp4, np4, dp4, rfl⟩ := hsb.form4
      obtain ⟨htc, htp, ht2⟩ := HT.out
      have hxp := (HXa.out.step hbb2).alloc hsb
      have HOB := Lib.hid (hob.below (low_one wb (.cells (l11C t'.c t'.p (.slice Fp1 np1 dp1) (.slice Fp2 np2 dp2) (.slice Fp3 np3 dp3) (.slice Fp4 np4 dp4)) T11)))
      have hne : w.heap.size + 2 ≤ wb.heap.size := by have := (head_row (HXa.out.step hbb2).bo.res).lt; omega
      clear x0 x1 x2 x3 x4 x5 xf0 xf1 xf2 xf3 xf4 xf5 hbb HT
      clear hbb2 hsb hob KR HXa HR
      obtain ⟨tc, tp, ti, tj, tO, tm⟩ := t'
      dsimp only at htc htp ht2 hxp HOB he
      subst htc htp he
      have HXp := Lib.hid hxp
      clear hxp
      have KF := Lib.hid (rfront_walk HXp.out.st.g2 ht2 k)
      go_wp2_with fail
      refine KF.out.mono ?_
      rintro e vf ⟨of, rfl, hf⟩
      obtain ⟨Ff, nf, df, rfl⟩ := hf.kv.form
      have hxf := HXp.out.step hf.low
      obtain ⟨⟨x0, x1, x2, x3, x4, x5⟩, xf0, xf1, xf2, xf3, xf4, xf5⟩ := c6_at hxf.bo.box
      have hbb := (head_row hxf.bo.box).lt
      have hyf := hxf.set3 hf.kv
      have HOF := Lib.hid (hxf.kv (i := 3) (x := .slice Ff nf df) (HOB.out.below hf.low))
      obtain ⟨⟨y0, y1, y2, y3, y4, y5⟩, yf0, yf1, yf2, yf3, yf4, yf5⟩ := c6_at hxf.bo.res
      have hrr := (head_row hxf.bo.res).lt
      have HXf := Lib.hid hyf
      clear hf hxf hyf HXp KF HOB
      have HD := Lib.hid (HXf.out.doneo HOF.out)
      clear HXf HOF
      go_wp2
      exact bodyPost_ret (v := .tuple #[.agg (l11C _ _ (.slice Fp1 np1 dp1) (.slice Ff nf df) (.slice Fp3 np3 dp3) (.slice Fp4 np4 dp4)), ob]) (by simp [results, Try.results54, go_sem, y0, y1, y2, y3, y4, y5]) rfl HD.out
theorem r11known_up (hs : St11 w s u1 u2 u3 u4) (ok : s.Ok) (k : Nat) (hk : k ∈ s.b1) : Calls Try.prog 54 #[.agg (l11C s.c s.p u1 u2 u3 u4), .int .u64 (k : Nat), .bool false] w (P11o w (((s.up k).cut (s.c - 1) false).hit k) ((s.up k).cutOut (s.c - 1) false)) := by
  have hok := (L11.up_ok ok hk).1
  have h1 := hok.cap
  have h2 := hok.pc
  have h3 := hok.len
  have h4 := hok.one
  have h5 := hok.gone
  have h6 := hok.pos
  obtain ⟨e1, e2⟩ := L11.rep_cut hok.fine hok.len hok.pos false
  have ec : (s.up k).c = s.c := rfl
  rw [ec] at e1 e2
  refine r11known_up_aux (pz := (s.up k).p) hs (List.length_pos_of_mem hk) ok.len_b1 ok.len_b2 ok.cap ok.pc rfl (fun W v1 v2 v3 v4 h => ?_) rfl rfl ?_
  · have h := r11replace_walk false (s := s.up k) h (by omega) (by omega) hok.pos (by omega) (by omega) (by omega) (by omega)
    rw [e1, e2] at h
    exact h
  · have h7 := ((s.up k).cut_lens (s.c - 1) false).2.1
    have h8 := (s.up k).lm_le (s.c - 1) false
    omega
theorem r11known_dn (hs : St11 w s u1 u2 u3 u4) (ok : s.Ok) (k : Nat) (hk : k ∈ s.b2) : Calls Try.prog 54 #[.agg (l11C s.c s.p u1 u2 u3 u4), .int .u64 (k : Nat), .bool true] w (P11o w (((s.dn k).cut (s.c - 1) true).hit k) ((s.dn k).cutOut (s.c - 1) true)) := by
  have hok := (L11.dn_ok ok hk).1
  have h1 := hok.cap
  have h2 := hok.pc
  have h3 := hok.len
  have h4 := hok.one
  have h5 := hok.gone
  have h6 := hok.pos
  obtain ⟨e1, e2⟩ := L11.rep_cut hok.fine hok.len hok.pos true
  have ec : (s.dn k).c = s.c := rfl
  rw [ec] at e1 e2
  refine r11known_dn_aux (pz := (s.dn k).p) hs (List.length_pos_of_mem hk) ok.len_b1 ok.len_b2 ok.cap ok.pc rfl (fun W v1 v2 v3 v4 h => ?_) rfl rfl ?_
  · have h := r11replace_walk true (s := s.dn k) h (by omega) (by omega) hok.pos (by omega) (by omega) (by omega) (by omega)
    rw [e1, e2] at h
    exact h
  · have h7 := ((s.dn k).cut_lens (s.c - 1) true).2.1
    have h8 := (s.dn k).lm_le (s.c - 1) true
    omega
end
end Go.Proofs.Ytgkblelgcikafaa
