/- Adaptive replacement, the document's own: Admit. -/
import Derived.Test.YtemgbiohfgcphaaRcF
namespace Go.Proofs.Ytemgbiohfgcphaa
open Go Go.RowKit Go.Deep

section
variable {w : World} {u1 u2 u3 u4 : Value} {s : L11}
set_option maxHeartbeats 2000000 in
theorem r11admit_walk (hs : St11 w s u1 u2 u3 u4) (ok : s.Ok) (k : Nat) (_ : k < 18446744073709551616) : Calls Try.prog 35 #[.agg (l11C s.c s.p u1 u2 u3 u4), .int .u64 (k : Nat)] w (P11o w (s.adm k) (s.admitOut k)) := by
  obtain ⟨F1, n1, d1, rfl⟩ := hs.form1
  obtain ⟨F2, n2, d2, rfl⟩ := hs.form2
  obtain ⟨F3, n3, d3, rfl⟩ := hs.form3
  obtain ⟨F4, n4, d4, rfl⟩ := hs.form4
  have HX0 := Lib.hid (Bx11.start w T11 (by decide) hs)
  have KK := Lib.hid (r11keys_walk HX0.out.st ok)
  have HLK := Lib.hid ok.keysLen
  have HOK := Lib.hid ok
  have hl1 := ok.len_b1
  have hl2 := ok.len_b2
  unfold L11.adm L11.admitOut
  have HRM := Lib.hid (And.intro ok.room.c (And.intro ok.room.p ok.room.ok.len_t1))
  clear ok hs
  generalize hW0 : World.alloc _ (.cells z11 T11) = W0 at HX0 KK
  have HW0 := Lib.hid hW0
  clear hW0
  by_cases hin : k ∈ s.keys
  · rw [if_pos hin, if_pos hin]
    go_enter Try.func35, Try.ntmps35
    go_wp2_with fail
    rw [HW0.out]
    clear HW0
    refine KK.out.mono ?_
    rintro e w1 ⟨v1, rfl, hb1, hk1⟩
    have KH := Lib.hid (rhas_walk hk1 HLK.out k)
    have HX1 := Lib.hid (HX0.out.step hb1)
    clear hb1 hk1 KK HX0 HLK
    rw [decide_eq_true hin] at KH
    clear hin
    go_wp2_with fail
    refine KH.out.mono ?_
    rintro e w2 ⟨rfl, rfl⟩
    clear KH
    obtain ⟨⟨x0, x1, x2, x3, x4, x5⟩, xf0, xf1, xf2, xf3, xf4, xf5⟩ := c6_at HX1.out.bo.box
    have hbb := (head_row HX1.out.bo.box).lt
    obtain ⟨⟨y0, y1, y2, y3, y4, y5⟩, yf0, yf1, yf2, yf3, yf4, yf5⟩ := c6_at HX1.out.bo.res
    have hrr := (head_row HX1.out.bo.res).lt
    clear HOK HRM
    go_wp2
    exact bodyPost_ret (v := .tuple #[.agg (l11C s.c s.p (.slice F1 n1 d1) (.slice F2 n2 d2) (.slice F3 n3 d3) (.slice F4 n4 d4)), .slice none 0 0]) (by simp [results, Try.results35, go_sem, y0, y1, y2, y3, y4, y5]) rfl (HX1.out.doneo (KV.nil _))
  · by_cases h1 : k ∈ s.b1
    · rw [if_neg hin, if_neg hin]
      rw [if_pos h1, if_pos h1]
      clear HRM
      obtain ⟨R, hR⟩ : ∃ R, ((s.up k).cut (s.c - 1) false).hit k = R := ⟨_, rfl⟩
      obtain ⟨O, hO⟩ : ∃ O, (s.up k).cutOut (s.c - 1) false = O := ⟨_, rfl⟩
      have hRc : R.c = s.c := by rw [← hR]; rfl
      obtain ⟨rp, hrp⟩ : ∃ rp, R.p = rp := ⟨_, rfl⟩
      rw [hR, hO]
      have HRE := Lib.hid (And.intro hR hO)
      have HRC := Lib.hid (And.intro hRc hrp)
      clear hR hO hRc hrp
      go_enter Try.func35, Try.ntmps35
      go_wp2_with fail
      rw [HW0.out]
      clear HW0
      refine KK.out.mono ?_
      rintro e w1 ⟨v1, rfl, hb1, hk1⟩
      have KH := Lib.hid (rhas_walk hk1 HLK.out k)
      have HX1 := Lib.hid (HX0.out.step hb1)
      clear hb1 hk1 KK HX0 HLK
      rw [decide_eq_false hin] at KH
      clear hin
      go_wp2_with fail
      refine KH.out.mono ?_
      rintro e w2 ⟨rfl, rfl⟩
      clear KH
      obtain ⟨⟨x0, x1, x2, x3, x4, x5⟩, xf0, xf1, xf2, xf3, xf4, xf5⟩ := c6_at HX1.out.bo.box
      have hbb := (head_row HX1.out.bo.box).lt
      have KH1 := Lib.hid (rhas_walk HX1.out.st.g3 hl1 k)
      rw [decide_eq_true h1] at KH1
      go_wp2_with fail
      refine KH1.out.mono ?_
      rintro e w21 ⟨rfl, rfl⟩
      clear KH1
      have KN := Lib.hid (r11known_up HX1.out.st HOK.out k h1)
      rw [HRE.out.1, HRE.out.2] at KN
      obtain ⟨hRc, hrp⟩ := HRC.out
      clear HOK h1 HRE HRC
      go_wp2_with fail
      refine KN.out.mono ?_
      rintro e wc ⟨v1, v2, v3, v4, o, he, hbc, hsc, hoc⟩
      obtain ⟨Fc1, nc1, dc1, rfl⟩ := hsc.form1
      obtain ⟨Fc2, nc2, dc2, rfl⟩ := hsc.form2
      obtain ⟨Fc3, nc3, dc3, rfl⟩ := hsc.form3
      obtain ⟨Fc4, nc4, dc4, rfl⟩ := hsc.form4
      rw [hRc, hrp] at he
      subst he
      have hbo := HX1.out.bo.step hbc
      clear x0 x1 x2 x3 x4 x5 xf0 xf1 xf2 xf3 xf4 xf5 hbb
      obtain ⟨⟨y0, y1, y2, y3, y4, y5⟩, yf0, yf1, yf2, yf3, yf4, yf5⟩ := c6_at hbo.res
      have hrr := (head_row hbo.res).lt
      have HBO := Lib.hid hbo
      have HSC := Lib.hid (And.intro hsc hoc)
      have HEC := Lib.hid (And.intro hRc hrp)
      clear hbo hsc hoc hbc KN HX1 hRc hrp
      go_wp2
      have HO : Hid (Only [w.heap.size, w.heap.size + 1] wc ((((((wc.setCell ⟨w.heap.size + 1, 0, none⟩ (.int .i64 (s.c : Nat))).setCell ⟨w.heap.size + 1, 1, none⟩ (.int .i64 (rp : Nat))).setCell ⟨w.heap.size + 1, 2, none⟩ (.slice Fc1 nc1 dc1)).setCell ⟨w.heap.size + 1, 3, none⟩ (.slice Fc2 nc2 dc2)).setCell ⟨w.heap.size + 1, 4, none⟩ (.slice Fc3 nc3 dc3)).setCell ⟨w.heap.size + 1, 5, none⟩ (.slice Fc4 nc4 dc4))) := Lib.hid (((((((Only.refl _ _).setCell (by simp) _).setCell (by simp) _).setCell (by simp) _).setCell (by simp) _).setCell (by simp) _).setCell (by simp) _)
      exact bodyPost_ret (v := .tuple #[.agg (l11C s.c rp (.slice Fc1 nc1 dc1) (.slice Fc2 nc2 dc2) (.slice Fc3 nc3 dc3) (.slice Fc4 nc4 dc4)), o]) (by simp [results, Try.results35, go_sem, y0, y1, y2, y3, y4, y5]) rfl ⟨_, _, _, _, _, by rw [HEC.out.1, HEC.out.2], HBO.out.fin HO.out, HBO.out.st11 HO.out HSC.out.1, HBO.out.kv HO.out HSC.out.2⟩
    · by_cases h2 : k ∈ s.b2
      · rw [if_neg hin, if_neg hin]
        rw [if_neg h1, if_neg h1, if_pos h2, if_pos h2]
        clear HRM
        obtain ⟨R, hR⟩ : ∃ R, ((s.dn k).cut (s.c - 1) true).hit k = R := ⟨_, rfl⟩
        obtain ⟨O, hO⟩ : ∃ O, (s.dn k).cutOut (s.c - 1) true = O := ⟨_, rfl⟩
        have hRc : R.c = s.c := by rw [← hR]; rfl
        obtain ⟨rp, hrp⟩ : ∃ rp, R.p = rp := ⟨_, rfl⟩
        rw [hR, hO]
        have HRE := Lib.hid (And.intro hR hO)
        have HRC := Lib.hid (And.intro hRc hrp)
        clear hR hO hRc hrp
        go_enter Try.func35, Try.ntmps35
        go_wp2_with fail
        rw [HW0.out]
        clear HW0
        refine KK.out.mono ?_
        rintro e w1 ⟨v1, rfl, hb1, hk1⟩
        have KH := Lib.hid (rhas_walk hk1 HLK.out k)
        have HX1 := Lib.hid (HX0.out.step hb1)
        clear hb1 hk1 KK HX0 HLK
        rw [decide_eq_false hin] at KH
        clear hin
        go_wp2_with fail
        refine KH.out.mono ?_
        rintro e w2 ⟨rfl, rfl⟩
        clear KH
        obtain ⟨⟨x0, x1, x2, x3, x4, x5⟩, xf0, xf1, xf2, xf3, xf4, xf5⟩ := c6_at HX1.out.bo.box
        have hbb := (head_row HX1.out.bo.box).lt
        have KH1 := Lib.hid (rhas_walk HX1.out.st.g3 hl1 k)
        rw [decide_eq_false h1] at KH1
        go_wp2_with fail
        refine KH1.out.mono ?_
        rintro e w21 ⟨rfl, rfl⟩
        clear KH1
        have KH2 := Lib.hid (rhas_walk HX1.out.st.g4 hl2 k)
        rw [decide_eq_true h2] at KH2
        go_wp2_with fail
        refine KH2.out.mono ?_
        rintro e w22 ⟨rfl, rfl⟩
        clear KH2
        have KN := Lib.hid (r11known_dn HX1.out.st HOK.out k h2)
        rw [HRE.out.1, HRE.out.2] at KN
        obtain ⟨hRc, hrp⟩ := HRC.out
        clear HOK h1 h2 HRE HRC
        go_wp2_with fail
        refine KN.out.mono ?_
        rintro e wc ⟨v1, v2, v3, v4, o, he, hbc, hsc, hoc⟩
        obtain ⟨Fc1, nc1, dc1, rfl⟩ := hsc.form1
        obtain ⟨Fc2, nc2, dc2, rfl⟩ := hsc.form2
        obtain ⟨Fc3, nc3, dc3, rfl⟩ := hsc.form3
        obtain ⟨Fc4, nc4, dc4, rfl⟩ := hsc.form4
        rw [hRc, hrp] at he
        subst he
        have hbo := HX1.out.bo.step hbc
        clear x0 x1 x2 x3 x4 x5 xf0 xf1 xf2 xf3 xf4 xf5 hbb
        obtain ⟨⟨y0, y1, y2, y3, y4, y5⟩, yf0, yf1, yf2, yf3, yf4, yf5⟩ := c6_at hbo.res
        have hrr := (head_row hbo.res).lt
        have HBO := Lib.hid hbo
        have HSC := Lib.hid (And.intro hsc hoc)
        have HEC := Lib.hid (And.intro hRc hrp)
        clear hbo hsc hoc hbc KN HX1 hRc hrp
        go_wp2
        have HO : Hid (Only [w.heap.size, w.heap.size + 1] wc ((((((wc.setCell ⟨w.heap.size + 1, 0, none⟩ (.int .i64 (s.c : Nat))).setCell ⟨w.heap.size + 1, 1, none⟩ (.int .i64 (rp : Nat))).setCell ⟨w.heap.size + 1, 2, none⟩ (.slice Fc1 nc1 dc1)).setCell ⟨w.heap.size + 1, 3, none⟩ (.slice Fc2 nc2 dc2)).setCell ⟨w.heap.size + 1, 4, none⟩ (.slice Fc3 nc3 dc3)).setCell ⟨w.heap.size + 1, 5, none⟩ (.slice Fc4 nc4 dc4))) := Lib.hid (((((((Only.refl _ _).setCell (by simp) _).setCell (by simp) _).setCell (by simp) _).setCell (by simp) _).setCell (by simp) _).setCell (by simp) _)
        exact bodyPost_ret (v := .tuple #[.agg (l11C s.c rp (.slice Fc1 nc1 dc1) (.slice Fc2 nc2 dc2) (.slice Fc3 nc3 dc3) (.slice Fc4 nc4 dc4)), o]) (by simp [results, Try.results35, go_sem, y0, y1, y2, y3, y4, y5]) rfl ⟨_, _, _, _, _, by rw [HEC.out.1, HEC.out.2], HBO.out.fin HO.out, HBO.out.st11 HO.out HSC.out.1, HBO.out.kv HO.out HSC.out.2⟩
      · rw [if_neg hin, if_neg hin]
        rw [if_neg h1, if_neg h1, if_neg h2, if_neg h2]
        obtain ⟨R, hR⟩ : ∃ R, s.room = R := ⟨_, rfl⟩
        obtain ⟨O, hO⟩ : ∃ O, s.roomOut = O := ⟨_, rfl⟩
        rw [hR] at HRM
        rw [hR, hO]
        have HRE := Lib.hid (And.intro hR hO)
        clear hR hO
        go_enter Try.func35, Try.ntmps35
        go_wp2_with fail
        rw [HW0.out]
        clear HW0
        refine KK.out.mono ?_
        rintro e w1 ⟨v1, rfl, hb1, hk1⟩
        have KH := Lib.hid (rhas_walk hk1 HLK.out k)
        have HX1 := Lib.hid (HX0.out.step hb1)
        clear hb1 hk1 KK HX0 HLK
        rw [decide_eq_false hin] at KH
        clear hin
        go_wp2_with fail
        refine KH.out.mono ?_
        rintro e w2 ⟨rfl, rfl⟩
        clear KH
        obtain ⟨⟨x0, x1, x2, x3, x4, x5⟩, xf0, xf1, xf2, xf3, xf4, xf5⟩ := c6_at HX1.out.bo.box
        have hbb := (head_row HX1.out.bo.box).lt
        have KH1 := Lib.hid (rhas_walk HX1.out.st.g3 hl1 k)
        rw [decide_eq_false h1] at KH1
        go_wp2_with fail
        refine KH1.out.mono ?_
        rintro e w21 ⟨rfl, rfl⟩
        clear KH1
        have KH2 := Lib.hid (rhas_walk HX1.out.st.g4 hl2 k)
        rw [decide_eq_false h2] at KH2
        go_wp2_with fail
        refine KH2.out.mono ?_
        rintro e w22 ⟨rfl, rfl⟩
        clear KH2
        have KN := Lib.hid (r11fresh_walk HX1.out.st HOK.out)
        rw [HRE.out.1, HRE.out.2] at KN
        clear HRE
        go_wp2_with fail
        refine KN.out.mono ?_
        rintro e wb ⟨q1, q2, q3, q4, ob, he, hbb2, hsb, hob⟩
        obtain ⟨Fp1, np1, dp1, rfl⟩ := hsb.form1
        obtain ⟨Fp2, np2, dp2, rfl⟩ := hsb.form2
        obtain ⟨Fp3, np3, dp3, rfl⟩ := hsb.form3
        obtain ⟨Fp4, np4, dp4, rfl⟩ := hsb.form4
        obtain ⟨htc, htp, ht2⟩ := HRM.out
        have hxp := (HX1.out.step hbb2).alloc hsb
        have HOB := Lib.hid (hob.below (low_one wb (.cells (l11C R.c R.p (.slice Fp1 np1 dp1) (.slice Fp2 np2 dp2) (.slice Fp3 np3 dp3) (.slice Fp4 np4 dp4)) T11)))
        have hne : w.heap.size + 2 ≤ wb.heap.size := by have := (head_row (HX1.out.step hbb2).bo.res).lt; omega
        clear x0 x1 x2 x3 x4 x5 xf0 xf1 xf2 xf3 xf4 xf5 hbb HRM
        clear hbb2 hsb hob KN HX1 HOK h1 h2
        obtain ⟨tc, tp, ti, tj, tO, tm⟩ := R
        dsimp only at htc htp ht2 hxp HOB he
        subst htc htp he
        have HXp := Lib.hid hxp
        clear hxp
        have KF := Lib.hid (rfront_walk HXp.out.st.g1 ht2 k)
        go_wp2_with fail
        refine KF.out.mono ?_
        rintro e vf ⟨of, rfl, hf⟩
        obtain ⟨Ff, nf, df, rfl⟩ := hf.kv.form
        have hxf := HXp.out.step hf.low
        obtain ⟨⟨x0, x1, x2, x3, x4, x5⟩, xf0, xf1, xf2, xf3, xf4, xf5⟩ := c6_at hxf.bo.box
        have hbb := (head_row hxf.bo.box).lt
        have hyf := hxf.set2 hf.kv
        have HOF := Lib.hid (hxf.kv (i := 2) (x := .slice Ff nf df) (HOB.out.below hf.low))
        obtain ⟨⟨y0, y1, y2, y3, y4, y5⟩, yf0, yf1, yf2, yf3, yf4, yf5⟩ := c6_at hxf.bo.res
        have hrr := (head_row hxf.bo.res).lt
        have HXf := Lib.hid hyf
        clear hf hxf hyf HXp KF HOB
        have HD := Lib.hid (HXf.out.doneo HOF.out)
        clear HXf HOF
        go_wp2
        exact bodyPost_ret (v := .tuple #[.agg (l11C _ _ (.slice Ff nf df) (.slice Fp2 np2 dp2) (.slice Fp3 np3 dp3) (.slice Fp4 np4 dp4)), ob]) (by simp [results, Try.results35, go_sem, y0, y1, y2, y3, y4, y5]) rfl HD.out
end
end Go.Proofs.Ytemgbiohfgcphaa
