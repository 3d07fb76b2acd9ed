/- Three simple queues, the document's own: Admit, Resize. -/
import Derived.Test.YtlekhmpalcgbmaaS3N
import Derived.Test.YtlekhmpalcgbmaaPoA
namespace Go.Proofs.Ytlekhmpalcgbmaa
open Go Go.RowKit Go.Deep

section
variable {w : World} {u1 u2 u3 : Value} {s : L10}
set_option maxHeartbeats 1000000 in
theorem r10admit_walk (hs : St10 w s u1 u2 u3) (ok : s.Ok) (k : Nat) (_ : k < 18446744073709551616) : Calls Try.prog 33 #[.agg (l10C s.c u1 u2 u3), .int .u64 (k : Nat)] w (P10o w (s.adm k) (s.admitOut k)) := by
  obtain ⟨F1, n1, d1, rfl⟩ := hs.form1
  obtain ⟨F2, n2, d2, rfl⟩ := hs.form2
  obtain ⟨F3, n3, d3, rfl⟩ := hs.form3
  have HX0 := Lib.hid (Bx10.start w T10 (by decide) hs)
  have KK := Lib.hid (r10keys_walk HX0.out.st ok)
  have HLK := Lib.hid ok.keysLen
  have hpos := ok.pos
  have hcap := ok.cap
  have HCC : Hid (∀ N, ((s.forget k).shr N).c = s.c) := Lib.hid (fun N => L10.shr_c (ok.fine.forget k) N)
  have HTT : Hid (∀ N, ((s.forget k).shr N).total ≤ 1048576) := Lib.hid (fun N => by
    have h1 := L10.shr_total (ok.fine.forget k) N
    have h2 := ok.len
    have h3 : (s.forget k).total = s.total := rfl
    omega)
  have HFG : Hid (∀ W v1 v2 v3, St10 W (s.forget k) v1 v2 v3 → Calls Try.prog 53 #[.agg (l10C s.c v1 v2 v3), .int .i64 ((s.c - 1 : Nat) : Int)] W (P10o W ((s.forget k).shr (s.c - 1)) ((s.forget k).shrOut (s.c - 1)))) := Lib.hid (fun W v1 v2 v3 h => by
    have hl := ok.len
    have ho := ok.glen
    have hw := wo_len k s.ghost
    have hr := room_le s.c
    exact r10shrink_walk h (ok.fine.forget k) (by show s.total ≤ _; omega) (by show (wo k s.ghost).length ≤ _; omega) ok.pos ok.cap (s.c - 1) (by omega))
  have hol : s.ghost.length ≤ 100000000 := by have := ok.glen; have := room_le s.c; omega
  unfold L10.adm L10.admitOut
  clear ok hs
  obtain ⟨b, hb⟩ : ∃ b, decide (k ∈ s.ghost) = b := ⟨_, rfl⟩
  have HBO := Lib.hid hb
  rw [hb]
  clear hb
  obtain ⟨c', hc'⟩ : ∃ c', s.c - 1 = c' := ⟨_, rfl⟩
  have hcI : (s.c : Int) - 1 = (c' : Int) := by omega
  rw [hc'] at HFG ⊢
  clear hc'
  generalize hW0 : World.alloc _ (.cells z10 T10) = W0 at HX0 KK
  have HW0 := Lib.hid hW0
  clear hW0
  by_cases hin : k ∈ s.keys
  · rw [if_pos hin, if_pos hin]
    go_enter Try.func33, Try.ntmps33
    go_wp2_with fail
    rw [HW0.out]
    clear HW0
    refine KK.out.mono ?_
    rintro e w1 ⟨v1, rfl, hb1, hk1⟩
    have KH := Lib.hid (rhas_walk hk1 HLK.out k)
    have HX1 := Lib.hid (HX0.out.step hb1)
    clear hb1 hk1 KK HX0 HLK
    rw [decide_eq_true hin] at KH
    clear hin
    go_wp2_with fail
    refine KH.out.mono ?_
    rintro e w2 ⟨rfl, rfl⟩
    obtain ⟨⟨x0, x1, x2, x3⟩, xf0, xf1, xf2, xf3⟩ := c4_at HX1.out.bo.box
    obtain ⟨⟨y0, y1, y2, y3⟩, yf0, yf1, yf2, yf3⟩ := c4_at HX1.out.bo.res
    have hbb := (head_row HX1.out.bo.box).lt
    have hrr := (head_row HX1.out.bo.res).lt
    clear KH HFG HTT HCC
    go_wp2
    exact bodyPost_ret (v := .tuple #[.agg (l10C s.c (.slice F1 n1 d1) (.slice F2 n2 d2) (.slice F3 n3 d3)), .slice none 0 0]) (by simp [results, Try.results33, go_sem, y0, y1, y2, y3]) rfl (HX1.out.doneo (KV.nil _))
  · rw [if_neg hin, if_neg hin]
    go_enter Try.func33, Try.ntmps33
    go_wp2_with fail
    rw [HW0.out]
    clear HW0
    refine KK.out.mono ?_
    rintro e w1 ⟨v1, rfl, hb1, hk1⟩
    have KH := Lib.hid (rhas_walk hk1 HLK.out k)
    have HX1 := Lib.hid (HX0.out.step hb1)
    clear hb1 hk1 KK HX0 HLK
    rw [decide_eq_false hin] at KH
    clear hin
    go_wp2_with fail
    refine KH.out.mono ?_
    rintro e w2 ⟨rfl, rfl⟩
    obtain ⟨⟨x0, x1, x2, x3⟩, xf0, xf1, xf2, xf3⟩ := c4_at HX1.out.bo.box
    have hbb := (head_row HX1.out.bo.box).lt
    have KH2 := Lib.hid (rhas_walk HX1.out.st.g3 hol k)
    rw [HBO.out] at KH2
    have KW := Lib.hid (rwithout_walk HX1.out.st.g3 hol k)
    clear KH HBO
    go_wp2_with fail
    refine KH2.out.mono ?_
    rintro e w2b ⟨rfl, rfl⟩
    clear KH2
    go_wp2_with fail
    refine KW.out.mono ?_
    rintro e va ⟨oa, rfl, ha⟩
    obtain ⟨Fa, na, da, rfl⟩ := ha.kv.form
    have hxa := HX1.out.step ha.low
    clear x0 x1 x2 x3 xf0 xf1 xf2 xf3 hbb
    obtain ⟨⟨x0, x1, x2, x3⟩, xf0, xf1, xf2, xf3⟩ := c4_at hxa.bo.box
    have hbb := (head_row hxa.bo.box).lt
    have hya := hxa.set3 ha.kv
    generalize hWa : va.setCell ⟨w.heap.size, 3, none⟩ (.slice Fa na da) = wa at hya
    have HWa := Lib.hid hWa
    have HXa := Lib.hid hya
    clear ha hWa hxa hya HX1 KW
    have KS := Lib.hid (HFG.out _ _ _ _ HXa.out.st)
    go_wp2_with fail
    rw [HWa.out]
    clear HWa
    refine KS.out.mono ?_
    rintro e wb ⟨q1, q2, q3, ob, he, hbb2, hsb, hob⟩
    obtain ⟨Fp1, np1, dp1, rfl⟩ := hsb.form1
    obtain ⟨Fp2, np2, dp2, rfl⟩ := hsb.form2
    obtain ⟨Fp3, np3, dp3, rfl⟩ := hsb.form3
    have hcc := HCC.out c'
    have htt := HTT.out c'
    clear x0 x1 x2 x3 xf0 xf1 xf2 xf3 hbb HCC HTT KS HFG
    generalize (s.forget k).shr c' = t at *
    generalize (s.forget k).shrOut c' = out at *
    obtain ⟨tc, ti, tm, tg⟩ := t
    obtain rfl : tc = s.c := hcc
    have he' : e = .returned (.tuple #[.agg (l10C s.c (.slice Fp1 np1 dp1) (.slice Fp2 np2 dp2) (.slice Fp3 np3 dp3)), ob]) := he
    subst he'
    have hxp := (HXa.out.step hbb2).alloc hsb
    have HOB := Lib.hid (hob.below (low_one wb (.cells (l10C s.c (.slice Fp1 np1 dp1) (.slice Fp2 np2 dp2) (.slice Fp3 np3 dp3)) T10)))
    have hne : w.heap.size + 2 ≤ wb.heap.size := by have := (head_row (HXa.out.step hbb2).bo.res).lt; omega
    have HTL : Hid (ti.length + tm.length ≤ 1048576) := Lib.hid htt
    have HXp := Lib.hid hxp
    clear hxp he hbb2 hsb hob HXa htt
    go_upto_region 6 with fail
    have HOW : Hid (∀ wx : World, OwnI TI10 wx.heap.size wx (wx.alloc (.cells #[.int .u64 (k : Nat), .int .i64 0] TI10)) (.slice (some ⟨wx.heap.size, 0, none⟩) 1 1) [⟨k, 0⟩]) := Lib.hid (fun wx => OwnI.one (e := TI10) (Nat.le_refl wx.heap.size) (Below.refl _ wx) ⟨k, 0⟩)
    generalize wb.alloc (.cells (l10C s.c (.slice Fp1 np1 dp1) (.slice Fp2 np2 dp2) (.slice Fp3 np3 dp3)) T10) = wx at *
    generalize wb.heap.size = P at *
    have HOW := Lib.hid (HOW.out wx)
    obtain ⟨⟨x0, x1, x2, x3⟩, xf0, xf1, xf2, xf3⟩ := c4_at HXp.out.bo.box
    try dsimp only at x0 x1 x2 x3
    have hbb := (head_row HXp.out.bo.box).lt
    cases b
    · have HSRC := Lib.hid (HXp.out.st.g1.below (low_one wx (.cells #[.int .u64 (k : Nat), .int .i64 0] TI10)))
      go_wp2_with (at_builtin; refine wpList_append_iv (e := TI10) rfl (.tmp 41) (.tmp 43) rfl wx.heap.size (by kernel_rfl) (by kernel_rfl) _ [⟨k, 0⟩] rfl HOW.out _ ti rfl HSRC.out (by have h : ti.length + tm.length ≤ 1048576 := HTL.out; simp; omega) (by simp) ?_)
      intro v5 w5 hown5 _ _
      obtain ⟨Ff, nf, df, rfl⟩ := hown5.iv.form
      have hxf := HXp.out.step hown5.low
      clear x0 x1 x2 x3 xf0 xf1 xf2 xf3 hbb
      obtain ⟨⟨x0, x1, x2, x3⟩, xf0, xf1, xf2, xf3⟩ := c4_at hxf.bo.box
      have hbb := (head_row hxf.bo.box).lt
      have hyf := hxf.set1 hown5.iv
      have HOF := Lib.hid (hxf.kv (i := 1) (x := .slice Ff nf df) (HOB.out.below hown5.low))
      obtain ⟨⟨y0, y1, y2, y3⟩, yf0, yf1, yf2, yf3⟩ := c4_at hxf.bo.res
      have hrr := (head_row hxf.bo.res).lt
      have HXf := Lib.hid hyf
      clear hown5 hxf hyf HXp HOB HOW HSRC
      have hd := HXf.out.doneo HOF.out
      have HD := Lib.hid hd
      clear hd HXf HOF
      go_wp2
      exact bodyPost_ret (v := .tuple #[.agg (l10C s.c (.slice Ff nf df) (.slice Fp2 np2 dp2) (.slice Fp3 np3 dp3)), ob]) (by simp [results, Try.results33, go_sem, y0, y1, y2, y3]) rfl HD.out
    · have HSRC := Lib.hid (HXp.out.st.g2.below (low_one wx (.cells #[.int .u64 (k : Nat), .int .i64 0] TI10)))
      go_wp2_with (at_builtin; refine wpList_append_iv (e := TI10) rfl (.tmp 34) (.tmp 36) rfl wx.heap.size (by kernel_rfl) (by kernel_rfl) _ [⟨k, 0⟩] rfl HOW.out _ tm rfl HSRC.out (by have h : ti.length + tm.length ≤ 1048576 := HTL.out; simp; omega) (by simp) ?_)
      intro v5 w5 hown5 _ _
      obtain ⟨Ff, nf, df, rfl⟩ := hown5.iv.form
      have hxf := HXp.out.step hown5.low
      clear x0 x1 x2 x3 xf0 xf1 xf2 xf3 hbb
      obtain ⟨⟨x0, x1, x2, x3⟩, xf0, xf1, xf2, xf3⟩ := c4_at hxf.bo.box
      have hbb := (head_row hxf.bo.box).lt
      have hyf := hxf.set2 hown5.iv
      have HOF := Lib.hid (hxf.kv (i := 2) (x := .slice Ff nf df) (HOB.out.below hown5.low))
      obtain ⟨⟨y0, y1, y2, y3⟩, yf0, yf1, yf2, yf3⟩ := c4_at hxf.bo.res
      have hrr := (head_row hxf.bo.res).lt
      have HXf := Lib.hid hyf
      clear hown5 hxf hyf HXp HOB HOW HSRC
      have hd := HXf.out.doneo HOF.out
      have HD := Lib.hid hd
      clear hd HXf HOF
      go_wp2
      exact bodyPost_ret (v := .tuple #[.agg (l10C s.c (.slice Fp1 np1 dp1) (.slice Ff nf df) (.slice Fp3 np3 dp3)), ob]) (by simp [results, Try.results33, go_sem, y0, y1, y2, y3]) rfl HD.out
set_option maxHeartbeats 1000000 in
theorem r10resize_walk (hs : St10 w s u1 u2 u3) (ok : s.Ok) (n : Int) (hn1 : -9223372036854775808 ≤ n) (hn2 : n ≤ 9223372036854775807) : Calls Try.prog 35 #[.agg (l10C s.c u1 u2 u3), .int .i64 n] w (P10o w (s.resize n) (s.resizeOut n)) := by
  obtain ⟨F1, n1, d1, rfl⟩ := hs.form1
  obtain ⟨F2, n2, d2, rfl⟩ := hs.form2
  obtain ⟨F3, n3, d3, rfl⟩ := hs.form3
  have HX0 := Lib.hid (Bx10.start w T10 (by decide) hs)
  have KC := Lib.hid (rcap_walk (w := (w.alloc (.cells (l10C s.c (.slice F1 n1 d1) (.slice F2 n2 d2) (.slice F3 n3 d3)) T10)).alloc (.cells z10 T10)) n hn1 hn2)
  have HCP := Lib.hid (capI_pos n)
  unfold L10.resize L10.resizeOut
  obtain ⟨c', hc'⟩ : ∃ c', capI n = c' := ⟨_, rfl⟩
  rw [hc'] at KC HCP ⊢
  have hgl : s.ghost.length ≤ 2000000 := by have := ok.glen; have := room_le s.c; have := ok.cap; omega
  have HFG : Hid (∀ W v1 v2 v3, St10 W (s.sized c') v1 v2 v3 → Calls Try.prog 53 #[.agg (l10C c' v1 v2 v3), .int .i64 (c' : Nat)] W (P10o W ((s.sized c').shr c') ((s.sized c').shrOut c'))) := Lib.hid (fun W v1 v2 v3 h => by
    have hl := ok.len
    have hcap := ok.cap
    exact r10shrink_walk h (ok.fine.sized c') (by show s.total ≤ _; omega) hgl HCP.out.1 HCP.out.2 c' HCP.out.2)
  have HCC : Hid (((s.sized c').shr c').c = c') := Lib.hid (L10.shr_c (ok.fine.sized c') c')
  have HGL : Hid (((s.sized c').shr c').ghost.length ≤ 2000000) := Lib.hid (L10.shr_ghost (ok.fine.sized c') c' (by have := room_le c'; have := HCP.out.2; show room c' ≤ _; omega) hgl)
  have hc1 := HCP.out.1
  have hc2 := HCP.out.2
  clear ok hs hc' hgl
  generalize hW0 : World.alloc _ (.cells z10 T10) = W0 at HX0 KC
  have HW0 := Lib.hid hW0
  clear hW0
  go_enter Try.func35, Try.ntmps35
  go_wp2_with fail
  rw [HW0.out]
  clear HW0
  refine KC.out.mono ?_
  rintro e w1 ⟨rfl, rfl⟩
  obtain ⟨⟨x0, x1, x2, x3⟩, xf0, xf1, xf2, xf3⟩ := c4_at HX0.out.bo.box
  have hbb := (head_row HX0.out.bo.box).lt
  have hy := HX0.out.set0 c'
  generalize hWa : W0.setCell ⟨w.heap.size, 0, none⟩ (.int .i64 (c' : Nat)) = wa at hy
  have HWa := Lib.hid hWa
  have HXa := Lib.hid hy
  have KS := Lib.hid (HFG.out _ _ _ _ HXa.out.st)
  clear hWa hy HX0 KC HFG
  go_wp2_with fail
  rw [HWa.out]
  clear HWa
  refine KS.out.mono ?_
  rintro e wb ⟨q1, q2, q3, ob, he, hbb2, hsb, hob⟩
  obtain ⟨Fp1, np1, dp1, rfl⟩ := hsb.form1
  obtain ⟨Fp2, np2, dp2, rfl⟩ := hsb.form2
  obtain ⟨Fp3, np3, dp3, rfl⟩ := hsb.form3
  have hcc := HCC.out
  have hgl := HGL.out
  clear x0 x1 x2 x3 xf0 xf1 xf2 xf3 hbb HCC HGL KS
  generalize (s.sized c').shr c' = t at *
  obtain ⟨tc, ti, tm, tg⟩ := t
  obtain rfl : tc = c' := hcc
  have he' : e = .returned (.tuple #[.agg (l10C tc (.slice Fp1 np1 dp1) (.slice Fp2 np2 dp2) (.slice Fp3 np3 dp3)), ob]) := he
  subst he'
  have HBO := Lib.hid ((HXa.out.step hbb2).bo.step (low_one wb (.cells (l10C tc (.slice Fp1 np1 dp1) (.slice Fp2 np2 dp2) (.slice Fp3 np3 dp3)) T10)))
  have KF := Lib.hid (r10fall_walk (hsb.below (low_one wb (.cells (l10C tc (.slice Fp1 np1 dp1) (.slice Fp2 np2 dp2) (.slice Fp3 np3 dp3)) T10))) (show tg.length ≤ 100000000 from by have : tg.length ≤ 2000000 := hgl; omega) hc1 hc2)
  have HOB := Lib.hid (hob.below (low_one wb (.cells (l10C tc (.slice Fp1 np1 dp1) (.slice Fp2 np2 dp2) (.slice Fp3 np3 dp3)) T10)))
  clear he hbb2 hsb hob HXa hgl HCP
  go_wp2_with fail
  refine KF.out.mono ?_
  rintro e wc ⟨v1, v2, v3, he, hbc, hsc, _, _, _⟩
  obtain ⟨Fc1, nc1, dc1, rfl⟩ := hsc.form1
  obtain ⟨Fc2, nc2, dc2, rfl⟩ := hsc.form2
  obtain ⟨Fc3, nc3, dc3, rfl⟩ := hsc.form3
  have he' : e = .returned (.agg (l10C tc (.slice Fc1 nc1 dc1) (.slice Fc2 nc2 dc2) (.slice Fc3 nc3 dc3))) := he
  subst he'
  have hbo := HBO.out.step hbc
  obtain ⟨⟨y0, y1, y2, y3⟩, yf0, yf1, yf2, yf3⟩ := c4_at hbo.res
  have hrr := (head_row hbo.res).lt
  have HB2 := Lib.hid hbo
  have HSC := Lib.hid hsc
  have HO2 := Lib.hid (HOB.out.below hbc)
  clear hbo hsc hbc he KF HBO HOB
  go_wp2
  have HO : Hid (Only [w.heap.size, w.heap.size + 1] wc ((((wc.setCell ⟨w.heap.size + 1, 0, none⟩ (.int .i64 (tc : Nat))).setCell ⟨w.heap.size + 1, 1, none⟩ (.slice Fc1 nc1 dc1)).setCell ⟨w.heap.size + 1, 2, none⟩ (.slice Fc2 nc2 dc2)).setCell ⟨w.heap.size + 1, 3, none⟩ (.slice Fc3 nc3 dc3))) := Lib.hid (((((Only.refl _ _).setCell (by simp) _).setCell (by simp) _).setCell (by simp) _).setCell (by simp) _)
  exact bodyPost_ret (v := .tuple #[.agg (l10C tc (.slice Fc1 nc1 dc1) (.slice Fc2 nc2 dc2) (.slice Fc3 nc3 dc3)), ob]) (by simp [results, Try.results35, go_sem, y0, y1, y2, y3]) rfl ⟨_, _, _, _, rfl, HB2.out.fin HO.out, HB2.out.st10 HO.out HSC.out, HB2.out.kv HO.out HO2.out⟩
end
end Go.Proofs.Ytlekhmpalcgbmaa
