/- Adaptive replacement: the laws' same. -/
import Derived.Test.YtemgbiohfgcphaaRcO
namespace Go.Proofs.Ytemgbiohfgcphaa
open Go Go.RowKit Go.Deep

section
variable {w : World} {u1 u2 u3 u4 v1 v2 v3 v4 : Value} {s : L11}
set_option maxHeartbeats 2000000 in
set_option maxRecDepth 4000 in
theorem psame11_walk (h : St11 w s u1 u2 u3 u4) (h' : St11 w s v1 v2 v3 v4) (ok : s.Ok) : Calls Try.prog 14 #[.agg (l11C s.c s.p u1 u2 u3 u4), .agg (l11C s.c s.p v1 v2 v3 v4)] w (RetB w true) := by
  obtain ⟨Fa1, na1, da1, rfl⟩ := h.form1
  obtain ⟨Fa2, na2, da2, rfl⟩ := h.form2
  obtain ⟨Fa3, na3, da3, rfl⟩ := h.form3
  obtain ⟨Fa4, na4, da4, rfl⟩ := h.form4
  obtain ⟨Fb1, nb1, db1, rfl⟩ := h'.form1
  obtain ⟨Fb2, nb2, db2, rfl⟩ := h'.form2
  obtain ⟨Fb3, nb3, db3, rfl⟩ := h'.form3
  obtain ⟨Fb4, nb4, db4, rfl⟩ := h'.form4
  have hb := low_two w (.cells (l11C s.c s.p (.slice Fa1 na1 da1) (.slice Fa2 na2 da2) (.slice Fa3 na3 da3) (.slice Fa4 na4 da4)) PT11) (.cells (l11C s.c s.p (.slice Fb1 nb1 db1) (.slice Fb2 nb2 db2) (.slice Fb3 nb3 db3) (.slice Fb4 nb4 db4)) T11)
  have H := Lib.hid (h.below hb)
  have H' := Lib.hid (h'.below hb)
  have HB := Lib.hid hb
  obtain ⟨_, ht1, ht2, ht3⟩ := two_blocks (c := (l11C s.c s.p (.slice Fa1 na1 da1) (.slice Fa2 na2 da2) (.slice Fa3 na3 da3) (.slice Fa4 na4 da4))) (t := PT11) (d := (l11C s.c s.p (.slice Fb1 nb1 db1) (.slice Fb2 nb2 db2) (.slice Fb3 nb3 db3) (.slice Fb4 nb4 db4))) (u := T11) (w := w) (Below.refl _ _)
  have HT := Lib.hid (And.intro ht2 ht3)
  clear ht1 ht2 ht3
  have hl_t1 := Lib.hid ok.len_t1
  have hl_t2 := Lib.hid ok.len_t2
  have hl_b1 := Lib.hid ok.len_b1
  have hl_b2 := Lib.hid ok.len_b2
  obtain ⟨c, p, t1, t2, b1, b2⟩ := s
  clear h h' hb ok
  go_enter Try.func14, Try.ntmps14
  go_wp2_with fail
  refine (same_walk (ks := t1) (js := t1) H.out.g1 H'.out.g1 hl_t1.out).mono ?_
  rintro e w1 ⟨rfl, hb⟩
  rw [decide_eq_true rfl]
  have H1 := Lib.hid (H.out.below hb)
  have H1' := Lib.hid (H'.out.below hb)
  have HB1 := Lib.hid (HB.out.trans (hb.mono HB.out.size))
  have HT1 := Lib.hid (And.intro ((hb.block _ (head_row HT.out.1).lt).trans HT.out.1) ((hb.block _ (head_row HT.out.2).lt).trans HT.out.2))
  clear hb HT 
  obtain ⟨⟨x0, x1, x2, x3, x4, x5⟩, xf0, xf1, xf2, xf3, xf4, xf5⟩ := c6_at HT1.out.1
  obtain ⟨⟨z0, z1, z2, z3, z4, z5⟩, zf0, zf1, zf2, zf3, zf4, zf5⟩ := c6_at HT1.out.2
  go_wp2_with fail
  refine (same_walk (ks := t2) (js := t2) H1.out.g2 H1'.out.g2 hl_t2.out).mono ?_
  rintro e w2 ⟨rfl, hb⟩
  rw [decide_eq_true rfl]
  have H2 := Lib.hid (H1.out.below hb)
  have H2' := Lib.hid (H1'.out.below hb)
  have HB2 := Lib.hid (HB1.out.trans (hb.mono HB1.out.size))
  have HT2 := Lib.hid (And.intro ((hb.block _ (head_row HT1.out.1).lt).trans HT1.out.1) ((hb.block _ (head_row HT1.out.2).lt).trans HT1.out.2))
  clear hb HT1 x0 x1 x2 x3 x4 x5 xf0 xf1 xf2 xf3 xf4 xf5 z0 z1 z2 z3 z4 z5 zf0 zf1 zf2 zf3 zf4 zf5
  obtain ⟨⟨x0, x1, x2, x3, x4, x5⟩, xf0, xf1, xf2, xf3, xf4, xf5⟩ := c6_at HT2.out.1
  obtain ⟨⟨z0, z1, z2, z3, z4, z5⟩, zf0, zf1, zf2, zf3, zf4, zf5⟩ := c6_at HT2.out.2
  go_wp2_with fail
  refine (same_walk (ks := b1) (js := b1) H2.out.g3 H2'.out.g3 hl_b1.out).mono ?_
  rintro e w3 ⟨rfl, hb⟩
  rw [decide_eq_true rfl]
  have H3 := Lib.hid (H2.out.below hb)
  have H3' := Lib.hid (H2'.out.below hb)
  have HB3 := Lib.hid (HB2.out.trans (hb.mono HB2.out.size))
  have HT3 := Lib.hid (And.intro ((hb.block _ (head_row HT2.out.1).lt).trans HT2.out.1) ((hb.block _ (head_row HT2.out.2).lt).trans HT2.out.2))
  clear hb HT2 x0 x1 x2 x3 x4 x5 xf0 xf1 xf2 xf3 xf4 xf5 z0 z1 z2 z3 z4 z5 zf0 zf1 zf2 zf3 zf4 zf5
  obtain ⟨⟨x0, x1, x2, x3, x4, x5⟩, xf0, xf1, xf2, xf3, xf4, xf5⟩ := c6_at HT3.out.1
  obtain ⟨⟨z0, z1, z2, z3, z4, z5⟩, zf0, zf1, zf2, zf3, zf4, zf5⟩ := c6_at HT3.out.2
  go_wp2_with fail
  refine (same_walk (ks := b2) (js := b2) H3.out.g4 H3'.out.g4 hl_b2.out).mono ?_
  rintro e w4 ⟨rfl, hb⟩
  rw [decide_eq_true rfl]
  have H4 := Lib.hid (H3.out.below hb)
  have H4' := Lib.hid (H3'.out.below hb)
  have HB4 := Lib.hid (HB3.out.trans (hb.mono HB3.out.size))
  have HT4 := Lib.hid (And.intro ((hb.block _ (head_row HT3.out.1).lt).trans HT3.out.1) ((hb.block _ (head_row HT3.out.2).lt).trans HT3.out.2))
  clear hb HT3 x0 x1 x2 x3 x4 x5 xf0 xf1 xf2 xf3 xf4 xf5 z0 z1 z2 z3 z4 z5 zf0 zf1 zf2 zf3 zf4 zf5
  obtain ⟨⟨x0, x1, x2, x3, x4, x5⟩, xf0, xf1, xf2, xf3, xf4, xf5⟩ := c6_at HT4.out.1
  obtain ⟨⟨z0, z1, z2, z3, z4, z5⟩, zf0, zf1, zf2, zf3, zf4, zf5⟩ := c6_at HT4.out.2
  go_wp2
  go_ret
  exact ⟨rfl, HB4.out⟩
end
end Go.Proofs.Ytemgbiohfgcphaa
