/- Two queues: the laws' same. -/
import Derived.Test.YtiokejhplbadeaaTqO
namespace Go.Proofs.Ytiokejhplbadeaa
open Go Go.RowKit Go.Deep

section
variable {w : World} {u1 u2 u3 v1 v2 v3 : Value} {s : L9}
set_option maxHeartbeats 2000000 in
set_option maxRecDepth 4000 in
theorem psame9_walk (h : St9 w s u1 u2 u3) (h' : St9 w s v1 v2 v3) (ok : s.Ok) : Calls Try.prog 38 #[.agg (l9C s.c u1 u2 u3), .agg (l9C s.c v1 v2 v3)] w (RetB w true) := by
  obtain ⟨Fa1, na1, da1, rfl⟩ := h.form1
  obtain ⟨Fa2, na2, da2, rfl⟩ := h.form2
  obtain ⟨Fa3, na3, da3, rfl⟩ := h.form3
  obtain ⟨Fb1, nb1, db1, rfl⟩ := h'.form1
  obtain ⟨Fb2, nb2, db2, rfl⟩ := h'.form2
  obtain ⟨Fb3, nb3, db3, rfl⟩ := h'.form3
  have hb := low_two w (.cells (l9C s.c (.slice Fa1 na1 da1) (.slice Fa2 na2 da2) (.slice Fa3 na3 da3)) PT9) (.cells (l9C s.c (.slice Fb1 nb1 db1) (.slice Fb2 nb2 db2) (.slice Fb3 nb3 db3)) T9)
  have H := Lib.hid (h.below hb)
  have H' := Lib.hid (h'.below hb)
  have HB := Lib.hid hb
  obtain ⟨_, ht1, ht2, ht3⟩ := two_blocks (c := (l9C s.c (.slice Fa1 na1 da1) (.slice Fa2 na2 da2) (.slice Fa3 na3 da3))) (t := PT9) (d := (l9C s.c (.slice Fb1 nb1 db1) (.slice Fb2 nb2 db2) (.slice Fb3 nb3 db3))) (u := T9) (w := w) (Below.refl _ _)
  have HT := Lib.hid (And.intro ht2 ht3)
  clear ht1 ht2 ht3
  have hl_inn := Lib.hid ok.len_inn
  have hl_out := Lib.hid ok.len_out
  have hl_main := Lib.hid ok.len_main
  obtain ⟨c, inn, out, main⟩ := s
  clear h h' hb ok
  go_enter Try.func38, Try.ntmps38
  go_wp2_with fail
  refine (same_walk (ks := inn) (js := inn) H.out.g1 H'.out.g1 hl_inn.out).mono ?_
  rintro e w1 ⟨rfl, hb⟩
  rw [decide_eq_true rfl]
  have H1 := Lib.hid (H.out.below hb)
  have H1' := Lib.hid (H'.out.below hb)
  have HB1 := Lib.hid (HB.out.trans (hb.mono HB.out.size))
  have HT1 := Lib.hid (And.intro ((hb.block _ (head_row HT.out.1).lt).trans HT.out.1) ((hb.block _ (head_row HT.out.2).lt).trans HT.out.2))
  clear hb HT 
  obtain ⟨⟨x0, x1, x2, x3⟩, xf0, xf1, xf2, xf3⟩ := c4_at HT1.out.1
  obtain ⟨⟨z0, z1, z2, z3⟩, zf0, zf1, zf2, zf3⟩ := c4_at HT1.out.2
  go_wp2_with fail
  refine (same_walk (ks := out) (js := out) H1.out.g2 H1'.out.g2 hl_out.out).mono ?_
  rintro e w2 ⟨rfl, hb⟩
  rw [decide_eq_true rfl]
  have H2 := Lib.hid (H1.out.below hb)
  have H2' := Lib.hid (H1'.out.below hb)
  have HB2 := Lib.hid (HB1.out.trans (hb.mono HB1.out.size))
  have HT2 := Lib.hid (And.intro ((hb.block _ (head_row HT1.out.1).lt).trans HT1.out.1) ((hb.block _ (head_row HT1.out.2).lt).trans HT1.out.2))
  clear hb HT1 x0 x1 x2 x3 xf0 xf1 xf2 xf3 z0 z1 z2 z3 zf0 zf1 zf2 zf3
  obtain ⟨⟨x0, x1, x2, x3⟩, xf0, xf1, xf2, xf3⟩ := c4_at HT2.out.1
  obtain ⟨⟨z0, z1, z2, z3⟩, zf0, zf1, zf2, zf3⟩ := c4_at HT2.out.2
  go_wp2_with fail
  refine (same_walk (ks := main) (js := main) H2.out.g3 H2'.out.g3 hl_main.out).mono ?_
  rintro e w3 ⟨rfl, hb⟩
  rw [decide_eq_true rfl]
  have H3 := Lib.hid (H2.out.below hb)
  have H3' := Lib.hid (H2'.out.below hb)
  have HB3 := Lib.hid (HB2.out.trans (hb.mono HB2.out.size))
  have HT3 := Lib.hid (And.intro ((hb.block _ (head_row HT2.out.1).lt).trans HT2.out.1) ((hb.block _ (head_row HT2.out.2).lt).trans HT2.out.2))
  clear hb HT2 x0 x1 x2 x3 xf0 xf1 xf2 xf3 z0 z1 z2 z3 zf0 zf1 zf2 zf3
  go_wp2
  go_ret
  exact ⟨rfl, HB3.out⟩
end
end Go.Proofs.Ytiokejhplbadeaa
