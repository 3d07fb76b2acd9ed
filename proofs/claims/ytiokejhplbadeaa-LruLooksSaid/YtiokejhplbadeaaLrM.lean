/- Least recently used: the laws' same. -/
import Derived.Test.YtiokejhplbadeaaLrO
namespace Go.Proofs.Ytiokejhplbadeaa
open Go Go.RowKit Go.Deep

section
variable {w : World} {u1 v1 : Value} {s : L8}
set_option maxHeartbeats 2000000 in
set_option maxRecDepth 4000 in
theorem psame8_walk (h : St8 w s u1) (h' : St8 w s v1) (ok : s.Ok) : Calls Try.prog 18 #[.agg (l8C s.c u1), .agg (l8C s.c v1)] w (RetB w true) := by
  obtain ⟨Fa1, na1, da1, rfl⟩ := h.form1
  obtain ⟨Fb1, nb1, db1, rfl⟩ := h'.form1
  have hb := low_two w (.cells (l8C s.c (.slice Fa1 na1 da1)) PT8) (.cells (l8C s.c (.slice Fb1 nb1 db1)) T8)
  have H := Lib.hid (h.below hb)
  have H' := Lib.hid (h'.below hb)
  have HB := Lib.hid hb
  have hl_l := Lib.hid ok.len_l
  obtain ⟨c, l⟩ := s
  clear h h' hb ok
  go_enter Try.func18, Try.ntmps18
  go_wp2_with fail
  refine (same_walk (ks := l) (js := l) H.out.g1 H'.out.g1 hl_l.out).mono ?_
  rintro e w1 ⟨rfl, hb⟩
  rw [decide_eq_true rfl]
  have H1 := Lib.hid (H.out.below hb)
  have H1' := Lib.hid (H'.out.below hb)
  have HB1 := Lib.hid (HB.out.trans (hb.mono HB.out.size))
  clear hb
  go_wp2
  go_ret
  exact ⟨rfl, HB1.out⟩
end
end Go.Proofs.Ytiokejhplbadeaa
