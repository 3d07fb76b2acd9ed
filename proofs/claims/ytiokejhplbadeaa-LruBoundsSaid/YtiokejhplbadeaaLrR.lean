/- Least recently used, the document's own: New, Touch, Drop, shrink. -/
import Derived.Test.YtiokejhplbadeaaLrB
namespace Go.Proofs.Ytiokejhplbadeaa
open Go Go.RowKit Go.Deep

section
variable {w : World} {u : Value} {s : L8}
set_option maxHeartbeats 100000000 in
theorem r8new_walk (n : Int) (hn1 : -9223372036854775808 ≤ n) (hn2 : n ≤ 9223372036854775807) : Calls Try.prog 15 #[.int .i64 n] w (P8 w (L8.new n)) := by
  have HB := Lib.hid ((Below.refl w.heap.size w).alloc (Nat.le_refl _) (.cells z8 28))
  have KK := Lib.hid (rcap_walk (w := w.alloc (.cells z8 28)) n hn1 hn2)
  obtain ⟨c, hc⟩ : ∃ c, capI n = c := ⟨_, rfl⟩
  have HC : Hid (P8 w (L8.new n) = P8 w ⟨c, []⟩) := Lib.hid (by rw [← hc]; rfl)
  rw [hc] at KK
  rw [HC.out]
  clear hc HC
  go_enter Try.func15, Try.ntmps15
  go_wp2_with fail
  refine KK.out.mono ?_
  rintro e w1 ⟨rfl, rfl⟩
  go_wp2
  exact bodyPost_ret (v := .agg (l8C c (.slice none 0 0))) (by simp [results, Try.results15, go_sem]) rfl ⟨_, rfl, (Below.refl _ _).alloc (Nat.le_refl _) _, ⟨KV.nil _⟩⟩
set_option maxHeartbeats 100000000 in
theorem r8touch_walk (hs : St8 w s u) (ok : s.Ok) (k : Nat) : Calls Try.prog 51 #[.agg (l8C s.c u), .int .u64 (k : Nat)] w (P8 w (s.touch k)) := by
  have h := hs.g1
  have hl := ok.hl
  clear hs ok
  obtain ⟨F, n, d, rfl⟩ := h.form
  have h0 := B8.start w s.c F n d
  have HB := Lib.hid h0
  have hk0 := h.below h0.low
  have KH := Lib.hid (rhas_walk hk0 hl k)
  have KF := Lib.hid (rfront_walk hk0 hl k)
  have HK0 := Lib.hid hk0
  obtain ⟨c, l⟩ := s
  simp only at *
  unfold L8.touch
  simp only
  have H := Lib.hid h
  clear h0 hk0 h
  by_cases hin : k ∈ l
  · rw [decide_eq_true hin] at KH
    rw [if_pos hin]
    clear hin
    go_enter Try.func51, Try.ntmps51
    go_wp2_with fail
    refine KH.out.mono ?_
    rintro e w1 ⟨rfl, rfl⟩
    go_wp2_with fail
    refine KF.out.mono ?_
    rintro e w2 ⟨v2, rfl, h2⟩
    obtain ⟨F2, n2, d2, rfl⟩ := h2.kv.form
    have H2 := Lib.hid (HB.out.step h2.low)
    have HV := Lib.hid h2.kv
    obtain ⟨⟨x0, x1⟩, x2, x3⟩ := c2_at H2.out.box
    obtain ⟨⟨y0, y1⟩, y2, y3⟩ := c2_at H2.out.res
    clear h2 KH KF HB HK0
    go_wp2
    have HO : Hid (Only [w.heap.size, w.heap.size + 1] w2 (((w2.setCell ⟨w.heap.size, 1, none⟩ (.slice F2 n2 d2)).setCell ⟨w.heap.size + 1, 0, none⟩ (.int .i64 (c : Nat))).setCell ⟨w.heap.size + 1, 1, none⟩ (.slice F2 n2 d2))) := Lib.hid ((((Only.refl _ _).setCell (by simp) _).setCell (by simp) _).setCell (by simp) _)
    exact bodyPost_ret (v := .agg (l8C c (.slice F2 n2 d2))) (by simp [results, Try.results51, go_sem, y0, y1]) rfl ⟨_, rfl, H2.out.fin HO.out, ⟨H2.out.kv HO.out HV.out⟩⟩
  · rw [decide_eq_false hin] at KH
    rw [if_neg hin]
    clear hin
    go_enter Try.func51, Try.ntmps51
    go_wp2_with fail
    refine KH.out.mono ?_
    rintro e w1 ⟨rfl, rfl⟩
    go_wp2
    exact bodyPost_ret (v := .agg (l8C c (.slice F n d))) (by simp [results, Try.results51, go_sem]) rfl ⟨_, rfl, low_two w _ _, ⟨H.out.below (low_two w _ _)⟩⟩
end
end Go.Proofs.Ytiokejhplbadeaa
