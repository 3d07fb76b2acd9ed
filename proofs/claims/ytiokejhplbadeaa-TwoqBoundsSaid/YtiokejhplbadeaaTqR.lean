/- Two queues, the document's own: New, Touch, Drop, fall. -/
import Derived.Test.YtiokejhplbadeaaTqV
import Derived.Test.YtiokejhplbadeaaPoP
namespace Go.Proofs.Ytiokejhplbadeaa
open Go Go.RowKit Go.Deep

section
variable {w : World} {u1 u2 u3 : Value} {s : L9}
set_option maxHeartbeats 2000000 in
theorem r9new_walk (n : Int) (hn1 : -9223372036854775808 ≤ n) (hn2 : n ≤ 9223372036854775807) : Calls Try.prog 35 #[.int .i64 n] w (P9 w (L9.new n)) := by
  have KK := Lib.hid (rcap_walk (w := w.alloc (.cells z9 63)) n hn1 hn2)
  obtain ⟨c, hc⟩ : ∃ c, capI n = c := ⟨_, rfl⟩
  have HC : Hid (P9 w (L9.new n) = P9 w ⟨c, [], [], []⟩) := Lib.hid (by rw [← hc]; rfl)
  rw [hc] at KK
  rw [HC.out]
  clear hc HC
  go_enter Try.func35, Try.ntmps35
  go_wp2_with fail
  refine KK.out.mono ?_
  rintro e w1 ⟨rfl, rfl⟩
  go_wp2
  exact bodyPost_ret (v := .agg (l9C c (.slice none 0 0) (.slice none 0 0) (.slice none 0 0))) (by simp [results, Try.results35, go_sem]) rfl ⟨_, _, _, rfl, (Below.refl _ _).alloc (Nat.le_refl _) _, ⟨KV.nil _, KV.nil _, KV.nil _⟩⟩
set_option maxHeartbeats 2000000 in
theorem r9touch_walk (hs : St9 w s u1 u2 u3) (ok : s.Ok) (k : Nat) : Calls Try.prog 61 #[.agg (l9C s.c u1 u2 u3), .int .u64 (k : Nat)] w (P9 w (s.touch k)) := by
  have hl := ok.len_main
  clear ok
  obtain ⟨F1, n1, d1, rfl⟩ := hs.form1
  obtain ⟨F2, n2, d2, rfl⟩ := hs.form2
  obtain ⟨F3, n3, d3, rfl⟩ := hs.form3
  have h0 := B9.start w s.c F1 n1 d1 F2 n2 d2 F3 n3 d3
  have HB := Lib.hid h0
  have hs0 := hs.below h0.low
  have KH := Lib.hid (rhas_walk hs0.g3 hl k)
  have KF := Lib.hid (rfront_walk hs0.g3 hl k)
  have HS0 := Lib.hid hs0
  have HS := Lib.hid hs
  unfold L9.touch
  obtain ⟨c, li, lo, l⟩ := s
  simp only at *
  clear h0 hs0 hs
  by_cases hin : k ∈ l
  · rw [decide_eq_true hin] at KH
    rw [if_pos hin]
    clear hin
    go_enter Try.func61, Try.ntmps61
    go_wp2_with fail
    refine KH.out.mono ?_
    rintro e w1 ⟨rfl, rfl⟩
    go_wp2_with fail
    refine KF.out.mono ?_
    rintro e w2 ⟨v2, rfl, h2⟩
    obtain ⟨Fa, na, da, rfl⟩ := h2.kv.form
    have H2 := Lib.hid (HB.out.step h2.low)
    have HV := Lib.hid h2.kv
    have HS2 := Lib.hid (HS0.out.below h2.low)
    obtain ⟨⟨x0, x1, x2, x3⟩, xf0, xf1, xf2, xf3⟩ := c4_at H2.out.box
    obtain ⟨⟨y0, y1, y2, y3⟩, yf0, yf1, yf2, yf3⟩ := c4_at H2.out.res
    clear h2 KH KF HB HS0
    go_wp2
    have HO : Hid (Only [w.heap.size, w.heap.size + 1] w2 (((((w2.setCell ⟨w.heap.size, 3, none⟩ (.slice Fa na da)).setCell ⟨w.heap.size + 1, 0, none⟩ (.int .i64 (c : Nat))).setCell ⟨w.heap.size + 1, 1, none⟩ (.slice F1 n1 d1)).setCell ⟨w.heap.size + 1, 2, none⟩ (.slice F2 n2 d2)).setCell ⟨w.heap.size + 1, 3, none⟩ (.slice Fa na da))) := Lib.hid ((((((Only.refl _ _).setCell (by simp) _).setCell (by simp) _).setCell (by simp) _).setCell (by simp) _).setCell (by simp) _)
    exact bodyPost_ret (v := .agg (l9C c (.slice F1 n1 d1) (.slice F2 n2 d2) (.slice Fa na da))) (by simp [results, Try.results61, go_sem, y0, y1, y2, y3]) rfl ⟨_, _, _, rfl, H2.out.fin HO.out, H2.out.kv HO.out HS2.out.g1, H2.out.kv HO.out HS2.out.g2, H2.out.kv HO.out HV.out⟩
  · rw [decide_eq_false hin] at KH
    rw [if_neg hin]
    clear hin
    go_enter Try.func61, Try.ntmps61
    go_wp2_with fail
    refine KH.out.mono ?_
    rintro e w1 ⟨rfl, rfl⟩
    go_wp2
    exact bodyPost_ret (v := .agg (l9C c (.slice F1 n1 d1) (.slice F2 n2 d2) (.slice F3 n3 d3))) (by simp [results, Try.results61, go_sem]) rfl ⟨_, _, _, rfl, low_two w _ _, HS.out.below (low_two w _ _)⟩
set_option maxHeartbeats 2000000 in
theorem r9drop_walk (hs : St9 w s u1 u2 u3) (ok : s.Ok) (k : Nat) : Calls Try.prog 63 #[.agg (l9C s.c u1 u2 u3), .int .u64 (k : Nat)] w (P9 w (s.drop k)) := by
  have hl1 := ok.len_inn
  have hl2 := ok.len_out
  have hl3 := ok.len_main
  clear ok
  obtain ⟨F1, n1, d1, rfl⟩ := hs.form1
  obtain ⟨F2, n2, d2, rfl⟩ := hs.form2
  obtain ⟨F3, n3, d3, rfl⟩ := hs.form3
  have HX0 := Lib.hid (Bx9.start w T9 (by decide) hs)
  unfold L9.drop
  obtain ⟨c, l1, l2, l3⟩ := s
  simp only at *
  clear hs
  have K1 := Lib.hid (rwithout_walk HX0.out.st.g1 hl1 k)
  go_enter Try.func63, Try.ntmps63
  go_wp2_with fail
  refine K1.out.mono ?_
  rintro e va ⟨oa, rfl, ha⟩
  obtain ⟨Fa, na, da, rfl⟩ := ha.kv.form
  have hxa := HX0.out.step ha.low
  obtain ⟨⟨x0, x1, x2, x3⟩, xf0, xf1, xf2, xf3⟩ := c4_at hxa.bo.box
  have hbb := (head_row hxa.bo.box).lt
  have hya := hxa.set1 ha.kv
  generalize hWa : va.setCell ⟨w.heap.size, 1, none⟩ (.slice Fa na da) = wa at hya
  have HWa := Lib.hid hWa
  have HXa := Lib.hid hya
  clear ha hWa hxa hya HX0 K1
  have K2 := Lib.hid (rwithout_walk HXa.out.st.g2 hl2 k)
  go_wp2_with fail
  rw [HWa.out]
  clear HWa
  refine K2.out.mono ?_
  rintro e vb ⟨ob, rfl, hb⟩
  obtain ⟨Fb, nb, db, rfl⟩ := hb.kv.form
  have hxb := HXa.out.step hb.low
  clear x0 x1 x2 x3 xf0 xf1 xf2 xf3 hbb
  obtain ⟨⟨x0, x1, x2, x3⟩, xf0, xf1, xf2, xf3⟩ := c4_at hxb.bo.box
  have hbb := (head_row hxb.bo.box).lt
  have hyb := hxb.set2 hb.kv
  generalize hWb : vb.setCell ⟨w.heap.size, 2, none⟩ (.slice Fb nb db) = wb at hyb
  have HWb := Lib.hid hWb
  have HXb := Lib.hid hyb
  clear hb hWb hxb hyb HXa K2
  have K3 := Lib.hid (rwithout_walk HXb.out.st.g3 hl3 k)
  go_wp2_with fail
  rw [HWb.out]
  clear HWb
  refine K3.out.mono ?_
  rintro e vc ⟨oc, rfl, hc⟩
  obtain ⟨Fc, nc, dc, rfl⟩ := hc.kv.form
  have hxc := HXb.out.step hc.low
  clear x0 x1 x2 x3 xf0 xf1 xf2 xf3 hbb
  obtain ⟨⟨x0, x1, x2, x3⟩, xf0, xf1, xf2, xf3⟩ := c4_at hxc.bo.box
  have hbb := (head_row hxc.bo.box).lt
  have hyc := hxc.set3 hc.kv
  obtain ⟨⟨y0, y1, y2, y3⟩, yf0, yf1, yf2, yf3⟩ := c4_at hxc.bo.res
  have hrr := (head_row hxc.bo.res).lt
  have HXc := Lib.hid hyc
  clear hc hxc hyc HXb K3
  go_wp2
  exact bodyPost_ret (v := .agg (l9C c (.slice Fa na da) (.slice Fb nb db) (.slice Fc nc dc))) (by simp [results, Try.results63, go_sem, y0, y1, y2, y3]) rfl HXc.out.done
/- Lists that are told lie where others lie, or in new memory. -/
def P9n (w : World) (s : L9) (u1 u2 u3 : Value) (e : Ending) (w' : World) : Prop := ∃ v1 v2 v3, e = .returned (.agg (l9C s.c v1 v2 v3)) ∧ Below w.heap.size w w' ∧ St9 w' s v1 v2 v3 ∧ Nw w.heap.size u1 v1 ∧ Nw w.heap.size u2 v2 ∧ Nw w.heap.size u3 v3
theorem P9n.p9 {e : Ending} {w' : World} (h : P9n w s u1 u2 u3 e w') : P9 w s e w' := by
  obtain ⟨v1, v2, v3, h1, h2, h3, _⟩ := h
  exact ⟨v1, v2, v3, h1, h2, h3⟩
/- Keys fall off the back of Out. -/
set_option maxHeartbeats 2000000 in
theorem r9fall_walk (hs : St9 w s u1 u2 u3) (hl : s.out.length ≤ 100000000) (hc : s.c ≤ 1048576) : Calls Try.prog 77 #[.agg (l9C s.c u1 u2 u3)] w (P9n w ⟨s.c, s.inn, s.out.take (s.c / 2), s.main⟩ u1 u2 u3) := by
  obtain ⟨F1, n1, d1, rfl⟩ := hs.form1
  obtain ⟨F2, d2, rfl, hcap, _⟩ := hs.g2.mem
  obtain ⟨F3, n3, d3, rfl⟩ := hs.form3
  have HX0 := Lib.hid (Bx9.start w T9 (by decide) hs)
  have HT : Hid (∀ W, Below w.heap.size w W → ∀ m, m ≤ s.out.length → KV W (.slice F2 m d2) (s.out.take m)) := Lib.hid (fun W hb m hm => by
    obtain ⟨F', d', e, hk⟩ := (hs.g2.below hb).take m hm
    injection e with e1 e2 e3
    subst e1 e3
    exact hk)
  obtain ⟨h, hh⟩ : ∃ h, s.c / 2 = h := ⟨_, rfl⟩
  have e2 : ((s.c : Nat) : Int).tdiv 2 = (h : Int) := by rw [Int.tdiv_eq_ediv_of_nonneg (by omega)]; omega
  have hhI : (h : Int) ≤ 1048576 := by omega
  rw [hh]
  obtain ⟨c, l1, l2, l3⟩ := s
  simp only at *
  clear hs hh
  obtain ⟨n, hn⟩ : ∃ n, l2.length = n := ⟨_, rfl⟩
  have HN := Lib.hid hn
  rw [hn] at hl HX0 HT hcap ⊢
  have HX : Hid (Bx9 w ((w.alloc (.cells (l9C c (.slice F1 n1 d1) (.slice F2 n d2) (.slice F3 n3 d3)) T9)).alloc (.cells z9 T9)) T9 w.heap.size (w.heap.size + 1) ⟨c, l1, l2.take n, l3⟩ (.slice F1 n1 d1) (.slice F2 n d2) (.slice F3 n3 d3)) := by
    rw [List.take_of_length_le (by omega)]
    exact HX0
  clear hn HX0
  go_enter Try.func77, Try.ntmps77
  go_wp2_with fail
  generalize ((w.alloc (.cells (l9C c (.slice F1 n1 d1) (.slice F2 n d2) (.slice F3 n3 d3)) T9)).alloc (.cells z9 T9)) = W0 at HX ⊢
  go_loopg [] n (fun gg wr => ∃ m : Nat, gg = m ∧ Hid ((m ≤ n ∧ h ≤ m ∨ m = n)) ∧ Hid (Bx9 w wr T9 w.heap.size (w.heap.size + 1) ⟨c, l1, l2.take m, l3⟩ (.slice F1 n1 d1) (.slice F2 m d2) (.slice F3 n3 d3)))
  case atStart => exact ⟨n, rfl, Lib.hid (.inr rfl), HX⟩
  case round =>
    obtain ⟨m, hi, HM, HI⟩ := hrel
    have hmle : m ≤ n := by
      rcases HM.out with h | h
      · exact h.1
      · omega
    obtain ⟨⟨x0, x1, x2, x3⟩, xf0, xf1, xf2, xf3⟩ := c4_at HI.out.bo.box
    have hbb := (head_row HI.out.bo.box).lt
    by_cases hgt : h < m
    · obtain ⟨k, rfl⟩ : ∃ k, m = k + 1 := ⟨m - 1, by omega⟩
      have hgtI : (h : Int) < (k : Int) + 1 := by omega
      have hkc : k ≤ d2 := by omega
      have hkcI : (k : Int) ≤ (d2 : Int) := by omega
      have HMN : Hid (k ≤ n ∧ h ≤ k ∨ k = n) := Lib.hid (.inl ⟨by omega, by omega⟩)
      have HNX := Lib.hid (HI.out.set2 (HT.out wr HI.out.bo.low k (by omega)))
      clear HM hgt
      go_wp2
      go_roundg (gk - 1)
      case measure => omega
      case rel => exact ⟨k, by omega, HMN, HNX⟩
    · have hgtI : (m : Int) ≤ (h : Int) := by omega
      have HT2 : Hid (l2.take h = l2.take m) := Lib.hid (by
        rcases HM.out with h' | h'
        · have : h = m := by omega
          rw [this]
        · have := HN.out
          rw [List.take_of_length_le (by omega), List.take_of_length_le (by omega)])
      obtain ⟨⟨y0, y1, y2, y3⟩, yf0, yf1, yf2, yf3⟩ := c4_at HI.out.bo.res
      have hrr := (head_row HI.out.bo.res).lt
      clear HM hgt
      go_wp2
      exact bodyPost_ret (v := .agg (l9C c (.slice F1 n1 d1) (.slice F2 m d2) (.slice F3 n3 d3))) (by simp [results, Try.results77, go_sem, y0, y1, y2, y3]) rfl (by rw [HT2.out]; exact ⟨_, _, _, rfl, HI.out.bo.fin HI.out.only, HI.out.bo.st9 HI.out.only HI.out.st, Nw.refl _ _, Nw.take _ _ _ hmle, Nw.refl _ _⟩)
end
end Go.Proofs.Ytiokejhplbadeaa
