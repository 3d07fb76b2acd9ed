/- Two queues: the program's own New, Touch, Drop, Has, Keys, Ghosts. -/
import Derived.Test.YtiokejhplbadeaaTqO
import Derived.Test.YtiokejhplbadeaaTqV
import Derived.Test.YtiokejhplbadeaaPoC
import Derived.Test.YtiokejhplbadeaaSqP2
namespace Go.Proofs.Ytiokejhplbadeaa
open Go Go.RowKit Go.Deep

section
variable {w : World} {u1 u2 u3 : Value} {s : L9}
theorem bounded9_walk (n : Int) (hn1 : -9223372036854775808 ≤ n) (hn2 : n ≤ 9223372036854775807) :
    Calls Try.prog 58 #[.int .i64 n] w fun e w' => e = .returned (.int .i64 (capI n : Nat)) ∧ w = w' := by
  obtain ⟨c, hc⟩ : ∃ c, capI n = c := ⟨_, rfl⟩
  have HC := Lib.hid hc
  rw [hc]
  clear hc
  by_cases h1 : n < 1
  · have H : Hid ((1 : Int) = (c : Int)) := Lib.hid (by rw [← HC.out, capI, if_pos h1]; rfl)
    go_enter Try.func58, Try.ntmps58
    go_wp2
    go_ret
    exact ⟨by rw [H.out]; rfl, rfl⟩
  · by_cases h1e : n = 1
    · subst h1e
      have H : Hid ((1 : Int) = (c : Int)) := Lib.hid (by rw [← HC.out]; rfl)
      go_enter Try.func58, Try.ntmps58
      go_wp2
      go_ret
      exact ⟨by rw [H.out]; rfl, rfl⟩
    · have h1g : 1 < n := by omega
      by_cases h2 : 1048576 < n
      · have H : Hid ((1048576 : Int) = (c : Int)) := Lib.hid (by rw [← HC.out, capI, if_neg h1, if_pos h2]; rfl)
        clear h1 h1e
        go_enter Try.func58, Try.ntmps58
        go_wp2
        go_ret
        exact ⟨by rw [H.out]; rfl, rfl⟩
      · have H : Hid (n = (c : Int)) := Lib.hid (by rw [← HC.out, capI, if_neg h1, if_neg h2]; omega)
        clear h1 h1e
        by_cases h2e : n = 1048576
        · subst h2e
          go_enter Try.func58, Try.ntmps58
          go_wp2
          go_ret
          exact ⟨by rw [← H.out]; rfl, rfl⟩
        · have h2l : n < 1048576 := by omega
          clear h2e h2
          go_enter Try.func58, Try.ntmps58
          go_wp2
          go_ret
          exact ⟨by rw [← H.out]; rfl, rfl⟩
theorem p9new_walk (n : Int) (hn1 : -9223372036854775808 ≤ n) (hn2 : n ≤ 9223372036854775807) : Calls Try.prog 34 #[.int .i64 n] w (P9 w (L9.new n)) := by
  have KK := Lib.hid (bounded9_walk (w := w.alloc (.cells z9 PT9)) n hn1 hn2)
  obtain ⟨c, hc⟩ : ∃ c, capI n = c := ⟨_, rfl⟩
  have HC : Hid (P9 w (L9.new n) = P9 w ⟨c, [], [], []⟩) := Lib.hid (by rw [← hc]; rfl)
  rw [hc] at KK
  rw [HC.out]
  clear hc HC
  go_enter Try.func34, Try.ntmps34
  go_wp2_with fail
  refine KK.out.mono ?_
  rintro e w1 ⟨rfl, rfl⟩
  go_wp2
  exact bodyPost_ret (v := .agg (l9C c (.slice none 0 0) (.slice none 0 0) (.slice none 0 0))) (by simp [results, Try.results34, go_sem]) rfl ⟨_, _, _, rfl, (Below.refl _ _).alloc (Nat.le_refl _) _, ⟨KV.nil _, KV.nil _, KV.nil _⟩⟩
theorem copy9_walk {v : Value} {ks : List Nat} (h : KV w v ks) (hl : ks.length ≤ 100000000) :
    Calls Try.prog 79 #[v] w (OwnK w ks) := by
  have H := Lib.hid h
  obtain ⟨F, n, c, rfl⟩ := h.form
  clear h
  have HN := Lib.hid (KO.nil (Below.refl w.heap.size w))
  go_enter Try.func79, Try.ntmps79
  go_wp2_with (at_builtin; refine wpList_append_kv rfl _ (.tmp 3) rfl w.heap.size (by kernel_rfl) (by kernel_rfl) (.slice none 0 0) [] rfl HN.out _ ks rfl H.out (by simp; omega) (Nat.le_refl _) ?_)
  intro v6 w6 hown6 _ _
  have HK := Lib.hid hown6
  clear hown6
  go_wp2
  go_ret
  exact ⟨_, rfl, HK.out⟩
set_option maxHeartbeats 2000000 in
theorem owned9_walk (hs : St9 w s u1 u2 u3) (ok : s.Ok) : Calls Try.prog 66 #[.agg (l9C s.c u1 u2 u3)] w (P9 w s) := by
  have hl1 := ok.len_inn
  have hl2 := ok.len_out
  have hl3 := ok.len_main
  clear ok
  obtain ⟨F1, n1, d1, rfl⟩ := hs.form1
  obtain ⟨F2, n2, d2, rfl⟩ := hs.form2
  obtain ⟨F3, n3, d3, rfl⟩ := hs.form3
  have HX0 := Lib.hid (Bx9.start w PT9 (by decide) hs)
  obtain ⟨c, l1, l2, l3⟩ := s
  simp only at *
  clear hs
  have K1 := Lib.hid (copy9_walk HX0.out.st.g1 hl1)
  go_enter Try.func66, Try.ntmps66
  go_wp2_with fail
  refine K1.out.mono ?_
  rintro e va ⟨oa, rfl, ha⟩
  obtain ⟨Fa, na, da, rfl⟩ := ha.kv.form
  have hxa := HX0.out.step ha.low
  obtain ⟨⟨x0, x1, x2, x3⟩, xf0, xf1, xf2, xf3⟩ := c4_at hxa.bo.box
  have hbb := (head_row hxa.bo.box).lt
  have hya := hxa.set1 ha.kv
  generalize hWa : va.setCell ⟨w.heap.size, 1, none⟩ (.slice Fa na da) = wa at hya
  have HWa := Lib.hid hWa
  have HXa := Lib.hid hya
  clear ha hWa hxa hya HX0 K1
  have K2 := Lib.hid (copy9_walk HXa.out.st.g2 hl2)
  go_wp2_with fail
  rw [HWa.out]
  clear HWa
  refine K2.out.mono ?_
  rintro e vb ⟨ob, rfl, hb⟩
  obtain ⟨Fb, nb, db, rfl⟩ := hb.kv.form
  have hxb := HXa.out.step hb.low
  clear x0 x1 x2 x3 xf0 xf1 xf2 xf3 hbb
  obtain ⟨⟨x0, x1, x2, x3⟩, xf0, xf1, xf2, xf3⟩ := c4_at hxb.bo.box
  have hbb := (head_row hxb.bo.box).lt
  have hyb := hxb.set2 hb.kv
  generalize hWb : vb.setCell ⟨w.heap.size, 2, none⟩ (.slice Fb nb db) = wb at hyb
  have HWb := Lib.hid hWb
  have HXb := Lib.hid hyb
  clear hb hWb hxb hyb HXa K2
  have K3 := Lib.hid (copy9_walk HXb.out.st.g3 hl3)
  go_wp2_with fail
  rw [HWb.out]
  clear HWb
  refine K3.out.mono ?_
  rintro e vc ⟨oc, rfl, hc⟩
  obtain ⟨Fc, nc, dc, rfl⟩ := hc.kv.form
  have hxc := HXb.out.step hc.low
  clear x0 x1 x2 x3 xf0 xf1 xf2 xf3 hbb
  obtain ⟨⟨x0, x1, x2, x3⟩, xf0, xf1, xf2, xf3⟩ := c4_at hxc.bo.box
  have hbb := (head_row hxc.bo.box).lt
  have hyc := hxc.set3 hc.kv
  obtain ⟨⟨y0, y1, y2, y3⟩, yf0, yf1, yf2, yf3⟩ := c4_at hxc.bo.res
  have hrr := (head_row hxc.bo.res).lt
  have HXc := Lib.hid hyc
  clear hc hxc hyc HXb K3
  go_wp2
  exact bodyPost_ret (v := .agg (l9C c (.slice Fa na da) (.slice Fb nb db) (.slice Fc nc dc))) (by simp [results, Try.results66, go_sem, y0, y1, y2, y3]) rfl HXc.out.done
set_option maxHeartbeats 2000000 in
theorem p9drop_walk (hs : St9 w s u1 u2 u3) (ok : s.Ok) (k : Nat) : Calls Try.prog 59 #[.agg (l9C s.c u1 u2 u3), .int .u64 (k : Nat)] w (P9 w (s.drop k)) := by
  have hl1 := ok.len_inn
  have hl2 := ok.len_out
  have hl3 := ok.len_main
  clear ok
  obtain ⟨F1, n1, d1, rfl⟩ := hs.form1
  obtain ⟨F2, n2, d2, rfl⟩ := hs.form2
  obtain ⟨F3, n3, d3, rfl⟩ := hs.form3
  have HX0 := Lib.hid (Bx9.start w PT9 (by decide) hs)
  unfold L9.drop
  obtain ⟨c, l1, l2, l3⟩ := s
  simp only at *
  clear hs
  have K1 := Lib.hid (without_walk HX0.out.st.g1 hl1 k)
  go_enter Try.func59, Try.ntmps59
  go_wp2_with fail
  refine K1.out.mono ?_
  rintro e va ⟨oa, rfl, ha⟩
  obtain ⟨Fa, na, da, rfl⟩ := ha.kv.form
  have hxa := HX0.out.step ha.low
  obtain ⟨⟨x0, x1, x2, x3⟩, xf0, xf1, xf2, xf3⟩ := c4_at hxa.bo.box
  have hbb := (head_row hxa.bo.box).lt
  have hya := hxa.set1 ha.kv
  generalize hWa : va.setCell ⟨w.heap.size, 1, none⟩ (.slice Fa na da) = wa at hya
  have HWa := Lib.hid hWa
  have HXa := Lib.hid hya
  clear ha hWa hxa hya HX0 K1
  have K2 := Lib.hid (without_walk HXa.out.st.g2 hl2 k)
  go_wp2_with fail
  rw [HWa.out]
  clear HWa
  refine K2.out.mono ?_
  rintro e vb ⟨ob, rfl, hb⟩
  obtain ⟨Fb, nb, db, rfl⟩ := hb.kv.form
  have hxb := HXa.out.step hb.low
  clear x0 x1 x2 x3 xf0 xf1 xf2 xf3 hbb
  obtain ⟨⟨x0, x1, x2, x3⟩, xf0, xf1, xf2, xf3⟩ := c4_at hxb.bo.box
  have hbb := (head_row hxb.bo.box).lt
  have hyb := hxb.set2 hb.kv
  generalize hWb : vb.setCell ⟨w.heap.size, 2, none⟩ (.slice Fb nb db) = wb at hyb
  have HWb := Lib.hid hWb
  have HXb := Lib.hid hyb
  clear hb hWb hxb hyb HXa K2
  have K3 := Lib.hid (without_walk HXb.out.st.g3 hl3 k)
  go_wp2_with fail
  rw [HWb.out]
  clear HWb
  refine K3.out.mono ?_
  rintro e vc ⟨oc, rfl, hc⟩
  obtain ⟨Fc, nc, dc, rfl⟩ := hc.kv.form
  have hxc := HXb.out.step hc.low
  clear x0 x1 x2 x3 xf0 xf1 xf2 xf3 hbb
  obtain ⟨⟨x0, x1, x2, x3⟩, xf0, xf1, xf2, xf3⟩ := c4_at hxc.bo.box
  have hbb := (head_row hxc.bo.box).lt
  have hyc := hxc.set3 hc.kv
  obtain ⟨⟨y0, y1, y2, y3⟩, yf0, yf1, yf2, yf3⟩ := c4_at hxc.bo.res
  have hrr := (head_row hxc.bo.res).lt
  have HXc := Lib.hid hyc
  clear hc hxc hyc HXb K3
  go_wp2
  exact bodyPost_ret (v := .agg (l9C c (.slice Fa na da) (.slice Fb nb db) (.slice Fc nc dc))) (by simp [results, Try.results59, go_sem, y0, y1, y2, y3]) rfl HXc.out.done
set_option maxHeartbeats 2000000 in
theorem p9touch_walk (hs : St9 w s u1 u2 u3) (ok : s.Ok) (k : Nat) : Calls Try.prog 46 #[.agg (l9C s.c u1 u2 u3), .int .u64 (k : Nat)] w (P9 w (s.touch k)) := by
  have hl := ok.len_main
  obtain ⟨F1, n1, d1, rfl⟩ := hs.form1
  obtain ⟨F2, n2, d2, rfl⟩ := hs.form2
  obtain ⟨F3, n3, d3, rfl⟩ := hs.form3
  have HX0 := Lib.hid (Bx9.start w PT9 (by decide) hs)
  have KO := Lib.hid (owned9_walk HX0.out.st ok)
  unfold L9.touch
  obtain ⟨c, l1, l2, l3⟩ := s
  simp only at *
  clear hs ok
  generalize hW0 : World.alloc _ (.cells z9 PT9) = W0 at HX0 KO
  have HW0 := Lib.hid hW0
  clear hW0
  by_cases hin : k ∈ l3
  · rw [if_pos hin]
    go_enter Try.func46, Try.ntmps46
    go_wp2_with fail
    rw [HW0.out]
    clear HW0
    refine KO.out.mono ?_
    rintro e w1 ⟨q1, q2, q3, he, hb1, hk1⟩
    obtain ⟨Fp1, np1, dp1, rfl⟩ := hk1.form1
    obtain ⟨Fp2, np2, dp2, rfl⟩ := hk1.form2
    obtain ⟨Fp3, np3, dp3, rfl⟩ := hk1.form3
    have he' : e = .returned (.agg (l9C c (.slice Fp1 np1 dp1) (.slice Fp2 np2 dp2) (.slice Fp3 np3 dp3))) := he
    subst he'
    have hx1 := HX0.out.step hb1
    obtain ⟨⟨x0, x1, x2, x3⟩, xf0, xf1, xf2, xf3⟩ := c4_at hx1.bo.box
    have hbb := (head_row hx1.bo.box).lt
    have hp := hx1.put hk1
    generalize hWp : ((((w1.setCell ⟨w.heap.size, 0, none⟩ (.int .i64 (c : Nat))).setCell ⟨w.heap.size, 1, none⟩ (.slice Fp1 np1 dp1)).setCell ⟨w.heap.size, 2, none⟩ (.slice Fp2 np2 dp2)).setCell ⟨w.heap.size, 3, none⟩ (.slice Fp3 np3 dp3)) = wp at hp
    have HWp := Lib.hid hWp
    have HXp := Lib.hid hp
    have KH := Lib.hid (has_walk HXp.out.st.g3 hl k)
    rw [decide_eq_true hin] at KH
    clear hin
    clear hWp hp hx1 he hb1 hk1 KO HX0
    go_wp2_with fail
    rw [HWp.out]
    clear HWp
    refine KH.out.mono ?_
    rintro e w2 ⟨rfl, rfl⟩
    clear x0 x1 x2 x3 xf0 xf1 xf2 xf3 hbb
    obtain ⟨⟨x0, x1, x2, x3⟩, xf0, xf1, xf2, xf3⟩ := c4_at HXp.out.bo.box
    have hbb := (head_row HXp.out.bo.box).lt
    have KF := Lib.hid (front_walk HXp.out.st.g3 hl k)
    clear KH
    go_wp2_with fail
    refine KF.out.mono ?_
    rintro e vf ⟨of, rfl, hf⟩
    obtain ⟨Ff, nf, df, rfl⟩ := hf.kv.form
    have hxf := HXp.out.step hf.low
    clear x0 x1 x2 x3 xf0 xf1 xf2 xf3 hbb
    obtain ⟨⟨x0, x1, x2, x3⟩, xf0, xf1, xf2, xf3⟩ := c4_at hxf.bo.box
    have hbb := (head_row hxf.bo.box).lt
    have hyf := hxf.set3 hf.kv
    obtain ⟨⟨y0, y1, y2, y3⟩, yf0, yf1, yf2, yf3⟩ := c4_at hxf.bo.res
    have hrr := (head_row hxf.bo.res).lt
    have HXf := Lib.hid hyf
    clear hf hxf hyf HXp KF
    go_wp2
    exact bodyPost_ret (v := .agg (l9C c (.slice Fp1 np1 dp1) (.slice Fp2 np2 dp2) (.slice Ff nf df))) (by simp [results, Try.results46, go_sem, y0, y1, y2, y3]) rfl HXf.out.done
  · rw [if_neg hin]
    go_enter Try.func46, Try.ntmps46
    go_wp2_with fail
    rw [HW0.out]
    clear HW0
    refine KO.out.mono ?_
    rintro e w1 ⟨q1, q2, q3, he, hb1, hk1⟩
    obtain ⟨Fp1, np1, dp1, rfl⟩ := hk1.form1
    obtain ⟨Fp2, np2, dp2, rfl⟩ := hk1.form2
    obtain ⟨Fp3, np3, dp3, rfl⟩ := hk1.form3
    have he' : e = .returned (.agg (l9C c (.slice Fp1 np1 dp1) (.slice Fp2 np2 dp2) (.slice Fp3 np3 dp3))) := he
    subst he'
    have hx1 := HX0.out.step hb1
    obtain ⟨⟨x0, x1, x2, x3⟩, xf0, xf1, xf2, xf3⟩ := c4_at hx1.bo.box
    have hbb := (head_row hx1.bo.box).lt
    have hp := hx1.put hk1
    generalize hWp : ((((w1.setCell ⟨w.heap.size, 0, none⟩ (.int .i64 (c : Nat))).setCell ⟨w.heap.size, 1, none⟩ (.slice Fp1 np1 dp1)).setCell ⟨w.heap.size, 2, none⟩ (.slice Fp2 np2 dp2)).setCell ⟨w.heap.size, 3, none⟩ (.slice Fp3 np3 dp3)) = wp at hp
    have HWp := Lib.hid hWp
    have HXp := Lib.hid hp
    have KH := Lib.hid (has_walk HXp.out.st.g3 hl k)
    rw [decide_eq_false hin] at KH
    clear hin
    clear hWp hp hx1 he hb1 hk1 KO HX0
    go_wp2_with fail
    rw [HWp.out]
    clear HWp
    refine KH.out.mono ?_
    rintro e w2 ⟨rfl, rfl⟩
    clear x0 x1 x2 x3 xf0 xf1 xf2 xf3 hbb
    obtain ⟨⟨x0, x1, x2, x3⟩, xf0, xf1, xf2, xf3⟩ := c4_at HXp.out.bo.box
    have hbb := (head_row HXp.out.bo.box).lt
    clear KH
    obtain ⟨⟨y0, y1, y2, y3⟩, yf0, yf1, yf2, yf3⟩ := c4_at HXp.out.bo.res
    have hrr := (head_row HXp.out.bo.res).lt
    go_wp2
    exact bodyPost_ret (v := .agg (l9C c (.slice Fp1 np1 dp1) (.slice Fp2 np2 dp2) (.slice Fp3 np3 dp3))) (by simp [results, Try.results46, go_sem, y0, y1, y2, y3]) rfl HXp.out.done
set_option maxHeartbeats 2000000 in
theorem p9has_walk (hs : St9 w s u1 u2 u3) (ok : s.Ok) (k : Nat) : Calls Try.prog 42 #[.agg (l9C s.c u1 u2 u3), .int .u64 (k : Nat)] w (RetB w (decide (k ∈ s.keys))) := by
  have hl1 := ok.len_inn
  have hl3 := ok.len_main
  obtain ⟨F1, n1, d1, rfl⟩ := hs.form1
  obtain ⟨F2, n2, d2, rfl⟩ := hs.form2
  obtain ⟨F3, n3, d3, rfl⟩ := hs.form3
  have HB := Lib.hid (low_one w (.cells (l9C s.c (.slice F1 n1 d1) (.slice F2 n2 d2) (.slice F3 n3 d3)) PT9))
  have K1 := Lib.hid (has_walk (hs.below HB.out).g1 hl1 k)
  have K3 := Lib.hid (has_walk (hs.below HB.out).g3 hl3 k)
  have HD : Hid (decide (k ∈ s.keys) = (decide (k ∈ s.inn) || decide (k ∈ s.main))) := Lib.hid (by simp [L9.keys])
  obtain ⟨b1, hb1⟩ : ∃ b, decide (k ∈ s.inn) = b := ⟨_, rfl⟩
  obtain ⟨b3, hb3⟩ : ∃ b, decide (k ∈ s.main) = b := ⟨_, rfl⟩
  rw [hb1, hb3] at HD
  rw [hb1] at K1
  rw [hb3] at K3
  rw [HD.out]
  obtain ⟨c, l1, l2, l3⟩ := s
  simp only at *
  clear hs ok hb1 hb3 HD
  cases b1
  · go_enter Try.func42, Try.ntmps42
    go_wp2_with fail
    refine K1.out.mono ?_
    rintro e w1 ⟨rfl, rfl⟩
    go_wp2_with fail
    refine K3.out.mono ?_
    rintro e w1 ⟨rfl, rfl⟩
    go_wp2
    go_ret
    exact ⟨by simp, HB.out⟩
  · go_enter Try.func42, Try.ntmps42
    go_wp2_with fail
    refine K1.out.mono ?_
    rintro e w1 ⟨rfl, rfl⟩
    go_wp2
    go_ret
    exact ⟨by simp, HB.out⟩
theorem size_alloc9 (w : World) (o : Obj) : (w.alloc o).heap.size = w.heap.size + 1 := by simp
set_option maxHeartbeats 1000000 in
theorem p9keys_walk (hs : St9 w s u1 u2 u3) (ok : s.Ok) : Calls Try.prog 41 #[.agg (l9C s.c u1 u2 u3)] w (RetK w s.keys) := by
  have hlk := ok.keysLen
  obtain ⟨F1, n1, d1, rfl⟩ := hs.form1
  obtain ⟨F2, n2, d2, rfl⟩ := hs.form2
  obtain ⟨F3, n3, d3, rfl⟩ := hs.form3
  have hlo := low_one w (.cells (l9C s.c (.slice F1 n1 d1) (.slice F2 n2 d2) (.slice F3 n3 d3)) PT9)
  have hs1 := hs.below hlo
  have hfl : [s.inn, s.main].flatten = s.keys := by simp [L9.keys]
  have KC := concat_walk (KVV.two hs1.g1 hs1.g3 24) (by simp) (by rw [hfl]; exact hlk)
  rw [hfl] at KC
  rw [size_alloc9] at KC
  have HC := Lib.hid KC
  have HB := Lib.hid (hlo.trans ((low_one _ (.cells #[.slice F1 n1 d1, .slice F3 n3 d3] 24)).mono hlo.size))
  generalize s.keys = ks at *
  obtain ⟨c, l1, l2, l3⟩ := s
  simp only at *
  clear hs ok hlo hs1 hfl KC
  go_enter Try.func41, Try.ntmps41
  go_wp2_with fail
  refine HC.out.mono ?_
  rintro e w2 ⟨v2, rfl, hk2⟩
  have HF := Lib.hid (And.intro (HB.out.trans (hk2.low.mono HB.out.size)) hk2.kv)
  clear hk2 HC
  go_wp2
  go_ret
  exact ⟨_, rfl, HF.out.1, HF.out.2⟩
theorem p9ghosts_walk (hs : St9 w s u1 u2 u3) (_ : s.Ok) : Calls Try.prog 43 #[.agg (l9C s.c u1 u2 u3)] w fun e w' => e = .returned (.int .i64 (s.ghosts : Nat)) ∧ Below w.heap.size w w' := by
  obtain ⟨F1, n1, d1, rfl⟩ := hs.form1
  obtain ⟨F2, d2, rfl, -⟩ := hs.g2.mem
  obtain ⟨F3, n3, d3, rfl⟩ := hs.form3
  have HB := Lib.hid (low_one w (.cells (l9C s.c (.slice F1 n1 d1) (.slice F2 s.out.length d2) (.slice F3 n3 d3)) PT9))
  unfold L9.ghosts
  clear hs
  obtain ⟨n, hn⟩ : ∃ n, s.out.length = n := ⟨_, rfl⟩
  rw [hn] at HB ⊢
  clear hn
  obtain ⟨c, l1, l2, l3⟩ := s
  simp only at *
  go_enter Try.func43, Try.ntmps43
  go_wp2
  go_ret
  exact ⟨rfl, by first | exact HB.out | exact Below.refl _ _⟩
end
end Go.Proofs.Ytiokejhplbadeaa
