/- Words and walks: TqZ TqY. -/
import Derived.Test.YtcjcddlflincdaaGreatG15
import Derived.Test.YtcjcddlflincdaaGreatG16
import Derived.Test.YtcjcddlflincdaaGreatG19
import Derived.Deep.RegionHeld3
import Derived.Deep.RegionWith
import Derived.Deep.AppendLies
import Derived.Deep.RegionLaw
import Derived.Deep.DeepCutAuto
namespace Go.Proofs.YtcjcddlflincdaaGreat
open Go Go.RowKit Go.Deep
set_option maxRecDepth 8000
section
variable {w : World} {u1 u2 u3 : Value} {s : L9}
theorem bounded9_walk (n : Int) (hn1 : -9223372036854775808 ≤ n) (hn2 : n ≤ 9223372036854775807) :
    Calls Tryz.prog 25 #[.int .i64 n] w fun e w' => e = .returned (.int .i64 (capI n : Nat)) ∧ w = w' := by
  obtain ⟨c, hc⟩ : ∃ c, capI n = c := ⟨_, rfl⟩
  have HC := Lib.hid hc
  rw [hc]
  clear hc
  by_cases h1 : n < 1
  · have H : Hid ((1 : Int) = (c : Int)) := Lib.hid (by rw [← HC.out, capI, if_pos h1]; rfl)
    go_enter Tryz.func25, Tryz.ntmps25
    go_wp2
    go_ret
    exact ⟨by rw [H.out]; rfl, rfl⟩
  · by_cases h1e : n = 1
    · subst h1e
      have H : Hid ((1 : Int) = (c : Int)) := Lib.hid (by rw [← HC.out]; rfl)
      go_enter Tryz.func25, Tryz.ntmps25
      go_wp2
      go_ret
      exact ⟨by rw [H.out]; rfl, rfl⟩
    · have h1g : 1 < n := by omega
      by_cases h2 : 1048576 < n
      · have H : Hid ((1048576 : Int) = (c : Int)) := Lib.hid (by rw [← HC.out, capI, if_neg h1, if_pos h2]; rfl)
        clear h1 h1e
        go_enter Tryz.func25, Tryz.ntmps25
        go_wp2
        go_ret
        exact ⟨by rw [H.out]; rfl, rfl⟩
      · have H : Hid (n = (c : Int)) := Lib.hid (by rw [← HC.out, capI, if_neg h1, if_neg h2]; omega)
        clear h1 h1e
        by_cases h2e : n = 1048576
        · subst h2e
          go_enter Tryz.func25, Tryz.ntmps25
          go_wp2
          go_ret
          exact ⟨by rw [← H.out]; rfl, rfl⟩
        · have h2l : n < 1048576 := by omega
          clear h2e h2
          go_enter Tryz.func25, Tryz.ntmps25
          go_wp2
          go_ret
          exact ⟨by rw [← H.out]; rfl, rfl⟩
theorem p9new_walk (n : Int) (hn1 : -9223372036854775808 ≤ n) (hn2 : n ≤ 9223372036854775807) : Calls Tryz.prog 6 #[.int .i64 n] w (P9 w (L9.new n)) := by
  have KK := Lib.hid (bounded9_walk (w := w.alloc (.cells z9 PT9)) n hn1 hn2)
  obtain ⟨c, hc⟩ : ∃ c, capI n = c := ⟨_, rfl⟩
  have HC : Hid (P9 w (L9.new n) = P9 w ⟨c, [], [], []⟩) := Lib.hid (by rw [← hc]; rfl)
  rw [hc] at KK
  rw [HC.out]
  clear hc HC
  go_enter Tryz.func6, Tryz.ntmps6
  go_wp2_with fail
  refine KK.out.mono ?_
  rintro e w1 ⟨rfl, rfl⟩
  go_wp2
  exact bodyPost_ret (v := .agg (l9C c (.slice none 0 0) (.slice none 0 0) (.slice none 0 0))) (by simp [results, Tryz.results6, go_sem]) rfl ⟨_, _, _, rfl, (Below.refl _ _).alloc (Nat.le_refl _) _, ⟨KV.nil _, KV.nil _, KV.nil _⟩⟩
theorem copy9_walk {v : Value} {ks : List Nat} (h : KV w v ks) (hl : ks.length ≤ 100000000) :
    Calls Tryz.prog 46 #[v] w (OwnK w ks) := by
  have H := Lib.hid h
  obtain ⟨F, n, c, rfl⟩ := h.form
  clear h
  have HN := Lib.hid (KO.nil (Below.refl w.heap.size w))
  go_enter Tryz.func46, Tryz.ntmps46
  go_wp2_with (at_builtin; refine wpList_append_kv rfl _ (.tmp 3) rfl w.heap.size (by kernel_rfl) (by kernel_rfl) (.slice none 0 0) [] rfl HN.out _ ks rfl H.out (by simp; omega) (Nat.le_refl _) ?_)
  intro v6 w6 hown6 _ _
  have HK := Lib.hid hown6
  clear hown6
  go_wp2
  go_ret
  exact ⟨_, rfl, HK.out⟩
set_option maxHeartbeats 2000000 in
theorem owned9_walk (hs : St9 w s u1 u2 u3) (ok : s.Ok) : Calls Tryz.prog 27 #[.agg (l9C s.c u1 u2 u3)] w (P9 w s) := by
  have hl1 := ok.len_inn
  have hl2 := ok.len_out
  have hl3 := ok.len_main
  clear ok
  obtain ⟨F1, n1, d1, rfl⟩ := hs.form1
  obtain ⟨F2, n2, d2, rfl⟩ := hs.form2
  obtain ⟨F3, n3, d3, rfl⟩ := hs.form3
  have HX0 := Lib.hid (Bx9.start w PT9 (by decide) hs)
  obtain ⟨c, l1, l2, l3⟩ := s
  simp only at *
  clear hs
  have K1 := Lib.hid (copy9_walk HX0.out.st.g1 hl1)
  go_enter Tryz.func27, Tryz.ntmps27
  go_wp2_with fail
  refine K1.out.mono ?_
  rintro e va ⟨oa, rfl, ha⟩
  obtain ⟨Fa, na, da, rfl⟩ := ha.kv.form
  have hxa := HX0.out.step ha.low
  obtain ⟨⟨x0, x1, x2, x3⟩, xf0, xf1, xf2, xf3⟩ := c4_at hxa.bo.box
  have hbb := (head_row hxa.bo.box).lt
  have hya := hxa.set1 ha.kv
  generalize hWa : va.setCell ⟨w.heap.size, 1, none⟩ (.slice Fa na da) = wa at hya
  have HWa := Lib.hid hWa
  have HXa := Lib.hid hya
  clear ha hWa hxa hya HX0 K1
  have K2 := Lib.hid (copy9_walk HXa.out.st.g2 hl2)
  go_wp2_with fail
  rw [HWa.out]
  clear HWa
  refine K2.out.mono ?_
  rintro e vb ⟨ob, rfl, hb⟩
  obtain ⟨Fb, nb, db, rfl⟩ := hb.kv.form
  have hxb := HXa.out.step hb.low
  clear x0 x1 x2 x3 xf0 xf1 xf2 xf3 hbb
  obtain ⟨⟨x0, x1, x2, x3⟩, xf0, xf1, xf2, xf3⟩ := c4_at hxb.bo.box
  have hbb := (head_row hxb.bo.box).lt
  have hyb := hxb.set2 hb.kv
  generalize hWb : vb.setCell ⟨w.heap.size, 2, none⟩ (.slice Fb nb db) = wb at hyb
  have HWb := Lib.hid hWb
  have HXb := Lib.hid hyb
  clear hb hWb hxb hyb HXa K2
  have K3 := Lib.hid (copy9_walk HXb.out.st.g3 hl3)
  go_wp2_with fail
  rw [HWb.out]
  clear HWb
  refine K3.out.mono ?_
  rintro e vc ⟨oc, rfl, hc⟩
  obtain ⟨Fc, nc, dc, rfl⟩ := hc.kv.form
  have hxc := HXb.out.step hc.low
  clear x0 x1 x2 x3 xf0 xf1 xf2 xf3 hbb
  obtain ⟨⟨x0, x1, x2, x3⟩, xf0, xf1, xf2, xf3⟩ := c4_at hxc.bo.box
  have hbb := (head_row hxc.bo.box).lt
  have hyc := hxc.set3 hc.kv
  obtain ⟨⟨y0, y1, y2, y3⟩, yf0, yf1, yf2, yf3⟩ := c4_at hxc.bo.res
  have hrr := (head_row hxc.bo.res).lt
  have HXc := Lib.hid hyc
  clear hc hxc hyc HXb K3
  go_wp2
  exact bodyPost_ret (v := .agg (l9C c (.slice Fa na da) (.slice Fb nb db) (.slice Fc nc dc))) (by simp [results, Tryz.results27, go_sem, y0, y1, y2, y3]) rfl HXc.out.done
set_option maxHeartbeats 2000000 in
theorem p9drop_walk (hs : St9 w s u1 u2 u3) (ok : s.Ok) (k : Nat) : Calls Tryz.prog 11 #[.agg (l9C s.c u1 u2 u3), .int .u64 (k : Nat)] w (P9 w (s.drop k)) := by
  have hl1 := ok.len_inn
  have hl2 := ok.len_out
  have hl3 := ok.len_main
  clear ok
  obtain ⟨F1, n1, d1, rfl⟩ := hs.form1
  obtain ⟨F2, n2, d2, rfl⟩ := hs.form2
  obtain ⟨F3, n3, d3, rfl⟩ := hs.form3
  have HX0 := Lib.hid (Bx9.start w PT9 (by decide) hs)
  unfold L9.drop
  obtain ⟨c, l1, l2, l3⟩ := s
  simp only at *
  clear hs
  have K1 := Lib.hid (without_walk HX0.out.st.g1 hl1 k)
  go_enter Tryz.func11, Tryz.ntmps11
  go_wp2_with fail
  refine K1.out.mono ?_
  rintro e va ⟨oa, rfl, ha⟩
  obtain ⟨Fa, na, da, rfl⟩ := ha.kv.form
  have hxa := HX0.out.step ha.low
  obtain ⟨⟨x0, x1, x2, x3⟩, xf0, xf1, xf2, xf3⟩ := c4_at hxa.bo.box
  have hbb := (head_row hxa.bo.box).lt
  have hya := hxa.set1 ha.kv
  generalize hWa : va.setCell ⟨w.heap.size, 1, none⟩ (.slice Fa na da) = wa at hya
  have HWa := Lib.hid hWa
  have HXa := Lib.hid hya
  clear ha hWa hxa hya HX0 K1
  have K2 := Lib.hid (without_walk HXa.out.st.g2 hl2 k)
  go_wp2_with fail
  rw [HWa.out]
  clear HWa
  refine K2.out.mono ?_
  rintro e vb ⟨ob, rfl, hb⟩
  obtain ⟨Fb, nb, db, rfl⟩ := hb.kv.form
  have hxb := HXa.out.step hb.low
  clear x0 x1 x2 x3 xf0 xf1 xf2 xf3 hbb
  obtain ⟨⟨x0, x1, x2, x3⟩, xf0, xf1, xf2, xf3⟩ := c4_at hxb.bo.box
  have hbb := (head_row hxb.bo.box).lt
  have hyb := hxb.set2 hb.kv
  generalize hWb : vb.setCell ⟨w.heap.size, 2, none⟩ (.slice Fb nb db) = wb at hyb
  have HWb := Lib.hid hWb
  have HXb := Lib.hid hyb
  clear hb hWb hxb hyb HXa K2
  have K3 := Lib.hid (without_walk HXb.out.st.g3 hl3 k)
  go_wp2_with fail
  rw [HWb.out]
  clear HWb
  refine K3.out.mono ?_
  rintro e vc ⟨oc, rfl, hc⟩
  obtain ⟨Fc, nc, dc, rfl⟩ := hc.kv.form
  have hxc := HXb.out.step hc.low
  clear x0 x1 x2 x3 xf0 xf1 xf2 xf3 hbb
  obtain ⟨⟨x0, x1, x2, x3⟩, xf0, xf1, xf2, xf3⟩ := c4_at hxc.bo.box
  have hbb := (head_row hxc.bo.box).lt
  have hyc := hxc.set3 hc.kv
  obtain ⟨⟨y0, y1, y2, y3⟩, yf0, yf1, yf2, yf3⟩ := c4_at hxc.bo.res
  have hrr := (head_row hxc.bo.res).lt
  have HXc := Lib.hid hyc
  clear hc hxc hyc HXb K3
  go_wp2
  exact bodyPost_ret (v := .agg (l9C c (.slice Fa na da) (.slice Fb nb db) (.slice Fc nc dc))) (by simp [results, Tryz.results11, go_sem, y0, y1, y2, y3]) rfl HXc.out.done
set_option maxHeartbeats 2000000 in
theorem p9touch_walk (hs : St9 w s u1 u2 u3) (ok : s.Ok) (k : Nat) : Calls Tryz.prog 9 #[.agg (l9C s.c u1 u2 u3), .int .u64 (k : Nat)] w (P9 w (s.touch k)) := by
  have hl := ok.len_main
  obtain ⟨F1, n1, d1, rfl⟩ := hs.form1
  obtain ⟨F2, n2, d2, rfl⟩ := hs.form2
  obtain ⟨F3, n3, d3, rfl⟩ := hs.form3
  have HX0 := Lib.hid (Bx9.start w PT9 (by decide) hs)
  have KO := Lib.hid (owned9_walk HX0.out.st ok)
  unfold L9.touch
  obtain ⟨c, l1, l2, l3⟩ := s
  simp only at *
  clear hs ok
  generalize hW0 : World.alloc _ (.cells z9 PT9) = W0 at HX0 KO
  have HW0 := Lib.hid hW0
  clear hW0
  by_cases hin : k ∈ l3
  · rw [if_pos hin]
    go_enter Tryz.func9, Tryz.ntmps9
    go_wp2_with fail
    rw [HW0.out]
    clear HW0
    refine KO.out.mono ?_
    rintro e w1 ⟨q1, q2, q3, he, hb1, hk1⟩
    obtain ⟨Fp1, np1, dp1, rfl⟩ := hk1.form1
    obtain ⟨Fp2, np2, dp2, rfl⟩ := hk1.form2
    obtain ⟨Fp3, np3, dp3, rfl⟩ := hk1.form3
    have he' : e = .returned (.agg (l9C c (.slice Fp1 np1 dp1) (.slice Fp2 np2 dp2) (.slice Fp3 np3 dp3))) := he
    subst he'
    have hx1 := HX0.out.step hb1
    obtain ⟨⟨x0, x1, x2, x3⟩, xf0, xf1, xf2, xf3⟩ := c4_at hx1.bo.box
    have hbb := (head_row hx1.bo.box).lt
    have hp := hx1.put hk1
    generalize hWp : ((((w1.setCell ⟨w.heap.size, 0, none⟩ (.int .i64 (c : Nat))).setCell ⟨w.heap.size, 1, none⟩ (.slice Fp1 np1 dp1)).setCell ⟨w.heap.size, 2, none⟩ (.slice Fp2 np2 dp2)).setCell ⟨w.heap.size, 3, none⟩ (.slice Fp3 np3 dp3)) = wp at hp
    have HWp := Lib.hid hWp
    have HXp := Lib.hid hp
    have KH := Lib.hid (has_walk HXp.out.st.g3 hl k)
    rw [decide_eq_true hin] at KH
    clear hin
    clear hWp hp hx1 he hb1 hk1 KO HX0
    go_wp2_with fail
    rw [HWp.out]
    clear HWp
    refine KH.out.mono ?_
    rintro e w2 ⟨rfl, rfl⟩
    clear x0 x1 x2 x3 xf0 xf1 xf2 xf3 hbb
    obtain ⟨⟨x0, x1, x2, x3⟩, xf0, xf1, xf2, xf3⟩ := c4_at HXp.out.bo.box
    have hbb := (head_row HXp.out.bo.box).lt
    have KF := Lib.hid (kfront_walk HXp.out.st.g3 hl k)
    clear KH
    go_wp2_with fail
    refine KF.out.mono ?_
    rintro e vf ⟨of, rfl, hf⟩
    obtain ⟨Ff, nf, df, rfl⟩ := hf.kv.form
    have hxf := HXp.out.step hf.low
    clear x0 x1 x2 x3 xf0 xf1 xf2 xf3 hbb
    obtain ⟨⟨x0, x1, x2, x3⟩, xf0, xf1, xf2, xf3⟩ := c4_at hxf.bo.box
    have hbb := (head_row hxf.bo.box).lt
    have hyf := hxf.set3 hf.kv
    obtain ⟨⟨y0, y1, y2, y3⟩, yf0, yf1, yf2, yf3⟩ := c4_at hxf.bo.res
    have hrr := (head_row hxf.bo.res).lt
    have HXf := Lib.hid hyf
    clear hf hxf hyf HXp KF
    go_wp2
    exact bodyPost_ret (v := .agg (l9C c (.slice Fp1 np1 dp1) (.slice Fp2 np2 dp2) (.slice Ff nf df))) (by simp [results, Tryz.results9, go_sem, y0, y1, y2, y3]) rfl HXf.out.done
  · rw [if_neg hin]
    go_enter Tryz.func9, Tryz.ntmps9
    go_wp2_with fail
    rw [HW0.out]
    clear HW0
    refine KO.out.mono ?_
    rintro e w1 ⟨q1, q2, q3, he, hb1, hk1⟩
    obtain ⟨Fp1, np1, dp1, rfl⟩ := hk1.form1
    obtain ⟨Fp2, np2, dp2, rfl⟩ := hk1.form2
    obtain ⟨Fp3, np3, dp3, rfl⟩ := hk1.form3
    have he' : e = .returned (.agg (l9C c (.slice Fp1 np1 dp1) (.slice Fp2 np2 dp2) (.slice Fp3 np3 dp3))) := he
    subst he'
    have hx1 := HX0.out.step hb1
    obtain ⟨⟨x0, x1, x2, x3⟩, xf0, xf1, xf2, xf3⟩ := c4_at hx1.bo.box
    have hbb := (head_row hx1.bo.box).lt
    have hp := hx1.put hk1
    generalize hWp : ((((w1.setCell ⟨w.heap.size, 0, none⟩ (.int .i64 (c : Nat))).setCell ⟨w.heap.size, 1, none⟩ (.slice Fp1 np1 dp1)).setCell ⟨w.heap.size, 2, none⟩ (.slice Fp2 np2 dp2)).setCell ⟨w.heap.size, 3, none⟩ (.slice Fp3 np3 dp3)) = wp at hp
    have HWp := Lib.hid hWp
    have HXp := Lib.hid hp
    have KH := Lib.hid (has_walk HXp.out.st.g3 hl k)
    rw [decide_eq_false hin] at KH
    clear hin
    clear hWp hp hx1 he hb1 hk1 KO HX0
    go_wp2_with fail
    rw [HWp.out]
    clear HWp
    refine KH.out.mono ?_
    rintro e w2 ⟨rfl, rfl⟩
    clear x0 x1 x2 x3 xf0 xf1 xf2 xf3 hbb
    obtain ⟨⟨x0, x1, x2, x3⟩, xf0, xf1, xf2, xf3⟩ := c4_at HXp.out.bo.box
    have hbb := (head_row HXp.out.bo.box).lt
    clear KH
    obtain ⟨⟨y0, y1, y2, y3⟩, yf0, yf1, yf2, yf3⟩ := c4_at HXp.out.bo.res
    have hrr := (head_row HXp.out.bo.res).lt
    go_wp2
    exact bodyPost_ret (v := .agg (l9C c (.slice Fp1 np1 dp1) (.slice Fp2 np2 dp2) (.slice Fp3 np3 dp3))) (by simp [results, Tryz.results9, go_sem, y0, y1, y2, y3]) rfl HXp.out.done
set_option maxHeartbeats 2000000 in
theorem p9has_walk (hs : St9 w s u1 u2 u3) (ok : s.Ok) (k : Nat) : Calls Tryz.prog 8 #[.agg (l9C s.c u1 u2 u3), .int .u64 (k : Nat)] w (RetB w (decide (k ∈ s.keys))) := by
  have hl1 := ok.len_inn
  have hl3 := ok.len_main
  obtain ⟨F1, n1, d1, rfl⟩ := hs.form1
  obtain ⟨F2, n2, d2, rfl⟩ := hs.form2
  obtain ⟨F3, n3, d3, rfl⟩ := hs.form3
  have HB := Lib.hid (low_one w (.cells (l9C s.c (.slice F1 n1 d1) (.slice F2 n2 d2) (.slice F3 n3 d3)) PT9))
  have K1 := Lib.hid (has_walk (hs.below HB.out).g1 hl1 k)
  have K3 := Lib.hid (has_walk (hs.below HB.out).g3 hl3 k)
  have HD : Hid (decide (k ∈ s.keys) = (decide (k ∈ s.inn) || decide (k ∈ s.main))) := Lib.hid (by simp [L9.keys])
  obtain ⟨b1, hb1⟩ : ∃ b, decide (k ∈ s.inn) = b := ⟨_, rfl⟩
  obtain ⟨b3, hb3⟩ : ∃ b, decide (k ∈ s.main) = b := ⟨_, rfl⟩
  rw [hb1, hb3] at HD
  rw [hb1] at K1
  rw [hb3] at K3
  rw [HD.out]
  obtain ⟨c, l1, l2, l3⟩ := s
  simp only at *
  clear hs ok hb1 hb3 HD
  cases b1
  · go_enter Tryz.func8, Tryz.ntmps8
    go_wp2_with fail
    refine K1.out.mono ?_
    rintro e w1 ⟨rfl, rfl⟩
    go_wp2_with fail
    refine K3.out.mono ?_
    rintro e w1 ⟨rfl, rfl⟩
    go_wp2
    go_ret
    exact ⟨by simp, HB.out⟩
  · go_enter Tryz.func8, Tryz.ntmps8
    go_wp2_with fail
    refine K1.out.mono ?_
    rintro e w1 ⟨rfl, rfl⟩
    go_wp2
    go_ret
    exact ⟨by simp, HB.out⟩
theorem size_alloc9 (w : World) (o : Obj) : (w.alloc o).heap.size = w.heap.size + 1 := by simp
set_option maxHeartbeats 1000000 in
theorem p9keys_walk (hs : St9 w s u1 u2 u3) (ok : s.Ok) : Calls Tryz.prog 17 #[.agg (l9C s.c u1 u2 u3)] w (RetK w s.keys) := by
  have hlk := ok.keysLen
  obtain ⟨F1, n1, d1, rfl⟩ := hs.form1
  obtain ⟨F2, n2, d2, rfl⟩ := hs.form2
  obtain ⟨F3, n3, d3, rfl⟩ := hs.form3
  have hlo := low_one w (.cells (l9C s.c (.slice F1 n1 d1) (.slice F2 n2 d2) (.slice F3 n3 d3)) PT9)
  have hs1 := hs.below hlo
  have hfl : [s.inn, s.main].flatten = s.keys := by simp [L9.keys]
  have KC := concat_walk (KVV.two hs1.g1 hs1.g3 26) (by simp) (by rw [hfl]; exact hlk)
  rw [hfl] at KC
  rw [size_alloc9] at KC
  have HC := Lib.hid KC
  have HB := Lib.hid (hlo.trans ((low_one _ (.cells #[.slice F1 n1 d1, .slice F3 n3 d3] 26)).mono hlo.size))
  generalize s.keys = ks at *
  obtain ⟨c, l1, l2, l3⟩ := s
  simp only at *
  clear hs ok hlo hs1 hfl KC
  go_enter Tryz.func17, Tryz.ntmps17
  go_wp2_with fail
  refine HC.out.mono ?_
  rintro e w2 ⟨v2, rfl, hk2⟩
  have HF := Lib.hid (And.intro (HB.out.trans (hk2.low.mono HB.out.size)) hk2.kv)
  clear hk2 HC
  go_wp2
  go_ret
  exact ⟨_, rfl, HF.out.1, HF.out.2⟩
theorem p9ghosts_walk (hs : St9 w s u1 u2 u3) (_ : s.Ok) : Calls Tryz.prog 19 #[.agg (l9C s.c u1 u2 u3)] w fun e w' => e = .returned (.int .i64 (s.ghosts : Nat)) ∧ Below w.heap.size w w' := by
  obtain ⟨F1, n1, d1, rfl⟩ := hs.form1
  obtain ⟨F2, d2, rfl, -⟩ := hs.g2.mem
  obtain ⟨F3, n3, d3, rfl⟩ := hs.form3
  have HB := Lib.hid (low_one w (.cells (l9C s.c (.slice F1 n1 d1) (.slice F2 s.out.length d2) (.slice F3 n3 d3)) PT9))
  unfold L9.ghosts
  clear hs
  obtain ⟨n, hn⟩ : ∃ n, s.out.length = n := ⟨_, rfl⟩
  rw [hn] at HB ⊢
  clear hn
  obtain ⟨c, l1, l2, l3⟩ := s
  simp only at *
  go_enter Tryz.func19, Tryz.ntmps19
  go_wp2
  go_ret
  exact ⟨rfl, by first | exact HB.out | exact Below.refl _ _⟩
end
set_option maxRecDepth 8000
section
variable {w : World} {u1 u2 u3 : Value} {s : L9}
theorem kin9_walk (c : Nat) (hc : c ≤ 1048576) : Calls Tryz.prog 49 #[.int .i64 (c : Nat)] w fun e w' => e = .returned (.int .i64 (kin9 c : Nat)) ∧ w = w' := by
  obtain ⟨q, hq⟩ : ∃ q, c / 4 = q := ⟨_, rfl⟩
  have e4 : ((c : Nat) : Int).tdiv 4 = (q : Int) := by rw [Int.tdiv_eq_ediv_of_nonneg (by omega)]; omega
  have HK : Hid (kin9 c = max q 1) := Lib.hid (by rw [← hq]; rfl)
  have hqI : (q : Int) ≤ 1048576 := by omega
  clear hq hc
  rcases (by omega : q = 0 ∨ q = 1 ∨ 1 < q) with rfl | rfl | hq
  · go_enter Tryz.func49, Tryz.ntmps49
    go_wp2
    go_ret
    exact ⟨by rw [HK.out]; rfl, rfl⟩
  · go_enter Tryz.func49, Tryz.ntmps49
    go_wp2
    go_ret
    exact ⟨by rw [HK.out]; rfl, rfl⟩
  · have hq1 : (1 : Int) < (q : Int) := by omega
    go_enter Tryz.func49, Tryz.ntmps49
    go_wp2
    go_ret
    exact ⟨by rw [HK.out, Nat.max_eq_left (by omega)]; rfl, rfl⟩
theorem kout9_walk (c : Nat) (hc : c ≤ 1048576) : Calls Tryz.prog 71 #[.int .i64 (c : Nat)] w fun e w' => e = .returned (.int .i64 (c / 2 : Nat)) ∧ w = w' := by
  obtain ⟨q, hq⟩ : ∃ q, c / 2 = q := ⟨_, rfl⟩
  have e4 : ((c : Nat) : Int).tdiv 2 = (q : Int) := by rw [Int.tdiv_eq_ediv_of_nonneg (by omega)]; omega
  have hqI : (q : Int) ≤ 1048576 := by omega
  rw [hq]
  clear hq hc
  go_enter Tryz.func71, Tryz.ntmps71
  go_wp2
  go_ret
  exact ⟨rfl, rfl⟩
def Cut9 (w0 w : World) (b r : Nat) (s : L9) (e : Ending) (w' : World) : Prop := ∃ v1 v2 v3, e = .returned (.tuple #[]) ∧ Bx9 w0 w' PT9 b r s v1 v2 v3 ∧ ∀ v ks, KV w v ks → KV w' v ks
set_option maxHeartbeats 1000000 in
theorem cut9_in {w0 : World} {b r i m n1 d1 c h : Nat} {F1 F2 F3 : Option Addr} {n2 d2 n3 d3 : Nat} {ad : Addr} {l1 l2 l3 ys : List Nat} (hi9 : (i : Int) ≤ 100000000) (HX : Hid (Bx9 w0 w PT9 b r ⟨c, l1, l2, l3⟩ (.slice F1 n1 d1) (.slice F2 n2 d2) (.slice F3 n3 d3)))
    (hd : d1 = i ∧ n1 = i ∨ d1 ≠ i ∧ F1 = some ad) (hcap : n1 ≤ d1) (h1 : n1 ≤ 1048576) (hi : i ≤ n1) (hhI : (h : Int) ≤ 1048576)
    (HV : Hid (KVV (w.alloc (.cells #[tailV F1 n1 d1 i, .slice F2 n2 d2] 26)) (.slice (some ⟨w.heap.size, 0, none⟩) 2 2) [l1.drop i, l2]))
    (HC : Hid (∀ (W : World) (v : Value), KVV W v [l1.drop i, l2] → Calls Tryz.prog 35 #[v] W (OwnK W ys))) (hll : ys.length ≤ 100000000)
    (KK : Hid (∀ (W : World), Calls Tryz.prog 71 #[.int .i64 (c : Nat)] W fun e w' => e = .returned (.int .i64 (h : Nat)) ∧ W = w'))
    (hl1 : l1.length ≤ 100000000) (hl3 : l3.length ≤ 100000000) (hm : m ≤ 100000000) :
    Calls Tryz.prog 50 #[.pointer (some ⟨b, 0, none⟩), .int .i64 (i : Nat), .int .i64 (m : Nat)] w (Cut9 w0 w b r ⟨c, l1.take i, ys.take h, l3.take m⟩) := by
  have HSS : Hid (∀ w' : World, Below w.heap.size w w' → w'.cell? ⟨b, 0, none⟩ = some (.int .i64 (c : Nat)) ∧ w'.cell? ⟨b, 1, none⟩ = some (.slice F1 n1 d1) ∧ w'.cell? ⟨b, 2, none⟩ = some (.slice F2 n2 d2) ∧ w'.cell? ⟨b, 3, none⟩ = some (.slice F3 n3 d3)) := Lib.hid (fun w' hb => by
    obtain ⟨⟨x0, x1, x2, x3⟩, _⟩ := c4_at (HX.out.step hb).bo.box
    exact ⟨x0, x1, x2, x3⟩)
  have hblt := (head_row HX.out.bo.box).lt
  have hbne : b ≠ w.heap.size := by omega
  have hbne2 : w.heap.size ≠ b := by omega
  rcases hd with ⟨hd1, hd2⟩ | ⟨hd1, rfl⟩
  · obtain rfl : n1 = i := hd2
    obtain rfl : n1 = d1 := hd1.symm
    rw [show tailV F1 n1 n1 n1 = .slice F1 0 0 by simp [tailV]] at HV
    clear hd1 hcap hi
    obtain ⟨x0, x1, x2, x3⟩ := HSS.out w (Below.refl _ _)
    go_enter Tryz.func50, Tryz.ntmps50
    go_wp2_with fail
    go_cut [] (fun wx => ∃ Fa na da, Bx9 w0 wx PT9 b r ⟨c, l1, ys.take h, l3⟩ (.slice F1 n1 n1) (.slice Fa na da) (.slice F3 n3 d3) ∧ ∀ v ks, KV w v ks → KV wx v ks)
    case first =>
      go_region_law
        (first
          | (go_simp; go_at_call 35; refine (HC.out _ _ (HV.out.below (below_drewn (Below.refl _ _) _))).mono ?_; rintro e wa ⟨va, rfl, ha⟩; have hba := (below_drewn (low_one w (.cells #[.slice F1 0 0, .slice F2 n2 d2] 26)) _).trans (ha.low.mono (by simp)); obtain ⟨kk0, kk1, kk2, kk3⟩ := HSS.out wa hba)
          | (go_simp; go_at_call 71; refine (KK.out _).mono ?_; rintro e wk ⟨rfl, rfl⟩)
          | (go_simp; go_at_call 70; refine (fall_walk ha.kv hll _ (by omega) (by omega)).mono ?_; rintro e wb ⟨v1, v2, rfl, hbb, hk1, hk2⟩; obtain ⟨Fa, na, da, rfl⟩ := hk2.form; have hbb2 := hba.trans (hbb.mono hba.size); obtain ⟨⟨xx0, xx1, xx2, xx3⟩, ff0, ff1, ff2, ff3⟩ := c4_at (HX.out.step hbb2).bo.box; have hlt9 := (head_row (HX.out.step hbb2).bo.box).lt))
      all_goals
        go_wp2_with fail
        go_meet
        rw [Int.toNat_natCast] at hk2
        exact ⟨_, _, _, (HX.out.step hbb2).set2 hk2, fun v ks hk => (HX.out.step hbb2).kv (hk.below hbb2)⟩
    case rest =>
      obtain ⟨Fa, na, da, hxc, hkp⟩ := hcut
      have HXa := Lib.hid hxc
      have HKP := Lib.hid hkp
      have KF1 := Lib.hid (fall_walk HXa.out.st.g1 hl1 (n1 : Nat) (by omega) (by omega))
      clear hxc hkp x0 x1 x2 x3 HC HV KK HSS HX hblt hbne hbne2 hll
      obtain ⟨⟨x0, x1, x2, x3⟩, xf0, xf1, xf2, xf3⟩ := c4_at HXa.out.bo.box
      go_wp2_with fail
      refine KF1.out.mono ?_
      rintro e wb ⟨v1, v2, rfl, hbb, hk1, hk2⟩
      obtain ⟨Fb, nb, db, rfl⟩ := hk2.form
      rw [Int.toNat_natCast] at hk2
      have hx := HXa.out.step hbb
      have hy := hx.set1 hk2
      clear x0 x1 x2 x3 xf0 xf1 xf2 xf3
      obtain ⟨⟨x0, x1, x2, x3⟩, xf0, xf1, xf2, xf3⟩ := c4_at hx.bo.box
      have hbb9 := (head_row hx.bo.box).lt
      have HKQ := Lib.hid (fun v ks hk => hx.kv (i := 1) (x := .slice Fb nb db) ((HKP.out v ks hk).below hbb))
      generalize hWb : wb.setCell ⟨b, 1, none⟩ (.slice Fb nb db) = wd at hy HKQ
      have HWb := Lib.hid hWb
      have HXd := Lib.hid hy
      have KF3 := Lib.hid (fall_walk HXd.out.st.g3 hl3 (m : Nat) (by omega) (by omega))
      clear hWb hx hy hbb hk1 hk2 HXa HKP KF1
      go_wp2_with fail
      rw [HWb.out]
      refine KF3.out.mono ?_
      rintro e we ⟨v1, v2, rfl, hbe, hk1, hk2⟩
      obtain ⟨Fe, ne, de, rfl⟩ := hk2.form
      rw [Int.toNat_natCast] at hk2
      have hx := HXd.out.step hbe
      have HXe := Lib.hid (hx.set3 hk2)
      have HKE := Lib.hid (fun v ks hk => hx.kv (i := 3) (x := .slice Fe ne de) ((HKQ.out v ks hk).below hbe))
      clear x0 x1 x2 x3 xf0 xf1 xf2 xf3 hbb9
      obtain ⟨⟨x0, x1, x2, x3⟩, xf0, xf1, xf2, xf3⟩ := c4_at hx.bo.box
      have hbb9 := (head_row hx.bo.box).lt
      clear hx hbe hk1 hk2 KF3 HXd HKQ HWb
      go_wp2
      exact bodyPost_ret (v := .tuple #[]) (by simp [results, Tryz.results50, go_sem]) rfl ⟨_, _, _, rfl, HXe.out, HKE.out⟩
  · rw [show tailV (some ad) n1 d1 i = .slice (some (ad.add i)) (n1 - i) (d1 - i) by simp [tailV, hd1]] at HV
    have hiI : (i : Int) ≤ (n1 : Int) := by omega
    have hidI : (i : Int) ≤ (d1 : Int) := by omega
    have hid1 : i ≤ d1 := by omega
    obtain ⟨x0, x1, x2, x3⟩ := HSS.out w (Below.refl _ _)
    go_enter Tryz.func50, Tryz.ntmps50
    go_wp2_with fail
    go_cut [] (fun wx => ∃ Fa na da, Bx9 w0 wx PT9 b r ⟨c, l1, ys.take h, l3⟩ (.slice (some ad) n1 d1) (.slice Fa na da) (.slice F3 n3 d3) ∧ ∀ v ks, KV w v ks → KV wx v ks)
    case first =>
      go_region_law
        (first
          | (go_simp; go_at_call 35; refine (HC.out _ _ (HV.out.below (below_drewn (Below.refl _ _) _))).mono ?_; rintro e wa ⟨va, rfl, ha⟩; have hba := (below_drewn (low_one w (.cells #[.slice (some (ad.add i)) (n1 - i) (d1 - i), .slice F2 n2 d2] 26)) _).trans (ha.low.mono (by simp)); obtain ⟨kk0, kk1, kk2, kk3⟩ := HSS.out wa hba)
          | (go_simp; go_at_call 71; refine (KK.out _).mono ?_; rintro e wk ⟨rfl, rfl⟩)
          | (go_simp; go_at_call 70; refine (fall_walk ha.kv hll _ (by omega) (by omega)).mono ?_; rintro e wb ⟨v1, v2, rfl, hbb, hk1, hk2⟩; obtain ⟨Fa, na, da, rfl⟩ := hk2.form; have hbb2 := hba.trans (hbb.mono hba.size); obtain ⟨⟨xx0, xx1, xx2, xx3⟩, ff0, ff1, ff2, ff3⟩ := c4_at (HX.out.step hbb2).bo.box; have hlt9 := (head_row (HX.out.step hbb2).bo.box).lt))
      all_goals
        go_wp2_with fail
        go_meet
        rw [Int.toNat_natCast] at hk2
        exact ⟨_, _, _, (HX.out.step hbb2).set2 hk2, fun v ks hk => (HX.out.step hbb2).kv (hk.below hbb2)⟩
    case rest =>
      obtain ⟨Fa, na, da, hxc, hkp⟩ := hcut
      have HXa := Lib.hid hxc
      have HKP := Lib.hid hkp
      have KF1 := Lib.hid (fall_walk HXa.out.st.g1 hl1 (i : Nat) (by omega) (by omega))
      clear hxc hkp x0 x1 x2 x3 HC HV KK HSS HX hblt hbne hbne2 hll
      obtain ⟨⟨x0, x1, x2, x3⟩, xf0, xf1, xf2, xf3⟩ := c4_at HXa.out.bo.box
      go_wp2_with fail
      refine KF1.out.mono ?_
      rintro e wb ⟨v1, v2, rfl, hbb, hk1, hk2⟩
      obtain ⟨Fb, nb, db, rfl⟩ := hk2.form
      rw [Int.toNat_natCast] at hk2
      have hx := HXa.out.step hbb
      have hy := hx.set1 hk2
      clear x0 x1 x2 x3 xf0 xf1 xf2 xf3
      obtain ⟨⟨x0, x1, x2, x3⟩, xf0, xf1, xf2, xf3⟩ := c4_at hx.bo.box
      have hbb9 := (head_row hx.bo.box).lt
      have HKQ := Lib.hid (fun v ks hk => hx.kv (i := 1) (x := .slice Fb nb db) ((HKP.out v ks hk).below hbb))
      generalize hWb : wb.setCell ⟨b, 1, none⟩ (.slice Fb nb db) = wd at hy HKQ
      have HWb := Lib.hid hWb
      have HXd := Lib.hid hy
      have KF3 := Lib.hid (fall_walk HXd.out.st.g3 hl3 (m : Nat) (by omega) (by omega))
      clear hWb hx hy hbb hk1 hk2 HXa HKP KF1
      go_wp2_with fail
      rw [HWb.out]
      refine KF3.out.mono ?_
      rintro e we ⟨v1, v2, rfl, hbe, hk1, hk2⟩
      obtain ⟨Fe, ne, de, rfl⟩ := hk2.form
      rw [Int.toNat_natCast] at hk2
      have hx := HXd.out.step hbe
      have HXe := Lib.hid (hx.set3 hk2)
      have HKE := Lib.hid (fun v ks hk => hx.kv (i := 3) (x := .slice Fe ne de) ((HKQ.out v ks hk).below hbe))
      clear x0 x1 x2 x3 xf0 xf1 xf2 xf3 hbb9
      obtain ⟨⟨x0, x1, x2, x3⟩, xf0, xf1, xf2, xf3⟩ := c4_at hx.bo.box
      have hbb9 := (head_row hx.bo.box).lt
      clear hx hbe hk1 hk2 KF3 HXd HKQ HWb
      go_wp2
      exact bodyPost_ret (v := .tuple #[]) (by simp [results, Tryz.results50, go_sem]) rfl ⟨_, _, _, rfl, HXe.out, HKE.out⟩
theorem cut9_walk {w0 : World} {b r i m : Nat} (hX : Bx9 w0 w PT9 b r s u1 u2 u3) (hi : i ≤ s.inn.length) (hm : m ≤ s.main.length) (h1 : s.inn.length ≤ 1048576) (h2 : s.out.length ≤ 1048576) (h3 : s.main.length ≤ 1048576) (hc : s.c ≤ 1048576) :
    Calls Tryz.prog 50 #[.pointer (some ⟨b, 0, none⟩), .int .i64 (i : Nat), .int .i64 (m : Nat)] w (Cut9 w0 w b r ⟨s.c, s.inn.take i, (s.inn.drop i ++ s.out).take (s.c / 2), s.main.take m⟩) := by
  obtain ⟨F1, d1, rfl, hcap, hnil, hall⟩ := hX.st.g1.mem
  obtain ⟨F2, n2, d2, rfl⟩ := hX.st.form2
  obtain ⟨F3, n3, d3, rfl⟩ := hX.st.form3
  have hfl : [s.inn.drop i, s.out].flatten = s.inn.drop i ++ s.out := by simp
  have hll : (s.inn.drop i ++ s.out).length ≤ 100000000 := by rw [List.length_append, List.length_drop]; omega
  have hlen : [s.inn.drop i, s.out].flatten.length ≤ 100000000 := by rw [hfl]; exact hll
  have HC : Hid (∀ (W : World) (v : Value), KVV W v [s.inn.drop i, s.out] → Calls Tryz.prog 35 #[v] W (OwnK W (s.inn.drop i ++ s.out))) := Lib.hid (fun W v hv => by
    have h := concat_walk hv (by simp) hlen
    rw [hfl] at h
    exact h)
  by_cases hd : d1 = i
  · exact cut9_in (ad := ⟨0, 0, none⟩) (by omega) (Lib.hid hX) (.inl ⟨hd, by omega⟩) hcap h1 hi (by omega) (Lib.hid (KVV.two (hX.st.g1.tail hi) hX.st.g2 _)) HC hll (Lib.hid (fun W => kout9_walk s.c hc)) (by omega) (by omega) (by omega)
  · obtain ⟨ad, rfl⟩ : ∃ ad, F1 = some ad := by
      cases F1 with
      | none => have := hnil rfl; omega
      | some ad => exact ⟨ad, rfl⟩
    exact cut9_in (ad := ad) (by omega) (Lib.hid hX) (.inr ⟨hd, rfl⟩) hcap h1 hi (by omega) (Lib.hid (KVV.two (hX.st.g1.tail hi) hX.st.g2 _)) HC hll (Lib.hid (fun W => kout9_walk s.c hc)) (by omega) (by omega) (by omega)
end
end Go.Proofs.YtcjcddlflincdaaGreat
