/- Adaptive replacement, the document's own: New, Touch, Drop, Keys, Ghosts. -/
import Derived.Test.YtemgbiohfgcphaaRcV
import Derived.Test.YtemgbiohfgcphaaPoP
import Derived.Test.YtemgbiohfgcphaaPoS
import Derived.Deep.RegionHeld3
import Derived.Deep.RegionWith
namespace Go.Proofs.Ytemgbiohfgcphaa
open Go Go.RowKit Go.Deep

section
variable {w : World} {u1 u2 u3 u4 : Value} {s : L11}
set_option maxHeartbeats 2000000 in
theorem r11new_walk (n : Int) (hn1 : -9223372036854775808 ≤ n) (hn2 : n ≤ 9223372036854775807) : Calls Try.prog 11 #[.int .i64 n] w (P11 w (L11.new n)) := by
  have KK := Lib.hid (rcap_walk (w := w.alloc (.cells z11 28)) n hn1 hn2)
  obtain ⟨c, hc⟩ : ∃ c, capI n = c := ⟨_, rfl⟩
  have HC : Hid (P11 w (L11.new n) = P11 w ⟨c, 0, [], [], [], []⟩) := Lib.hid (by rw [← hc]; rfl)
  rw [hc] at KK
  rw [HC.out]
  clear hc HC
  go_enter Try.func11, Try.ntmps11
  go_wp2_with fail
  refine KK.out.mono ?_
  rintro e w1 ⟨rfl, rfl⟩
  go_wp2
  exact bodyPost_ret (v := .agg (l11C c 0 (.slice none 0 0) (.slice none 0 0) (.slice none 0 0) (.slice none 0 0))) (by simp [results, Try.results11, go_sem]) rfl ⟨_, _, _, _, rfl, (Below.refl _ _).alloc (Nat.le_refl _) _, ⟨KV.nil _, KV.nil _, KV.nil _, KV.nil _⟩⟩
set_option maxHeartbeats 2000000 in
theorem r11drop_walk (hs : St11 w s u1 u2 u3 u4) (ok : s.Ok) (k : Nat) : Calls Try.prog 36 #[.agg (l11C s.c s.p u1 u2 u3 u4), .int .u64 (k : Nat)] w (P11 w (s.drop k)) := by
  have hl1 := ok.len_t1
  have hl2 := ok.len_t2
  have hl3 := ok.len_b1
  have hl4 := ok.len_b2
  clear ok
  obtain ⟨F1, n1, d1, rfl⟩ := hs.form1
  obtain ⟨F2, n2, d2, rfl⟩ := hs.form2
  obtain ⟨F3, n3, d3, rfl⟩ := hs.form3
  obtain ⟨F4, n4, d4, rfl⟩ := hs.form4
  have HX0 := Lib.hid (Bx11.start w T11 (by decide) hs)
  unfold L11.drop
  obtain ⟨c, pp, l1, l2, l3, l4⟩ := s
  simp only at *
  clear hs
  have K1 := Lib.hid (rwithout_walk HX0.out.st.g1 hl1 k)
  go_enter Try.func36, Try.ntmps36
  go_wp2_with fail
  refine K1.out.mono ?_
  rintro e va ⟨oa, rfl, ha⟩
  obtain ⟨Fa, na, da, rfl⟩ := ha.kv.form
  have hxa := HX0.out.step ha.low
  obtain ⟨⟨x0, x1, x2, x3, x4, x5⟩, xf0, xf1, xf2, xf3, xf4, xf5⟩ := c6_at hxa.bo.box
  have hbb := (head_row hxa.bo.box).lt
  have hya := hxa.set2 ha.kv
  generalize hWa : va.setCell ⟨w.heap.size, 2, none⟩ (.slice Fa na da) = wa at hya
  have HWa := Lib.hid hWa
  have HXa := Lib.hid hya
  clear ha hWa hxa hya HX0 K1
  have K2 := Lib.hid (rwithout_walk HXa.out.st.g2 hl2 k)
  go_wp2_with fail
  rw [HWa.out]
  clear HWa
  refine K2.out.mono ?_
  rintro e vb ⟨ob, rfl, hb⟩
  obtain ⟨Fb, nb, db, rfl⟩ := hb.kv.form
  have hxb := HXa.out.step hb.low
  clear x0 x1 x2 x3 x4 x5 xf0 xf1 xf2 xf3 xf4 xf5 hbb
  obtain ⟨⟨x0, x1, x2, x3, x4, x5⟩, xf0, xf1, xf2, xf3, xf4, xf5⟩ := c6_at hxb.bo.box
  have hbb := (head_row hxb.bo.box).lt
  have hyb := hxb.set3 hb.kv
  generalize hWb : vb.setCell ⟨w.heap.size, 3, none⟩ (.slice Fb nb db) = wb at hyb
  have HWb := Lib.hid hWb
  have HXb := Lib.hid hyb
  clear hb hWb hxb hyb HXa K2
  have K3 := Lib.hid (rwithout_walk HXb.out.st.g3 hl3 k)
  go_wp2_with fail
  rw [HWb.out]
  clear HWb
  refine K3.out.mono ?_
  rintro e vc ⟨oc, rfl, hc⟩
  obtain ⟨Fc, nc, dc, rfl⟩ := hc.kv.form
  have hxc := HXb.out.step hc.low
  clear x0 x1 x2 x3 x4 x5 xf0 xf1 xf2 xf3 xf4 xf5 hbb
  obtain ⟨⟨x0, x1, x2, x3, x4, x5⟩, xf0, xf1, xf2, xf3, xf4, xf5⟩ := c6_at hxc.bo.box
  have hbb := (head_row hxc.bo.box).lt
  have hyc := hxc.set4 hc.kv
  generalize hWc : vc.setCell ⟨w.heap.size, 4, none⟩ (.slice Fc nc dc) = wc at hyc
  have HWc := Lib.hid hWc
  have HXc := Lib.hid hyc
  clear hc hWc hxc hyc HXb K3
  have K4 := Lib.hid (rwithout_walk HXc.out.st.g4 hl4 k)
  go_wp2_with fail
  rw [HWc.out]
  clear HWc
  refine K4.out.mono ?_
  rintro e vd ⟨od, rfl, hd⟩
  obtain ⟨Fd, nd, dd, rfl⟩ := hd.kv.form
  have hxd := HXc.out.step hd.low
  clear x0 x1 x2 x3 x4 x5 xf0 xf1 xf2 xf3 xf4 xf5 hbb
  obtain ⟨⟨x0, x1, x2, x3, x4, x5⟩, xf0, xf1, xf2, xf3, xf4, xf5⟩ := c6_at hxd.bo.box
  have hbb := (head_row hxd.bo.box).lt
  have hyd := hxd.set5 hd.kv
  obtain ⟨⟨y0, y1, y2, y3, y4, y5⟩, yf0, yf1, yf2, yf3, yf4, yf5⟩ := c6_at hxd.bo.res
  have hrr := (head_row hxd.bo.res).lt
  have HXd := Lib.hid hyd
  clear hd hxd hyd HXc K4
  go_wp2
  exact bodyPost_ret (v := .agg (l11C c pp (.slice Fa na da) (.slice Fb nb db) (.slice Fc nc dc) (.slice Fd nd dd))) (by simp [results, Try.results36, go_sem, y0, y1, y2, y3, y4, y5]) rfl HXd.out.done
theorem r11ghosts_walk (hs : St11 w s u1 u2 u3 u4) (ok : s.Ok) : Calls Try.prog 22 #[.agg (l11C s.c s.p u1 u2 u3 u4)] w fun e w' => e = .returned (.int .i64 (s.ghosts : Nat)) ∧ Below w.heap.size w w' := by
  have hl3 := ok.len_b1
  have hl4 := ok.len_b2
  clear ok
  obtain ⟨F1, n1, d1, rfl⟩ := hs.form1
  obtain ⟨F2, n2, d2, rfl⟩ := hs.form2
  obtain ⟨F3, d3, rfl, -⟩ := hs.g3.mem
  obtain ⟨F4, d4, rfl, -⟩ := hs.g4.mem
  unfold L11.ghosts
  clear hs
  obtain ⟨n3, hn3⟩ : ∃ n, s.b1.length = n := ⟨_, rfl⟩
  obtain ⟨n4, hn4⟩ : ∃ n, s.b2.length = n := ⟨_, rfl⟩
  have hI3 : (n3 : Int) ≤ 100000000 := by omega
  have hI4 : (n4 : Int) ≤ 100000000 := by omega
  rw [hn3, hn4]
  clear hn3 hn4 hl3 hl4
  have HB := Lib.hid (low_one w (.cells (l11C s.c s.p (.slice F1 n1 d1) (.slice F2 n2 d2) (.slice F3 n3 d3) (.slice F4 n4 d4)) T11))
  obtain ⟨c, pp, l1, l2, l3, l4⟩ := s
  simp only at *
  go_enter Try.func22, Try.ntmps22
  go_wp2
  go_ret
  exact ⟨by simp, by first | exact HB.out | exact Below.refl _ _⟩
set_option maxHeartbeats 1000000 in
theorem r11keys_walk (hs : St11 w s u1 u2 u3 u4) (ok : s.Ok) : Calls Try.prog 17 #[.agg (l11C s.c s.p u1 u2 u3 u4)] w (RetK w s.keys) := by
  have hl1 := ok.len_t1
  have hl2 := ok.len_t2
  clear ok
  obtain ⟨F1, n1, d1, rfl⟩ := hs.form1
  obtain ⟨F2, n2, d2, rfl⟩ := hs.form2
  obtain ⟨F3, n3, d3, rfl⟩ := hs.form3
  obtain ⟨F4, n4, d4, rfl⟩ := hs.form4
  unfold L11.keys
  have HS := Lib.hid (fun (W : World) (hb : Below w.heap.size w W) => hs.below hb)
  obtain ⟨c, pp, l1, l2, l3, l4⟩ := s
  simp only at *
  have hlo := low_one w (.cells (l11C c pp (.slice F1 n1 d1) (.slice F2 n2 d2) (.slice F3 n3 d3) (.slice F4 n4 d4)) T11)
  have hnew := heap_alloc_new w (.cells (l11C c pp (.slice F1 n1 d1) (.slice F2 n2 d2) (.slice F3 n3 d3) (.slice F4 n4 d4)) T11)
  have HLO := Lib.hid hlo
  have hsz : w.heap.size ≤ (w.alloc (.cells (l11C c pp (.slice F1 n1 d1) (.slice F2 n2 d2) (.slice F3 n3 d3) (.slice F4 n4 d4)) T11)).heap.size := hlo.size
  have HLD : Hid (∀ W : World, (Below (w.alloc (.cells (l11C c pp (.slice F1 n1 d1) (.slice F2 n2 d2) (.slice F3 n3 d3) (.slice F4 n4 d4)) T11)).heap.size (w.alloc (.cells (l11C c pp (.slice F1 n1 d1) (.slice F2 n2 d2) (.slice F3 n3 d3) (.slice F4 n4 d4)) T11)) W) → W.cell? ⟨w.heap.size, 2, none⟩ = some (.slice F1 n1 d1) ∧ W.cell? ⟨w.heap.size, 3, none⟩ = some (.slice F2 n2 d2)) := Lib.hid (fun W hb => by
    obtain ⟨⟨x0, x1, x2, x3, x4, x5⟩, _⟩ := c6_at ((hb.block w.heap.size (by simp)).trans hnew)
    exact ⟨x2, x3⟩)
  obtain ⟨x2, x3⟩ := HLD.out _ (Below.refl _ _)
  clear hs hlo hnew
  go_enter Try.func17, Try.ntmps17
  go_wp2_with fail
  generalize (w.alloc (.cells (l11C c pp (.slice F1 n1 d1) (.slice F2 n2 d2) (.slice F3 n3 d3) (.slice F4 n4 d4)) T11)) = W0 at *
  go_region_held3 (fun w' => w'.cell? ⟨w.heap.size, 2, none⟩ = some (.slice F1 n1 d1) ∧ w'.cell? ⟨w.heap.size, 3, none⟩ = some (.slice F2 n2 d2))
    (first | with_reducible exact kk2 | with_reducible exact kk1 | go_keep)
    (first
      | (refine step_append_kv (by rfl) (.tmp 3) (.tmp 5) (by rfl) W0.heap.size (by kernel_rfl) (by kernel_rfl) _ [] (by rfl) (w0 := W0) ((KO.empty (Nat.le_refl _) (Below.refl _ _)).drewn _) _ l1 (by rfl) ((HS.out _ (below_drewn (HLO.out.trans ((low_one W0 (.cells #[] 32)).mono hsz)) _)).g1) (by simp; omega) (by simp) ?_; intro v1 w1 hown1; have kk1 := HLD.out w1 hown1.low)
      | (refine step_append_kv (by rfl) (.tmp 6) (.tmp 8) (by rfl) W0.heap.size (by kernel_rfl) (by kernel_rfl) _ _ (by rfl) hown1 _ l2 (by rfl) ((HS.out _ (HLO.out.trans (hown1.low.mono hsz))).g2) (by simp; omega) hown1.low.size ?_; intro v2 w2 hown2; have kk2 := HLD.out w2 hown2.low))
  have HF := Lib.hid (And.intro (HLO.out.trans (hown2.low.mono hsz)) hown2.kv)
  clear hown1 hown2 kk1 kk2
  go_wp2
  go_ret
  exact ⟨_, rfl, HF.out.1, HF.out.2⟩
set_option maxHeartbeats 2000000 in
theorem r11touch_walk (hs : St11 w s u1 u2 u3 u4) (ok : s.Ok) (k : Nat) : Calls Try.prog 34 #[.agg (l11C s.c s.p u1 u2 u3 u4), .int .u64 (k : Nat)] w (P11 w (s.touch k)) := by
  obtain ⟨F1, n1, d1, rfl⟩ := hs.form1
  obtain ⟨F2, n2, d2, rfl⟩ := hs.form2
  obtain ⟨F3, n3, d3, rfl⟩ := hs.form3
  obtain ⟨F4, n4, d4, rfl⟩ := hs.form4
  have HX0 := Lib.hid (Bx11.start w T11 (by decide) hs)
  have KY := Lib.hid (r11keys_walk HX0.out.st ok)
  have HKL := Lib.hid ok.keysLen
  have hl1 := ok.len_t1
  have hl2 := ok.len_t2
  clear ok hs
  obtain ⟨bb, hbb0⟩ : ∃ bb, decide (k ∈ s.keys) = bb := ⟨_, rfl⟩
  unfold L11.touch
  generalize hW0 : World.alloc _ (.cells z11 T11) = W0 at HX0 KY
  have HW0 := Lib.hid hW0
  clear hW0
  cases bb
  · rw [decide_eq_false_iff_not] at hbb0
    rw [if_neg hbb0]
    go_enter Try.func34, Try.ntmps34
    go_wp2_with fail
    rw [HW0.out]
    clear HW0
    refine KY.out.mono ?_
    rintro e w1 ⟨v1, rfl, hb1, hk1⟩
    have KH := Lib.hid (rhas_walk hk1 HKL.out k)
    have HX1 := Lib.hid (HX0.out.step hb1)
    clear hb1 hk1 KY HX0 HKL
    obtain ⟨c, pp, l1, l2, l3, l4⟩ := s
    simp only at *
    go_wp2_with fail
    rw [decide_eq_false hbb0] at KH
    clear hbb0
    refine KH.out.mono ?_
    rintro e w2 ⟨rfl, rfl⟩
    clear KH
    obtain ⟨⟨x0, x1, x2, x3, x4, x5⟩, xf0, xf1, xf2, xf3, xf4, xf5⟩ := c6_at HX1.out.bo.box
    have hbb := (head_row HX1.out.bo.box).lt
    obtain ⟨⟨y0, y1, y2, y3, y4, y5⟩, yf0, yf1, yf2, yf3, yf4, yf5⟩ := c6_at HX1.out.bo.res
    have hrr := (head_row HX1.out.bo.res).lt
    go_wp2
    exact bodyPost_ret (v := .agg (l11C c pp (.slice F1 n1 d1) (.slice F2 n2 d2) (.slice F3 n3 d3) (.slice F4 n4 d4))) (by simp [results, Try.results34, go_sem, y0, y1, y2, y3, y4, y5]) rfl HX1.out.done
  · rw [decide_eq_true_iff] at hbb0
    rw [if_pos hbb0]
    go_enter Try.func34, Try.ntmps34
    go_wp2_with fail
    rw [HW0.out]
    clear HW0
    refine KY.out.mono ?_
    rintro e w1 ⟨v1, rfl, hb1, hk1⟩
    have KH := Lib.hid (rhas_walk hk1 HKL.out k)
    have HX1 := Lib.hid (HX0.out.step hb1)
    clear hb1 hk1 KY HX0 HKL
    obtain ⟨c, pp, l1, l2, l3, l4⟩ := s
    simp only at *
    go_wp2_with fail
    rw [decide_eq_true hbb0] at KH
    clear hbb0
    refine KH.out.mono ?_
    rintro e w2 ⟨rfl, rfl⟩
    clear KH
    obtain ⟨⟨x0, x1, x2, x3, x4, x5⟩, xf0, xf1, xf2, xf3, xf4, xf5⟩ := c6_at HX1.out.bo.box
    have hbb := (head_row HX1.out.bo.box).lt
    have K1 := Lib.hid (rwithout_walk HX1.out.st.g1 hl1 k)
    go_wp2_with fail
    refine K1.out.mono ?_
    rintro e va ⟨oa, rfl, ha⟩
    obtain ⟨Fa, na, da, rfl⟩ := ha.kv.form
    have hxa := HX1.out.step ha.low
    clear x0 x1 x2 x3 x4 x5 xf0 xf1 xf2 xf3 xf4 xf5 hbb
    obtain ⟨⟨x0, x1, x2, x3, x4, x5⟩, xf0, xf1, xf2, xf3, xf4, xf5⟩ := c6_at hxa.bo.box
    have hbb := (head_row hxa.bo.box).lt
    have hya := hxa.set2 ha.kv
    generalize hWa : va.setCell ⟨w.heap.size, 2, none⟩ (.slice Fa na da) = wa at hya
    have HWa := Lib.hid hWa
    have HXa := Lib.hid hya
    clear ha hWa hxa hya HX1 K1
    have K2 := Lib.hid (rfront_walk HXa.out.st.g2 hl2 k)
    go_wp2_with fail
    rw [HWa.out]
    clear HWa
    refine K2.out.mono ?_
    rintro e vb ⟨ob, rfl, hb⟩
    obtain ⟨Fb, nb, db, rfl⟩ := hb.kv.form
    have hxb := HXa.out.step hb.low
    clear x0 x1 x2 x3 x4 x5 xf0 xf1 xf2 xf3 xf4 xf5 hbb
    obtain ⟨⟨x0, x1, x2, x3, x4, x5⟩, xf0, xf1, xf2, xf3, xf4, xf5⟩ := c6_at hxb.bo.box
    have hbb := (head_row hxb.bo.box).lt
    have hyb := hxb.set3 hb.kv
    obtain ⟨⟨y0, y1, y2, y3, y4, y5⟩, yf0, yf1, yf2, yf3, yf4, yf5⟩ := c6_at hxb.bo.res
    have hrr := (head_row hxb.bo.res).lt
    have HXb := Lib.hid hyb
    clear hb hxb hyb HXa K2
    go_wp2
    exact bodyPost_ret (v := .agg (l11C c pp (.slice Fa na da) (.slice Fb nb db) (.slice F3 n3 d3) (.slice F4 n4 d4))) (by simp [results, Try.results34, go_sem, y0, y1, y2, y3, y4, y5]) rfl HXb.out.done
end
end Go.Proofs.Ytemgbiohfgcphaa
