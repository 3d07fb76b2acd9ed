/- Three simple queues, the document's own: New, Target, Keys, Ghosts, Touch, Drop, fall. -/
import Derived.Test.YtlekhmpalcgbmaaS3V
import Derived.Test.YtlekhmpalcgbmaaS3R
import Derived.Test.YtlekhmpalcgbmaaPoS
import Derived.Test.YtlekhmpalcgbmaaSqH
namespace Go.Proofs.Ytlekhmpalcgbmaa
open Go Go.RowKit Go.Deep

section
variable {w : World} {u1 u2 u3 : Value} {s : L10}
set_option maxHeartbeats 2000000 in
theorem r10new_walk (n : Int) (hn1 : -9223372036854775808 ≤ n) (hn2 : n ≤ 9223372036854775807) : Calls Try.prog 10 #[.int .i64 n] w (P10 w (L10.new n)) := by
  have KK := Lib.hid (rcap_walk (w := w.alloc (.cells z10 T10)) n hn1 hn2)
  obtain ⟨c, hc⟩ : ∃ c, capI n = c := ⟨_, rfl⟩
  have HC : Hid (P10 w (L10.new n) = P10 w ⟨c, [], [], []⟩) := Lib.hid (by rw [← hc]; rfl)
  rw [hc] at KK
  rw [HC.out]
  clear hc HC
  go_enter Try.func10, Try.ntmps10
  go_wp2_with fail
  refine KK.out.mono ?_
  rintro e w1 ⟨rfl, rfl⟩
  go_wp2
  exact bodyPost_ret (v := .agg (l10C c (.slice none 0 0) (.slice none 0 0) (.slice none 0 0))) (by simp [results, Try.results10, go_sem]) rfl ⟨_, _, _, rfl, (Below.refl _ _).alloc (Nat.le_refl _) _, ⟨IV.nil _, IV.nil _, KV.nil _⟩⟩
theorem rtarget_walk (c : Nat) (hc : c ≤ 1048576) : Calls Try.prog 25 #[.int .i64 (c : Nat)] w fun e w' => e = .returned (.int .i64 (tgt c : Nat)) ∧ w = w' := by
  unfold tgt
  by_cases h : c < 10
  · have hI : (c : Int) < 10 := by omega
    rw [if_pos h]
    clear h
    go_enter Try.func25, Try.ntmps25
    go_wp2
    go_ret
    exact ⟨rfl, rfl⟩
  · have hI : ¬ (c : Int) < 10 := by omega
    rw [if_neg h]
    obtain ⟨q, hq⟩ : ∃ q, c / 10 = q := ⟨_, rfl⟩
    have e4 : ((c : Nat) : Int).tdiv 10 = (q : Int) := by rw [Int.tdiv_eq_ediv_of_nonneg (by omega)]; omega
    have hqI : (q : Int) ≤ 1048576 := by omega
    rw [hq]
    clear h hq
    go_enter Try.func25, Try.ntmps25
    go_wp2
    go_ret
    exact ⟨rfl, rfl⟩
set_option maxHeartbeats 2000000 in
theorem r10keys_walk (hs : St10 w s u1 u2 u3) (ok : s.Ok) : Calls Try.prog 16 #[.agg (l10C s.c u1 u2 u3)] w (RetK w s.keys) := by
  have hl1 := ok.len_small
  have hl2 := ok.len_main
  have hlk := ok.keysLen
  clear ok
  obtain ⟨F1, n1, d1, rfl⟩ := hs.form1
  obtain ⟨F2, n2, d2, rfl⟩ := hs.form2
  obtain ⟨F3, n3, d3, rfl⟩ := hs.form3
  have hlo := low_one w (.cells (l10C s.c (.slice F1 n1 d1) (.slice F2 n2 d2) (.slice F3 n3 d3)) T10)
  have hnew := heap_alloc_new w (.cells (l10C s.c (.slice F1 n1 d1) (.slice F2 n2 d2) (.slice F3 n3 d3)) T10)
  have HS := Lib.hid (fun (W : World) (hb : Below w.heap.size w W) => hs.below hb)
  unfold L10.keys at *
  obtain ⟨c, l1, l2, l3⟩ := s
  simp only at *
  have HLO := Lib.hid hlo
  have hsz : w.heap.size ≤ (w.alloc (.cells (l10C c (.slice F1 n1 d1) (.slice F2 n2 d2) (.slice F3 n3 d3)) T10)).heap.size := hlo.size
  have HLD : Hid (∀ W : World, (Below (w.alloc (.cells (l10C c (.slice F1 n1 d1) (.slice F2 n2 d2) (.slice F3 n3 d3)) T10)).heap.size (w.alloc (.cells (l10C c (.slice F1 n1 d1) (.slice F2 n2 d2) (.slice F3 n3 d3)) T10)) W) → W.cell? ⟨w.heap.size, 1, none⟩ = some (.slice F1 n1 d1) ∧ W.cell? ⟨w.heap.size, 2, none⟩ = some (.slice F2 n2 d2)) := Lib.hid (fun W hb => by
    obtain ⟨⟨x0, x1, x2, x3⟩, _⟩ := c4_at ((hb.block w.heap.size (by simp)).trans hnew)
    exact ⟨x1, x2⟩)
  obtain ⟨x1, x2⟩ := HLD.out _ (Below.refl _ _)
  have HLK := Lib.hid hlk
  clear hs hlo hnew hlk
  go_enter Try.func16, Try.ntmps16
  go_wp2_with fail
  generalize w.alloc (.cells (l10C c (.slice F1 n1 d1) (.slice F2 n2 d2) (.slice F3 n3 d3)) T10) = W0 at *
  go_region_held3 (fun w' => w'.cell? ⟨w.heap.size, 1, none⟩ = some (.slice F1 n1 d1) ∧ w'.cell? ⟨w.heap.size, 2, none⟩ = some (.slice F2 n2 d2))
    (first | with_reducible exact kk3 | with_reducible exact kk2 | with_reducible exact kk1 | go_keep)
    (first
      | (go_at_call 37; refine (rkeysI_walk ((HS.out w1 (HLO.out.trans (hb1.mono hsz))).g2) hl2).mono ?_; rintro e w2 ⟨v2, rfl, hown2⟩; have hb2 := hb1.trans (hown2.low.mono hb1.size); have kk2 := HLD.out w2 hb2)
      | (refine step_append_kv (by rfl) (.tmp 5) (.tmp 8) (by rfl) W0.heap.size (by kernel_rfl) (by kernel_rfl) _ (keysI l1) (by rfl) (hown1.below hb1.size hown2.low) _ (keysI l2) (by rfl) hown2.kv (by have := HLK.out; rw [List.length_append] at this; omega) hb2.size ?_; intro v3 w3 hown3; have hb3 := (below_drewn (Below.refl W0.heap.size W0) _).trans hown3.low; have kk3 := HLD.out w3 hb3)
      | (go_at_call 37; refine (rkeysI_walk ((HS.out _ (below_drewn HLO.out _)).g1) hl1).mono ?_; rintro e w1 ⟨v1, rfl, hown1⟩; have hb1 := (below_drewn (Below.refl W0.heap.size W0) _).trans hown1.low; have kk1 := HLD.out w1 hb1))
  have HF := Lib.hid (And.intro (HLO.out.trans (hb3.mono hsz)) hown3.kv)
  clear hown1 hown2 hown3 kk1 kk2 kk3 hb1 hb2 hb3
  go_wp2
  go_ret
  exact ⟨_, rfl, HF.out.1, HF.out.2⟩
theorem r10ghosts_walk (hs : St10 w s u1 u2 u3) (_ : s.Ok) : Calls Try.prog 21 #[.agg (l10C s.c u1 u2 u3)] w fun e w' => e = .returned (.int .i64 (s.ghosts : Nat)) ∧ Below w.heap.size w w' := by
  obtain ⟨F1, n1, d1, rfl⟩ := hs.form1
  obtain ⟨F2, n2, d2, rfl⟩ := hs.form2
  obtain ⟨F3, d3, rfl, -⟩ := hs.g3.mem
  have HB := Lib.hid (low_one w (.cells (l10C s.c (.slice F1 n1 d1) (.slice F2 n2 d2) (.slice F3 s.ghost.length d3)) T10))
  unfold L10.ghosts
  clear hs
  obtain ⟨n, hn⟩ : ∃ n, s.ghost.length = n := ⟨_, rfl⟩
  rw [hn] at HB ⊢
  clear hn
  obtain ⟨c, l1, l2, l3⟩ := s
  simp only at *
  go_enter Try.func21, Try.ntmps21
  go_wp2
  go_ret
  exact ⟨rfl, by first | exact HB.out | exact Below.refl _ _⟩
set_option maxHeartbeats 2000000 in
theorem r10touch_walk (hs : St10 w s u1 u2 u3) (ok : s.Ok) (k : Nat) : Calls Try.prog 32 #[.agg (l10C s.c u1 u2 u3), .int .u64 (k : Nat)] w (P10 w (s.touch k)) := by
  have hl1 := ok.len_small
  have hl2 := ok.len_main
  clear ok
  obtain ⟨F1, n1, d1, rfl⟩ := hs.form1
  obtain ⟨F2, n2, d2, rfl⟩ := hs.form2
  obtain ⟨F3, n3, d3, rfl⟩ := hs.form3
  have HX0 := Lib.hid (Bx10.start w T10 (by decide) hs)
  unfold L10.touch
  obtain ⟨c, l1, l2, l3⟩ := s
  simp only at *
  clear hs
  have K1 := Lib.hid (rusI_walk HX0.out.st.g1 hl1 k)
  go_enter Try.func32, Try.ntmps32
  go_wp2_with fail
  refine K1.out.mono ?_
  rintro e va ⟨oa, rfl, ha⟩
  obtain ⟨Fa, na, da, rfl⟩ := ha.iv.form
  have hxa := HX0.out.step ha.low
  obtain ⟨⟨x0, x1, x2, x3⟩, xf0, xf1, xf2, xf3⟩ := c4_at hxa.bo.box
  have hbb := (head_row hxa.bo.box).lt
  have hya := hxa.set1 ha.iv
  generalize hWa : va.setCell ⟨w.heap.size, 1, none⟩ (.slice Fa na da) = wa at hya
  have HWa := Lib.hid hWa
  have HXa := Lib.hid hya
  clear ha hWa hxa hya HX0 K1
  have K2 := Lib.hid (rusI_walk HXa.out.st.g2 hl2 k)
  go_wp2_with fail
  rw [HWa.out]
  clear HWa
  refine K2.out.mono ?_
  rintro e vb ⟨ob, rfl, hb⟩
  obtain ⟨Fb, nb, db, rfl⟩ := hb.iv.form
  have hxb := HXa.out.step hb.low
  clear x0 x1 x2 x3 xf0 xf1 xf2 xf3 hbb
  obtain ⟨⟨x0, x1, x2, x3⟩, xf0, xf1, xf2, xf3⟩ := c4_at hxb.bo.box
  have hbb := (head_row hxb.bo.box).lt
  have hyb := hxb.set2 hb.iv
  obtain ⟨⟨y0, y1, y2, y3⟩, yf0, yf1, yf2, yf3⟩ := c4_at hxb.bo.res
  have hrr := (head_row hxb.bo.res).lt
  have HXb := Lib.hid hyb
  clear hb hxb hyb HXa K2
  go_wp2
  exact bodyPost_ret (v := .agg (l10C c (.slice Fa na da) (.slice Fb nb db) (.slice F3 n3 d3))) (by simp [results, Try.results32, go_sem, y0, y1, y2, y3]) rfl HXb.out.done
set_option maxHeartbeats 2000000 in
theorem r10drop_walk (hs : St10 w s u1 u2 u3) (ok : s.Ok) (k : Nat) : Calls Try.prog 34 #[.agg (l10C s.c u1 u2 u3), .int .u64 (k : Nat)] w (P10 w (s.drop k)) := by
  have hl1 := ok.len_small
  have hl2 := ok.len_main
  have hl3 := ok.len_ghost
  clear ok
  obtain ⟨F1, n1, d1, rfl⟩ := hs.form1
  obtain ⟨F2, n2, d2, rfl⟩ := hs.form2
  obtain ⟨F3, n3, d3, rfl⟩ := hs.form3
  have HX0 := Lib.hid (Bx10.start w T10 (by decide) hs)
  unfold L10.drop
  obtain ⟨c, l1, l2, l3⟩ := s
  simp only at *
  clear hs
  have K1 := Lib.hid (rwoI_walk HX0.out.st.g1 hl1 k)
  go_enter Try.func34, Try.ntmps34
  go_wp2_with fail
  refine K1.out.mono ?_
  rintro e va ⟨oa, rfl, ha⟩
  obtain ⟨Fa, na, da, rfl⟩ := ha.iv.form
  have hxa := HX0.out.step ha.low
  obtain ⟨⟨x0, x1, x2, x3⟩, xf0, xf1, xf2, xf3⟩ := c4_at hxa.bo.box
  have hbb := (head_row hxa.bo.box).lt
  have hya := hxa.set1 ha.iv
  generalize hWa : va.setCell ⟨w.heap.size, 1, none⟩ (.slice Fa na da) = wa at hya
  have HWa := Lib.hid hWa
  have HXa := Lib.hid hya
  clear ha hWa hxa hya HX0 K1
  have K2 := Lib.hid (rwoI_walk HXa.out.st.g2 hl2 k)
  go_wp2_with fail
  rw [HWa.out]
  clear HWa
  refine K2.out.mono ?_
  rintro e vb ⟨ob, rfl, hb⟩
  obtain ⟨Fb, nb, db, rfl⟩ := hb.iv.form
  have hxb := HXa.out.step hb.low
  clear x0 x1 x2 x3 xf0 xf1 xf2 xf3 hbb
  obtain ⟨⟨x0, x1, x2, x3⟩, xf0, xf1, xf2, xf3⟩ := c4_at hxb.bo.box
  have hbb := (head_row hxb.bo.box).lt
  have hyb := hxb.set2 hb.iv
  generalize hWb : vb.setCell ⟨w.heap.size, 2, none⟩ (.slice Fb nb db) = wb at hyb
  have HWb := Lib.hid hWb
  have HXb := Lib.hid hyb
  clear hb hWb hxb hyb HXa K2
  have K3 := Lib.hid (rwithout_walk HXb.out.st.g3 hl3 k)
  go_wp2_with fail
  rw [HWb.out]
  clear HWb
  refine K3.out.mono ?_
  rintro e vc ⟨oc, rfl, hc⟩
  obtain ⟨Fc, nc, dc, rfl⟩ := hc.kv.form
  have hxc := HXb.out.step hc.low
  clear x0 x1 x2 x3 xf0 xf1 xf2 xf3 hbb
  obtain ⟨⟨x0, x1, x2, x3⟩, xf0, xf1, xf2, xf3⟩ := c4_at hxc.bo.box
  have hbb := (head_row hxc.bo.box).lt
  have hyc := hxc.set3 hc.kv
  obtain ⟨⟨y0, y1, y2, y3⟩, yf0, yf1, yf2, yf3⟩ := c4_at hxc.bo.res
  have hrr := (head_row hxc.bo.res).lt
  have HXc := Lib.hid hyc
  clear hc hxc hyc HXb K3
  go_wp2
  exact bodyPost_ret (v := .agg (l10C c (.slice Fa na da) (.slice Fb nb db) (.slice Fc nc dc))) (by simp [results, Try.results34, go_sem, y0, y1, y2, y3]) rfl HXc.out.done
end
end Go.Proofs.Ytlekhmpalcgbmaa
