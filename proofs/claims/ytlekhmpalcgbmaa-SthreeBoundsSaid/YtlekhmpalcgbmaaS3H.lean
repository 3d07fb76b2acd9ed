/- Three simple queues: the program's own New, Touch, Drop, Has, Keys, Ghosts. -/
import Derived.Test.YtlekhmpalcgbmaaS3Z
import Derived.Test.YtlekhmpalcgbmaaPoS
import Derived.Deep.CutRange
import Derived.Deep.RegionWith
namespace Go.Proofs.Ytlekhmpalcgbmaa
open Go Go.RowKit Go.Deep

section
variable {w : World} {u u1 u2 u3 : Value} {s : L10} {xs : List It}
theorem bounded10_walk (n : Int) (hn1 : -9223372036854775808 ≤ n) (hn2 : n ≤ 9223372036854775807) :
    Calls Try.prog 29 #[.int .i64 n] w fun e w' => e = .returned (.int .i64 (capI n : Nat)) ∧ w = w' := by
  obtain ⟨c, hc⟩ : ∃ c, capI n = c := ⟨_, rfl⟩
  have HC := Lib.hid hc
  rw [hc]
  clear hc
  by_cases h1 : n < 1
  · have H : Hid ((1 : Int) = (c : Int)) := Lib.hid (by rw [← HC.out, capI, if_pos h1]; rfl)
    go_enter Try.func29, Try.ntmps29
    go_wp2
    go_ret
    exact ⟨by rw [H.out]; rfl, rfl⟩
  · by_cases h1e : n = 1
    · subst h1e
      have H : Hid ((1 : Int) = (c : Int)) := Lib.hid (by rw [← HC.out]; rfl)
      go_enter Try.func29, Try.ntmps29
      go_wp2
      go_ret
      exact ⟨by rw [H.out]; rfl, rfl⟩
    · have h1g : 1 < n := by omega
      by_cases h2 : 1048576 < n
      · have H : Hid ((1048576 : Int) = (c : Int)) := Lib.hid (by rw [← HC.out, capI, if_neg h1, if_pos h2]; rfl)
        clear h1 h1e
        go_enter Try.func29, Try.ntmps29
        go_wp2
        go_ret
        exact ⟨by rw [H.out]; rfl, rfl⟩
      · have H : Hid (n = (c : Int)) := Lib.hid (by rw [← HC.out, capI, if_neg h1, if_neg h2]; omega)
        clear h1 h1e
        by_cases h2e : n = 1048576
        · subst h2e
          go_enter Try.func29, Try.ntmps29
          go_wp2
          go_ret
          exact ⟨by rw [← H.out]; rfl, rfl⟩
        · have h2l : n < 1048576 := by omega
          clear h2e h2
          go_enter Try.func29, Try.ntmps29
          go_wp2
          go_ret
          exact ⟨by rw [← H.out]; rfl, rfl⟩
theorem p10new_walk (n : Int) (hn1 : -9223372036854775808 ≤ n) (hn2 : n ≤ 9223372036854775807) : Calls Try.prog 9 #[.int .i64 n] w (P10 w (L10.new n)) := by
  have KK := Lib.hid (bounded10_walk (w := w.alloc (.cells z10 PT10)) n hn1 hn2)
  obtain ⟨c, hc⟩ : ∃ c, capI n = c := ⟨_, rfl⟩
  have HC : Hid (P10 w (L10.new n) = P10 w ⟨c, [], [], []⟩) := Lib.hid (by rw [← hc]; rfl)
  rw [hc] at KK
  rw [HC.out]
  clear hc HC
  go_enter Try.func9, Try.ntmps9
  go_wp2_with fail
  refine KK.out.mono ?_
  rintro e w1 ⟨rfl, rfl⟩
  go_wp2
  exact bodyPost_ret (v := .agg (l10C c (.slice none 0 0) (.slice none 0 0) (.slice none 0 0))) (by simp [results, Try.results9, go_sem]) rfl ⟨_, _, _, rfl, (Below.refl _ _).alloc (Nat.le_refl _) _, ⟨IV.nil _, IV.nil _, KV.nil _⟩⟩
theorem target10_walk (c : Nat) (hc : c ≤ 1048576) : Calls Try.prog 61 #[.int .i64 (c : Nat)] w fun e w' => e = .returned (.int .i64 (tgt c : Nat)) ∧ w = w' := by
  obtain ⟨q, hq⟩ : ∃ q, c / 10 = q := ⟨_, rfl⟩
  have e4 : ((c : Nat) : Int).tdiv 10 = (q : Int) := by rw [Int.tdiv_eq_ediv_of_nonneg (by omega)]; omega
  have HK : Hid (tgt c = max q 1) := Lib.hid (by unfold tgt; split <;> omega)
  have hqI : (q : Int) ≤ 1048576 := by omega
  clear hq hc
  rcases (by omega : q = 0 ∨ q = 1 ∨ 1 < q) with rfl | rfl | hq
  · go_enter Try.func61, Try.ntmps61
    go_wp2
    go_ret
    exact ⟨by rw [HK.out]; rfl, rfl⟩
  · go_enter Try.func61, Try.ntmps61
    go_wp2
    go_ret
    exact ⟨by rw [HK.out]; rfl, rfl⟩
  · have hq1 : (1 : Int) < (q : Int) := by omega
    go_enter Try.func61, Try.ntmps61
    go_wp2
    go_ret
    exact ⟨by rw [HK.out, Nat.max_eq_left (by omega)]; rfl, rfl⟩
theorem room10_walk (c : Nat) (hc : c ≤ 1048576) (hc1 : 1 ≤ c) : Calls Try.prog 67 #[.int .i64 (c : Nat)] w fun e w' => e = .returned (.int .i64 (room c : Nat)) ∧ w = w' := by
  have KT := Lib.hid (target10_walk (w := w) c hc)
  have htc : tgt c ≤ c := by unfold tgt; split <;> omega
  obtain ⟨h, hh⟩ : ∃ h, room c = h := ⟨_, rfl⟩
  obtain ⟨q, hq⟩ : ∃ q, tgt c = q := ⟨_, rfl⟩
  rw [hq] at KT htc
  have hcI : ((c : Nat) : Int) - (q : Int) = (h : Int) := by unfold room at hh; omega
  have hhI : (h : Int) ≤ 1048576 := by omega
  rw [hh]
  clear hh hq htc hc hc1
  go_enter Try.func67, Try.ntmps67
  go_wp2_with fail
  refine KT.out.mono ?_
  rintro e w1 ⟨rfl, rfl⟩
  go_wp2
  go_ret
  exact ⟨rfl, rfl⟩
set_option maxHeartbeats 2000000 in
theorem owned10_walk (hs : St10 w s u1 u2 u3) (ok : s.Ok) : Calls Try.prog 42 #[.agg (l10C s.c u1 u2 u3)] w (P10 w s) := by
  have hl1 := ok.len_small
  have hl2 := ok.len_main
  have hl3 := ok.len_ghost
  clear ok
  obtain ⟨F1, n1, d1, rfl⟩ := hs.form1
  obtain ⟨F2, n2, d2, rfl⟩ := hs.form2
  obtain ⟨F3, n3, d3, rfl⟩ := hs.form3
  have HX0 := Lib.hid (Bx10.start w PT10 (by decide) hs)
  obtain ⟨c, l1, l2, l3⟩ := s
  simp only at *
  clear hs
  have K1 := Lib.hid (copyI_walk HX0.out.st.g1 hl1)
  go_enter Try.func42, Try.ntmps42
  go_wp2_with fail
  refine K1.out.mono ?_
  rintro e va ⟨oa, rfl, ha⟩
  obtain ⟨Fa, na, da, rfl⟩ := ha.iv.form
  have hxa := HX0.out.step ha.low
  obtain ⟨⟨x0, x1, x2, x3⟩, xf0, xf1, xf2, xf3⟩ := c4_at hxa.bo.box
  have hbb := (head_row hxa.bo.box).lt
  have hya := hxa.set1 ha.iv
  generalize hWa : va.setCell ⟨w.heap.size, 1, none⟩ (.slice Fa na da) = wa at hya
  have HWa := Lib.hid hWa
  have HXa := Lib.hid hya
  clear ha hWa hxa hya HX0 K1
  have K2 := Lib.hid (copyI_walk HXa.out.st.g2 hl2)
  go_wp2_with fail
  rw [HWa.out]
  clear HWa
  refine K2.out.mono ?_
  rintro e vb ⟨ob, rfl, hb⟩
  obtain ⟨Fb, nb, db, rfl⟩ := hb.iv.form
  have hxb := HXa.out.step hb.low
  clear x0 x1 x2 x3 xf0 xf1 xf2 xf3 hbb
  obtain ⟨⟨x0, x1, x2, x3⟩, xf0, xf1, xf2, xf3⟩ := c4_at hxb.bo.box
  have hbb := (head_row hxb.bo.box).lt
  have hyb := hxb.set2 hb.iv
  generalize hWb : vb.setCell ⟨w.heap.size, 2, none⟩ (.slice Fb nb db) = wb at hyb
  have HWb := Lib.hid hWb
  have HXb := Lib.hid hyb
  clear hb hWb hxb hyb HXa K2
  have K3 := Lib.hid (copyK_walk HXb.out.st.g3 hl3)
  go_wp2_with fail
  rw [HWb.out]
  clear HWb
  refine K3.out.mono ?_
  rintro e vc ⟨oc, rfl, hc⟩
  obtain ⟨Fc, nc, dc, rfl⟩ := hc.kv.form
  have hxc := HXb.out.step hc.low
  clear x0 x1 x2 x3 xf0 xf1 xf2 xf3 hbb
  obtain ⟨⟨x0, x1, x2, x3⟩, xf0, xf1, xf2, xf3⟩ := c4_at hxc.bo.box
  have hbb := (head_row hxc.bo.box).lt
  have hyc := hxc.set3 hc.kv
  obtain ⟨⟨y0, y1, y2, y3⟩, yf0, yf1, yf2, yf3⟩ := c4_at hxc.bo.res
  have hrr := (head_row hxc.bo.res).lt
  have HXc := Lib.hid hyc
  clear hc hxc hyc HXb K3
  go_wp2
  exact bodyPost_ret (v := .agg (l10C c (.slice Fa na da) (.slice Fb nb db) (.slice Fc nc dc))) (by simp [results, Try.results42, go_sem, y0, y1, y2, y3]) rfl HXc.out.done
set_option maxHeartbeats 2000000 in
theorem p10touch_walk (hs : St10 w s u1 u2 u3) (ok : s.Ok) (k : Nat) : Calls Try.prog 27 #[.agg (l10C s.c u1 u2 u3), .int .u64 (k : Nat)] w (P10 w (s.touch k)) := by
  have hl1 := ok.len_small
  have hl2 := ok.len_main
  have hl3 := ok.len_ghost
  have hf := ok.fine.f
  clear ok
  obtain ⟨F1, n1, d1, rfl⟩ := hs.form1
  obtain ⟨F2, n2, d2, rfl⟩ := hs.form2
  obtain ⟨F3, n3, d3, rfl⟩ := hs.form3
  obtain ⟨hb0, hk0⟩ := Bo.start3 w PT10 35 (l10C s.c (.slice F1 n1 d1) (.slice F2 n2 d2) (.slice F3 n3 d3)) #[.int .u64 (k : Nat)] z10 rfl rfl (by decide)
  have HX0 : Hid (Bx10 w _ PT10 w.heap.size (w.heap.size + 1 + 1) s (.slice F1 n1 d1) (.slice F2 n2 d2) (.slice F3 n3 d3)) := Lib.hid ⟨hb0, hs.below hb0.low⟩
  have HK0 := Lib.hid hk0
  unfold L10.touch
  obtain ⟨c, l1, l2, l3⟩ := s
  simp only at *
  clear hs hb0 hk0
  have K1 := Lib.hid (throughU_walk HX0.out.st.g1 hl1 (fun x hx => hf x (List.mem_append_left _ hx)) ((head_row HK0.out).cell (i := 0) (by simp)) (head_row HK0.out).lt)
  go_enter Try.func27, Try.ntmps27
  go_wp2_with fail
  refine K1.out.mono ?_
  rintro e va ⟨oa, rfl, ha⟩
  obtain ⟨Fa, na, da, rfl⟩ := ha.iv.form
  have hxa := HX0.out.step ha.low
  have hka := (ha.low.block _ (head_row HK0.out).lt).trans HK0.out
  obtain ⟨⟨x0, x1, x2, x3⟩, xf0, xf1, xf2, xf3⟩ := c4_at hxa.bo.box
  have hbb := (head_row hxa.bo.box).lt
  have hya := hxa.set1 ha.iv
  have hoa : Only [w.heap.size] va (va.setCell ⟨w.heap.size, 1, none⟩ (.slice Fa na da)) := (Only.refl _ _).setCell (by simp) _
  have hqa := (hoa.block (w.heap.size + 1) (head_row hka).lt (by simp)).trans hka
  generalize hWa : va.setCell ⟨w.heap.size, 1, none⟩ (.slice Fa na da) = wa at hya hqa
  have HWa := Lib.hid hWa
  have HXa := Lib.hid hya
  have HKa := Lib.hid hqa
  clear ha hWa hxa hya hoa hka hqa HX0 HK0 K1 
  have K2 := Lib.hid (throughU_walk HXa.out.st.g2 hl2 (fun x hx => hf x (List.mem_append_right _ hx)) ((head_row HKa.out).cell (i := 0) (by simp)) (head_row HKa.out).lt)
  go_wp2_with fail
  rw [HWa.out]
  clear HWa
  refine K2.out.mono ?_
  rintro e vb ⟨ob, rfl, hb⟩
  obtain ⟨Fb, nb, db, rfl⟩ := hb.iv.form
  have hxb := HXa.out.step hb.low
  have hkb := (hb.low.block _ (head_row HKa.out).lt).trans HKa.out
  clear x0 x1 x2 x3 xf0 xf1 xf2 xf3 hbb
  obtain ⟨⟨x0, x1, x2, x3⟩, xf0, xf1, xf2, xf3⟩ := c4_at hxb.bo.box
  have hbb := (head_row hxb.bo.box).lt
  have hyb := hxb.set2 hb.iv
  have hob : Only [w.heap.size] vb (vb.setCell ⟨w.heap.size, 2, none⟩ (.slice Fb nb db)) := (Only.refl _ _).setCell (by simp) _
  have hqb := (hob.block (w.heap.size + 1) (head_row hkb).lt (by simp)).trans hkb
  generalize hWb : vb.setCell ⟨w.heap.size, 2, none⟩ (.slice Fb nb db) = wb at hyb hqb
  have HWb := Lib.hid hWb
  have HXb := Lib.hid hyb
  have HKb := Lib.hid hqb
  clear hb hWb hxb hyb hob hkb hqb HXa HKa K2 
  have K3 := Lib.hid (copyK_walk HXb.out.st.g3 hl3)
  clear HKb hf
  go_wp2_with fail
  rw [HWb.out]
  clear HWb
  refine K3.out.mono ?_
  rintro e vc ⟨oc, rfl, hc⟩
  obtain ⟨Fc, nc, dc, rfl⟩ := hc.kv.form
  have hxc := HXb.out.step hc.low
  clear x0 x1 x2 x3 xf0 xf1 xf2 xf3 hbb
  obtain ⟨⟨x0, x1, x2, x3⟩, xf0, xf1, xf2, xf3⟩ := c4_at hxc.bo.box
  have hbb := (head_row hxc.bo.box).lt
  have hyc := hxc.set3 hc.kv
  obtain ⟨⟨y0, y1, y2, y3⟩, yf0, yf1, yf2, yf3⟩ := c4_at hxc.bo.res
  have hrr := (head_row hxc.bo.res).lt
  have HXc := Lib.hid hyc
  clear hc hxc hyc HXb K3 
  go_wp2
  exact bodyPost_ret (v := .agg (l10C c (.slice Fa na da) (.slice Fb nb db) (.slice Fc nc dc))) (by simp [results, Try.results27, go_sem, y0, y1, y2, y3]) rfl HXc.out.done
set_option maxHeartbeats 2000000 in
theorem p10drop_walk (hs : St10 w s u1 u2 u3) (ok : s.Ok) (k : Nat) : Calls Try.prog 28 #[.agg (l10C s.c u1 u2 u3), .int .u64 (k : Nat)] w (P10 w (s.drop k)) := by
  have hl1 := ok.len_small
  have hl2 := ok.len_main
  have hl3 := ok.len_ghost
  have hf := ok.fine.f
  clear ok
  obtain ⟨F1, n1, d1, rfl⟩ := hs.form1
  obtain ⟨F2, n2, d2, rfl⟩ := hs.form2
  obtain ⟨F3, n3, d3, rfl⟩ := hs.form3
  obtain ⟨hb0, hk0⟩ := Bo.start3 w PT10 35 (l10C s.c (.slice F1 n1 d1) (.slice F2 n2 d2) (.slice F3 n3 d3)) #[.int .u64 (k : Nat)] z10 rfl rfl (by decide)
  have HX0 : Hid (Bx10 w _ PT10 w.heap.size (w.heap.size + 1 + 1) s (.slice F1 n1 d1) (.slice F2 n2 d2) (.slice F3 n3 d3)) := Lib.hid ⟨hb0, hs.below hb0.low⟩
  have HK0 := Lib.hid hk0
  unfold L10.drop
  obtain ⟨c, l1, l2, l3⟩ := s
  simp only at *
  clear hs hb0 hk0
  have K1 := Lib.hid (throughO_walk HX0.out.st.g1 hl1 ((head_row HK0.out).cell (i := 0) (by simp)) (head_row HK0.out).lt)
  go_enter Try.func28, Try.ntmps28
  go_wp2_with fail
  refine K1.out.mono ?_
  rintro e va ⟨oa, rfl, ha⟩
  obtain ⟨Fa, na, da, rfl⟩ := ha.iv.form
  have hxa := HX0.out.step ha.low
  have hka := (ha.low.block _ (head_row HK0.out).lt).trans HK0.out
  obtain ⟨⟨x0, x1, x2, x3⟩, xf0, xf1, xf2, xf3⟩ := c4_at hxa.bo.box
  have hbb := (head_row hxa.bo.box).lt
  have hya := hxa.set1 ha.iv
  have hoa : Only [w.heap.size] va (va.setCell ⟨w.heap.size, 1, none⟩ (.slice Fa na da)) := (Only.refl _ _).setCell (by simp) _
  have hqa := (hoa.block (w.heap.size + 1) (head_row hka).lt (by simp)).trans hka
  generalize hWa : va.setCell ⟨w.heap.size, 1, none⟩ (.slice Fa na da) = wa at hya hqa
  have HWa := Lib.hid hWa
  have HXa := Lib.hid hya
  have HKa := Lib.hid hqa
  clear ha hWa hxa hya hoa hka hqa HX0 HK0 K1 
  have K2 := Lib.hid (throughO_walk HXa.out.st.g2 hl2 ((head_row HKa.out).cell (i := 0) (by simp)) (head_row HKa.out).lt)
  go_wp2_with fail
  rw [HWa.out]
  clear HWa
  refine K2.out.mono ?_
  rintro e vb ⟨ob, rfl, hb⟩
  obtain ⟨Fb, nb, db, rfl⟩ := hb.iv.form
  have hxb := HXa.out.step hb.low
  have hkb := (hb.low.block _ (head_row HKa.out).lt).trans HKa.out
  clear x0 x1 x2 x3 xf0 xf1 xf2 xf3 hbb
  obtain ⟨⟨x0, x1, x2, x3⟩, xf0, xf1, xf2, xf3⟩ := c4_at hxb.bo.box
  have hbb := (head_row hxb.bo.box).lt
  have hyb := hxb.set2 hb.iv
  have hob : Only [w.heap.size] vb (vb.setCell ⟨w.heap.size, 2, none⟩ (.slice Fb nb db)) := (Only.refl _ _).setCell (by simp) _
  have hqb := (hob.block (w.heap.size + 1) (head_row hkb).lt (by simp)).trans hkb
  generalize hWb : vb.setCell ⟨w.heap.size, 2, none⟩ (.slice Fb nb db) = wb at hyb hqb
  have HWb := Lib.hid hWb
  have HXb := Lib.hid hyb
  have HKb := Lib.hid hqb
  clear hb hWb hxb hyb hob hkb hqb HXa HKa K2 
  have K3 := Lib.hid (without_walk HXb.out.st.g3 hl3 k)
  have hkp : wb.cell? ⟨w.heap.size + 1, 0, none⟩ = some (.int .u64 (k : Nat)) := (head_row HKb.out).cell (i := 0) (by simp)
  go_upto_region 4 with fail
  rw [HWb.out]
  clear HKb hf HWb x0 x1 x2 x3 xf0 xf1 xf2 xf3 hbb
  obtain ⟨⟨x0, x1, x2, x3⟩, xf0, xf1, xf2, xf3⟩ := c4_at HXb.out.bo.box
  have hbb := (head_row HXb.out.bo.box).lt
  go_wp2_with fail
  refine K3.out.mono ?_
  rintro e vc ⟨oc, rfl, hc⟩
  obtain ⟨Fc, nc, dc, rfl⟩ := hc.kv.form
  have hxc := HXb.out.step hc.low
  clear x0 x1 x2 x3 xf0 xf1 xf2 xf3 hbb
  obtain ⟨⟨x0, x1, x2, x3⟩, xf0, xf1, xf2, xf3⟩ := c4_at hxc.bo.box
  have hbb := (head_row hxc.bo.box).lt
  have hyc := hxc.set3 hc.kv
  obtain ⟨⟨y0, y1, y2, y3⟩, yf0, yf1, yf2, yf3⟩ := c4_at hxc.bo.res
  have hrr := (head_row hxc.bo.res).lt
  have HXc := Lib.hid hyc
  clear hc hxc hyc HXb K3 hkp
  go_wp2
  exact bodyPost_ret (v := .agg (l10C c (.slice Fa na da) (.slice Fb nb db) (.slice Fc nc dc))) (by simp [results, Try.results28, go_sem, y0, y1, y2, y3]) rfl HXc.out.done
/- Whether an item has the key. -/
def IdxI (w : World) (xs : List It) (k : Nat) (e : Ending) (w' : World) : Prop := ∃ r : Int, e = .returned (.int .i64 r) ∧ -1 ≤ r ∧ r ≤ 100000000 ∧ decide (0 ≤ r) = decide (k ∈ keysI xs) ∧ Below w.heap.size w w'
set_option maxHeartbeats 1000000 in
theorem indexI_walk (h : IV w u xs) (hl : xs.length ≤ 100000000) {kb k : Nat} (hk : w.cell? ⟨kb, 0, none⟩ = some (.int .u64 (k : Nat))) (hkb : kb < w.heap.size) :
    Calls Try.prog 57 #[u, .func (.func 40) #[] #[.pointer (some ⟨kb, 0, none⟩)]] w (IdxI w xs k) := by
  have H := Lib.hid h
  obtain ⟨F, c, rfl, -⟩ := h.mem
  have KC : Hid (∀ (W : World) (_ : Below w.heap.size w W) (x : It), Calls Try.prog 40 #[.agg #[.int .u64 (x.key : Nat), .int .i64 (x.f : Nat)], .pointer (some ⟨kb, 0, none⟩)] W fun e w' => e = .returned (.bool (decide (x.key = k))) ∧ Below W.heap.size W w') :=
    Lib.hid (fun W hb x => is_walk ((hb.cell (p := ⟨kb, 0, none⟩) hkb).trans hk) (Nat.lt_of_lt_of_le hkb hb.size) x)
  obtain ⟨b, hb⟩ : ∃ b, decide (k ∈ keysI xs) = b := ⟨_, rfl⟩
  have HB := Lib.hid hb
  obtain ⟨n, hn⟩ : ∃ n, xs.length = n := ⟨_, rfl⟩
  rw [hn] at hl H ⊢
  have HN := Lib.hid hn
  clear h hn hb hk hkb
  have hnI : (n : Int) ≤ 100000000 := by omega
  go_enter Try.func57, Try.ntmps57
  go_wp2_with fail
  go_loopg [8] n (fun gg s8 wr => ∃ i : Nat, i + gg = n ∧ s8 = .int .i64 (i : Nat) ∧ Hid (Below w.heap.size w wr) ∧ Hid (∀ j (hj : j < xs.length), j < i → xs[j].key ≠ k))
  case atStart => exact ⟨0, by omega, rfl, Lib.hid (Below.refl _ _), Lib.hid (fun j _ hj => by omega)⟩
  case round =>
    obtain ⟨i, hi, rfl, HL, HNO⟩ := hrel
    by_cases hlt : i < n
    · have hltI : (i : Int) < (n : Int) := by omega
      obtain ⟨F', c', e, _, _, h3⟩ := (H.out.below HL.out).mem
      injection e with e1 e2 e3
      subst e1 e3
      have hix : i < xs.length := by have := HN.out; omega
      obtain ⟨g, off, hF, hg, q0, q1⟩ := h3 i hix
      subst hF
      obtain ⟨x, hx⟩ : ∃ x, xs[i] = x := ⟨_, rfl⟩
      rw [hx] at q0 q1
      have KX := Lib.hid (KC.out _ HL.out x)
      have HIX := Lib.hid (And.intro hix hx)
      clear hx
      obtain ⟨kx, fx⟩ := x
      dsimp only at q0 q1 KX
      by_cases he : kx = k
      · have HT : Hid (b = true) := Lib.hid (by
          rw [← HB.out]
          refine decide_eq_true (List.mem_map.2 ⟨⟨kx, fx⟩, ?_, he⟩)
          rw [← HIX.out.2]
          exact List.getElem_mem _)
        rw [decide_eq_true he] at KX
        clear h3 e2 he HIX hix
        go_wp2_with fail
        refine KX.out.mono ?_
        rintro e w2 ⟨rfl, hb2⟩
        have HL2 := Lib.hid (HL.out.trans (hb2.mono HL.out.size))
        clear hb2 KX q0 q1 hg
        go_wp2
        go_ret
        exact ⟨(i : Int), rfl, by omega, by omega, by rw [HB.out, HT.out]; exact decide_eq_true (by omega), HL2.out⟩
      · have HNX : Hid (∀ j (hj : j < xs.length), j < i + 1 → xs[j].key ≠ k) := Lib.hid (fun j hj hji => by
          rcases Nat.lt_or_ge j i with h | h
          · exact HNO.out j hj h
          · have : j = i := by omega
            subst this
            rw [HIX.out.2]
            exact he)
        rw [decide_eq_false he] at KX
        clear h3 e2 he HIX hix
        go_wp2_with fail
        refine KX.out.mono ?_
        rintro e w2 ⟨rfl, hb2⟩
        have HL2 := Lib.hid (HL.out.trans (hb2.mono HL.out.size))
        clear hb2 KX q0 q1 hg
        go_wp2
        go_roundg (gk - 1)
        case measure => omega
        case rel => exact ⟨i + 1, by omega, by go_num, HL2, HNX⟩
    · have hltI : ¬ (i : Int) < (n : Int) := by omega
      have HF : Hid (b = false) := Lib.hid (by
        rw [← HB.out]
        refine decide_eq_false (fun hm => ?_)
        obtain ⟨x, hx, e⟩ := List.mem_map.1 hm
        obtain ⟨j, hj, rfl⟩ := List.getElem_of_mem hx
        exact HNO.out j hj (by have := HN.out; omega) e)
      go_wp2
      go_ret
      exact ⟨-1, rfl, by omega, by omega, by rw [HB.out, HF.out]; rfl, HL.out⟩
theorem containsI_walk (h : IV w u xs) (hl : xs.length ≤ 100000000) {kb k : Nat} (hk : w.cell? ⟨kb, 0, none⟩ = some (.int .u64 (k : Nat))) (hkb : kb < w.heap.size) :
    Calls Try.prog 41 #[u, .func (.func 40) #[] #[.pointer (some ⟨kb, 0, none⟩)]] w (RetB w (decide (k ∈ keysI xs))) := by
  have HC := Lib.hid (indexI_walk h hl hk hkb)
  obtain ⟨F, n, c, rfl⟩ := h.form
  obtain ⟨b, hb⟩ : ∃ b, decide (k ∈ keysI xs) = b := ⟨_, rfl⟩
  have HB := Lib.hid hb
  rw [hb]
  clear h hl hb hk hkb
  go_enter Try.func41, Try.ntmps41
  go_wp2_with fail
  refine HC.out.mono ?_
  rintro e w1 ⟨r, rfl, h1, h2, h3, hbl⟩
  rw [HB.out] at h3
  have HBL := Lib.hid hbl
  clear hbl
  by_cases h0 : 0 ≤ r
  · rw [decide_eq_true h0] at h3
    subst h3
    clear HC HB
    go_wp2
    go_ret
    exact ⟨by first | rfl | exact congrArg (fun x : Bool => Ending.returned (Value.bool x)) (decide_eq_true h0), HBL.out⟩
  · rw [decide_eq_false h0] at h3
    subst h3
    clear HC HB
    go_wp2
    go_ret
    exact ⟨congrArg (fun x : Bool => Ending.returned (Value.bool x)) (decide_eq_false (by omega)), HBL.out⟩
set_option maxHeartbeats 2000000 in
theorem p10has_walk (hs : St10 w s u1 u2 u3) (ok : s.Ok) (k : Nat) : Calls Try.prog 18 #[.agg (l10C s.c u1 u2 u3), .int .u64 (k : Nat)] w (RetB w (decide (k ∈ s.keys))) := by
  have hl1 := ok.len_small
  have hl2 := ok.len_main
  obtain ⟨F1, n1, d1, rfl⟩ := hs.form1
  obtain ⟨F2, n2, d2, rfl⟩ := hs.form2
  obtain ⟨F3, n3, d3, rfl⟩ := hs.form3
  have hb0 := low_two w (.cells (l10C s.c (.slice F1 n1 d1) (.slice F2 n2 d2) (.slice F3 n3 d3)) PT10) (.cells #[.int .u64 (k : Nat)] 35)
  obtain ⟨_, ht1, ht2, ht3⟩ := two_blocks (c := (l10C s.c (.slice F1 n1 d1) (.slice F2 n2 d2) (.slice F3 n3 d3))) (t := PT10) (d := #[.int .u64 (k : Nat)]) (u := 35) (w := w) (Below.refl _ _)
  have HS := Lib.hid (hs.below hb0)
  have HB := Lib.hid hb0
  have HT := Lib.hid (And.intro ht2 ht3)
  have hk0 := (head_row ht3).cell (i := 0) (by simp)
  have K1 := Lib.hid (containsI_walk HS.out.g1 hl1 hk0 (head_row ht3).lt)
  have K2 : Hid (∀ W, Below ((w.alloc (.cells (l10C s.c (.slice F1 n1 d1) (.slice F2 n2 d2) (.slice F3 n3 d3)) PT10)).alloc (.cells #[.int .u64 (k : Nat)] 35)).heap.size ((w.alloc (.cells (l10C s.c (.slice F1 n1 d1) (.slice F2 n2 d2) (.slice F3 n3 d3)) PT10)).alloc (.cells #[.int .u64 (k : Nat)] 35)) W → Calls Try.prog 41 #[.slice F2 n2 d2, .func (.func 40) #[] #[.pointer (some ⟨w.heap.size + 1, 0, none⟩)]] W (RetB W (decide (k ∈ keysI s.main)))) := Lib.hid (fun W hb => containsI_walk (HS.out.below hb).g2 hl2 ((hb.cell (p := ⟨w.heap.size + 1, 0, none⟩) (head_row ht3).lt).trans hk0) (Nat.lt_of_lt_of_le (head_row ht3).lt hb.size))
  have HD : Hid (decide (k ∈ s.keys) = (decide (k ∈ keysI s.small) || decide (k ∈ keysI s.main))) := Lib.hid (by simp [L10.keys])
  obtain ⟨b1, hb1⟩ : ∃ b, decide (k ∈ keysI s.small) = b := ⟨_, rfl⟩
  obtain ⟨b3, hb3⟩ : ∃ b, decide (k ∈ keysI s.main) = b := ⟨_, rfl⟩
  rw [hb1, hb3] at HD
  rw [hb1] at K1
  rw [hb3] at K2
  rw [HD.out]
  obtain ⟨c, l1, l2, l3⟩ := s
  simp only at *
  clear hs ok hb1 hb3 HD ht1 ht2 ht3 hb0 hk0
  cases b1
  · go_enter Try.func18, Try.ntmps18
    go_wp2_with fail
    refine K1.out.mono ?_
    rintro e w1 ⟨rfl, hb1⟩
    have KX := Lib.hid (K2.out w1 hb1)
    have HT1 := Lib.hid ((hb1.block _ (head_row HT.out.1).lt).trans HT.out.1)
    have HB1 := Lib.hid (HB.out.trans (hb1.mono HB.out.size))
    clear hb1 K1 K2 HS HT
    obtain ⟨⟨x0, x1, x2, x3⟩, xf0, xf1, xf2, xf3⟩ := c4_at HT1.out
    go_wp2_with fail
    refine KX.out.mono ?_
    rintro e w2 ⟨rfl, hb2⟩
    have HB2 := Lib.hid (HB1.out.trans (hb2.mono HB1.out.size))
    clear hb2
    go_wp2
    go_ret
    exact ⟨by simp, HB2.out⟩
  · go_enter Try.func18, Try.ntmps18
    go_wp2_with fail
    refine K1.out.mono ?_
    rintro e w1 ⟨rfl, hb1⟩
    have HB1 := Lib.hid (HB.out.trans (hb1.mono HB.out.size))
    clear hb1 K1 K2 HS HT
    go_wp2
    go_ret
    exact ⟨by simp, HB1.out⟩
set_option maxRecDepth 4000 in
set_option maxHeartbeats 2000000 in
theorem p10keys_walk (hs : St10 w s u1 u2 u3) (ok : s.Ok) : Calls Try.prog 17 #[.agg (l10C s.c u1 u2 u3)] w (RetK w s.keys) := by
  have hl1 := ok.len_small
  have hl2 := ok.len_main
  have hlk := ok.keysLen
  clear ok
  obtain ⟨F1, n1, d1, rfl⟩ := hs.form1
  obtain ⟨F2, n2, d2, rfl⟩ := hs.form2
  obtain ⟨F3, n3, d3, rfl⟩ := hs.form3
  have hlo := low_one w (.cells (l10C s.c (.slice F1 n1 d1) (.slice F2 n2 d2) (.slice F3 n3 d3)) PT10)
  have hnew := heap_alloc_new w (.cells (l10C s.c (.slice F1 n1 d1) (.slice F2 n2 d2) (.slice F3 n3 d3)) PT10)
  have HS := Lib.hid (fun (W : World) (hb : Below w.heap.size w W) => hs.below hb)
  unfold L10.keys at *
  obtain ⟨c, l1, l2, l3⟩ := s
  simp only at *
  have HLO := Lib.hid hlo
  have hsz : w.heap.size ≤ (w.alloc (.cells (l10C c (.slice F1 n1 d1) (.slice F2 n2 d2) (.slice F3 n3 d3)) PT10)).heap.size := hlo.size
  have HLD : Hid (∀ W : World, (Below (w.alloc (.cells (l10C c (.slice F1 n1 d1) (.slice F2 n2 d2) (.slice F3 n3 d3)) PT10)).heap.size (w.alloc (.cells (l10C c (.slice F1 n1 d1) (.slice F2 n2 d2) (.slice F3 n3 d3)) PT10)) W) → W.cell? ⟨w.heap.size, 1, none⟩ = some (.slice F1 n1 d1) ∧ W.cell? ⟨w.heap.size, 2, none⟩ = some (.slice F2 n2 d2)) := Lib.hid (fun W hb => by
    obtain ⟨⟨x0, x1, x2, x3⟩, _⟩ := c4_at ((hb.block w.heap.size (by simp)).trans hnew)
    exact ⟨x1, x2⟩)
  obtain ⟨x1, x2⟩ := HLD.out _ (Below.refl _ _)
  have HLK := Lib.hid hlk
  clear hs hlo hnew hlk
  go_enter Try.func17, Try.ntmps17
  go_wp2_with fail
  generalize w.alloc (.cells (l10C c (.slice F1 n1 d1) (.slice F2 n2 d2) (.slice F3 n3 d3)) PT10) = W0 at *
  go_region_held3 (fun w' => w'.cell? ⟨w.heap.size, 1, none⟩ = some (.slice F1 n1 d1) ∧ w'.cell? ⟨w.heap.size, 2, none⟩ = some (.slice F2 n2 d2))
    (first | with_reducible exact kk3 | with_reducible exact kk2 | with_reducible exact kk1 | go_keep)
    (first
      | (go_at_call 39; refine (throughK_walk ((HS.out w1 (HLO.out.trans (hb1.mono hsz))).g2) hl2).mono ?_; rintro e w2 ⟨v2, rfl, hown2⟩; have hb2 := hb1.trans (hown2.low.mono hb1.size); have kk2 := HLD.out w2 hb2)
      | (refine step_append_kv (by rfl) (.tmp 7) (.tmp 11) (by rfl) W0.heap.size (by kernel_rfl) (by kernel_rfl) _ (keysI l1) (by rfl) (hown1.below hb1.size hown2.low) _ (keysI l2) (by rfl) hown2.kv (by have := HLK.out; rw [List.length_append] at this; omega) hb2.size ?_; intro v3 w3 hown3; have hb3 := (below_drewn (Below.refl W0.heap.size W0) _).trans hown3.low; have kk3 := HLD.out w3 hb3)
      | (go_at_call 39; refine (throughK_walk ((HS.out _ (below_drewn HLO.out _)).g1) hl1).mono ?_; rintro e w1 ⟨v1, rfl, hown1⟩; have hb1 := (below_drewn (Below.refl W0.heap.size W0) _).trans hown1.low; have kk1 := HLD.out w1 hb1))
  have HF := Lib.hid (And.intro (HLO.out.trans (hb3.mono hsz)) hown3.kv)
  clear hown1 hown2 hown3 kk1 kk2 kk3 hb1 hb2 hb3
  go_wp2
  go_ret
  exact ⟨_, rfl, HF.out.1, HF.out.2⟩
theorem p10ghosts_walk (hs : St10 w s u1 u2 u3) (_ : s.Ok) : Calls Try.prog 20 #[.agg (l10C s.c u1 u2 u3)] w fun e w' => e = .returned (.int .i64 (s.ghosts : Nat)) ∧ Below w.heap.size w w' := by
  obtain ⟨F1, n1, d1, rfl⟩ := hs.form1
  obtain ⟨F2, n2, d2, rfl⟩ := hs.form2
  obtain ⟨F3, d3, rfl, -⟩ := hs.g3.mem
  have HB := Lib.hid (low_one w (.cells (l10C s.c (.slice F1 n1 d1) (.slice F2 n2 d2) (.slice F3 s.ghost.length d3)) PT10))
  unfold L10.ghosts
  clear hs
  obtain ⟨n, hn⟩ : ∃ n, s.ghost.length = n := ⟨_, rfl⟩
  rw [hn] at HB ⊢
  clear hn
  obtain ⟨c, l1, l2, l3⟩ := s
  simp only at *
  go_enter Try.func20, Try.ntmps20
  go_wp2
  go_ret
  exact ⟨rfl, by first | exact HB.out | exact Below.refl _ _⟩
end
end Go.Proofs.Ytlekhmpalcgbmaa
