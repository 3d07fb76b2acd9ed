/- Words and walks: TqA TqD TqW TqU. -/
import Derived.Test.YtcjcddlflincdaaG1
import Derived.Test.YtcjcddlflincdaaG15
import Derived.Test.YtcjcddlflincdaaG18
import Derived.Test.YtcjcddlflincdaaG19
import Derived.Deep.RegionHeld3
import Derived.Deep.RegionWith
import Derived.Deep.DeepCutAuto
namespace Go.Proofs.Ytcjcddlflincdaa
open Go Go.RowKit Go.Deep
section
variable {w : World} {u1 u2 u3 : Value} {s : L9}
set_option maxHeartbeats 1000000 in
theorem r9keys_walk (hs : St9 w s u1 u2 u3) (ok : s.Ok) : Calls Try.prog 15 #[.agg (l9C s.c u1 u2 u3)] w (RetK w s.keys) := by
  have hl1 := ok.len_inn
  have hl3 := ok.len_main
  clear ok
  obtain ⟨F1, n1, d1, rfl⟩ := hs.form1
  obtain ⟨F2, n2, d2, rfl⟩ := hs.form2
  obtain ⟨F3, n3, d3, rfl⟩ := hs.form3
  have hlo := low_one w (.cells (l9C s.c (.slice F1 n1 d1) (.slice F2 n2 d2) (.slice F3 n3 d3)) T9)
  have hnew := heap_alloc_new w (.cells (l9C s.c (.slice F1 n1 d1) (.slice F2 n2 d2) (.slice F3 n3 d3)) T9)
  have HS := Lib.hid (fun (W : World) (hb : Below w.heap.size w W) => hs.below hb)
  unfold L9.keys
  obtain ⟨c, l1, l2, l3⟩ := s
  simp only at *
  have HLO := Lib.hid hlo
  have hsz : w.heap.size ≤ (w.alloc (.cells (l9C c (.slice F1 n1 d1) (.slice F2 n2 d2) (.slice F3 n3 d3)) T9)).heap.size := hlo.size
  have HLD : Hid (∀ W : World, (Below (w.alloc (.cells (l9C c (.slice F1 n1 d1) (.slice F2 n2 d2) (.slice F3 n3 d3)) T9)).heap.size (w.alloc (.cells (l9C c (.slice F1 n1 d1) (.slice F2 n2 d2) (.slice F3 n3 d3)) T9)) W) → W.cell? ⟨w.heap.size, 1, none⟩ = some (.slice F1 n1 d1) ∧ W.cell? ⟨w.heap.size, 3, none⟩ = some (.slice F3 n3 d3)) := Lib.hid (fun W hb => by
    obtain ⟨⟨x0, x1, x2, x3⟩, _⟩ := c4_at ((hb.block w.heap.size (by simp)).trans hnew)
    exact ⟨x1, x3⟩)
  obtain ⟨x1, x3⟩ := HLD.out _ (Below.refl _ _)
  clear hs hlo hnew
  go_enter Try.func15, Try.ntmps15
  go_wp2_with fail
  generalize w.alloc (.cells (l9C c (.slice F1 n1 d1) (.slice F2 n2 d2) (.slice F3 n3 d3)) T9) = W0 at *
  go_region_held3 (fun w' => w'.cell? ⟨w.heap.size, 1, none⟩ = some (.slice F1 n1 d1) ∧ w'.cell? ⟨w.heap.size, 3, none⟩ = some (.slice F3 n3 d3))
    (first | with_reducible exact kk2 | with_reducible exact kk1 | go_keep)
    (first
      | (refine step_append_kv (by rfl) (.tmp 3) (.tmp 5) (by rfl) W0.heap.size (by kernel_rfl) (by kernel_rfl) _ [] (by rfl) (w0 := W0) ((KO.empty (Nat.le_refl _) (Below.refl _ _)).drewn _) _ l1 (by rfl) ((HS.out _ (below_drewn (HLO.out.trans ((low_one W0 (.cells #[] 31)).mono hsz)) _)).g1) (by simp; omega) (by simp) ?_; intro v1 w1 hown1; have kk1 := HLD.out w1 hown1.low)
      | (refine step_append_kv (by rfl) (.tmp 6) (.tmp 8) (by rfl) W0.heap.size (by kernel_rfl) (by kernel_rfl) _ _ (by rfl) hown1 _ l3 (by rfl) ((HS.out _ (HLO.out.trans (hown1.low.mono hsz))).g3) (by simp; omega) hown1.low.size ?_; intro v2 w2 hown2; have kk2 := HLD.out w2 hown2.low))
  have HF := Lib.hid (And.intro (HLO.out.trans (hown2.low.mono hsz)) hown2.kv)
  clear hown1 hown2 kk1 kk2
  go_wp2
  go_ret
  exact ⟨_, rfl, HF.out.1, HF.out.2⟩
theorem r9ghosts_walk (hs : St9 w s u1 u2 u3) (_ : s.Ok) : Calls Try.prog 20 #[.agg (l9C s.c u1 u2 u3)] w fun e w' => e = .returned (.int .i64 (s.ghosts : Nat)) ∧ Below w.heap.size w w' := by
  obtain ⟨F1, n1, d1, rfl⟩ := hs.form1
  obtain ⟨F2, d2, rfl, -⟩ := hs.g2.mem
  obtain ⟨F3, n3, d3, rfl⟩ := hs.form3
  have HB := Lib.hid (low_one w (.cells (l9C s.c (.slice F1 n1 d1) (.slice F2 s.out.length d2) (.slice F3 n3 d3)) T9))
  unfold L9.ghosts
  clear hs
  obtain ⟨n, hn⟩ : ∃ n, s.out.length = n := ⟨_, rfl⟩
  rw [hn] at HB ⊢
  clear hn
  obtain ⟨c, l1, l2, l3⟩ := s
  simp only at *
  go_enter Try.func20, Try.ntmps20
  go_wp2
  go_ret
  exact ⟨rfl, by first | exact HB.out | exact Below.refl _ _⟩
theorem L9.outAt_ok {s : L9} (h : s.out.length ≤ s.c / 2) (i : Nat) : s.outAt i = (s.inn.drop i ++ s.out).take (s.c / 2) := by
  unfold outAt
  split
  · rename_i e
    rw [e, List.drop_length, List.nil_append, List.take_of_length_le h]
  · rfl
theorem L9.outAt_fall (s : L9) (i : Nat) : (s.outAt i).take (s.c / 2) = (s.inn.drop i ++ s.out).take (s.c / 2) := by
  unfold outAt
  split
  · rename_i e
    rw [e, List.drop_length, List.nil_append]
  · rw [List.take_take, Nat.min_self]
set_option maxHeartbeats 4000000 in
theorem r9admit_walk (hs : St9 w s u1 u2 u3) (ok : s.Ok) (k : Nat) (_ : k < 18446744073709551616) : Calls Try.prog 34 #[.agg (l9C s.c u1 u2 u3), .int .u64 (k : Nat)] w (P9o w (s.adm k) (s.admitOut k)) := by
  obtain ⟨F1, n1, d1, rfl⟩ := hs.form1
  obtain ⟨F2, n2, d2, rfl⟩ := hs.form2
  obtain ⟨F3, n3, d3, rfl⟩ := hs.form3
  have HX0 := Lib.hid (Bx9.start w T9 (by decide) hs)
  have KK := Lib.hid (r9keys_walk HX0.out.st ok)
  have HLK := Lib.hid ok.keysLen
  have HOK := Lib.hid ok
  have hpos := ok.pos
  have hcap := ok.cap
  unfold L9.adm L9.admitOut
  have HFG : Hid (∀ W v1 v2 v3, St9 W (s.forget k) v1 v2 v3 → Calls Try.prog 53 #[.agg (l9C s.c v1 v2 v3), .int .i64 ((s.c - 1 : Nat) : Int)] W (P9o W ((s.forget k).shr (s.c - 1)) ((s.forget k).shrOut (s.c - 1)))) := Lib.hid (fun W v1 v2 v3 h => by
    have hl := HOK.out.len
    have ho := HOK.out.olen
    have hw := wo_len k s.out
    have h2 := r9shrink_walk h (HOK.out.fine.forget k) (by show s.inn.length ≤ _; omega) (by show (wo k s.out).length ≤ _; omega) (by show s.main.length ≤ _; omega) hcap (s.c - 1) (by omega)
    rw [L9.outAt_ok (by show (wo k s.out).length ≤ s.c / 2; omega)] at h2
    exact h2)
  have HTL : Hid (∀ N, ((s.forget k).shr N).inn.length ≤ 100000000 ∧ ((s.forget k).shr N).main.length ≤ 100000000) := Lib.hid (fun N => by
    have hl := HOK.out.len
    have h1 : ((s.forget k).shr N).inn.length ≤ s.inn.length := List.length_take_le' _ _
    have h2 : ((s.forget k).shr N).main.length ≤ s.main.length := List.length_take_le' _ _
    omega)
  have hol := ok.len_out
  clear ok hs
  obtain ⟨b, hb⟩ : ∃ b, decide (k ∈ s.out) = b := ⟨_, rfl⟩
  have HBO := Lib.hid hb
  rw [hb]
  clear hb
  obtain ⟨c', hc'⟩ : ∃ c', s.c - 1 = c' := ⟨_, rfl⟩
  have hcI : (s.c : Int) - 1 = (c' : Int) := by omega
  rw [hc'] at HFG ⊢
  clear hc' HOK
  generalize hW0 : World.alloc _ (.cells z9 T9) = W0 at HX0 KK
  have HW0 := Lib.hid hW0
  clear hW0
  by_cases hin : k ∈ s.keys
  · rw [if_pos hin, if_pos hin]
    go_enter Try.func34, Try.ntmps34
    go_wp2_with fail
    rw [HW0.out]
    clear HW0
    refine KK.out.mono ?_
    rintro e w1 ⟨v1, rfl, hb1, hk1⟩
    have KH := Lib.hid (rhas_walk hk1 HLK.out k)
    have HX1 := Lib.hid (HX0.out.step hb1)
    clear hb1 hk1 KK HX0 HLK
    rw [decide_eq_true hin] at KH
    clear hin
    go_wp2_with fail
    refine KH.out.mono ?_
    rintro e w2 ⟨rfl, rfl⟩
    obtain ⟨⟨x0, x1, x2, x3⟩, xf0, xf1, xf2, xf3⟩ := c4_at HX1.out.bo.box
    obtain ⟨⟨y0, y1, y2, y3⟩, yf0, yf1, yf2, yf3⟩ := c4_at HX1.out.bo.res
    have hbb := (head_row HX1.out.bo.box).lt
    have hrr := (head_row HX1.out.bo.res).lt
    clear KH HFG HTL
    go_wp2
    exact bodyPost_ret (v := .tuple #[.agg (l9C s.c (.slice F1 n1 d1) (.slice F2 n2 d2) (.slice F3 n3 d3)), .slice none 0 0]) (by simp [results, Try.results34, go_sem, y0, y1, y2, y3]) rfl (HX1.out.doneo (KV.nil _))
  · rw [if_neg hin, if_neg hin]
    go_enter Try.func34, Try.ntmps34
    go_wp2_with fail
    rw [HW0.out]
    clear HW0
    refine KK.out.mono ?_
    rintro e w1 ⟨v1, rfl, hb1, hk1⟩
    have KH := Lib.hid (rhas_walk hk1 HLK.out k)
    have HX1 := Lib.hid (HX0.out.step hb1)
    clear hb1 hk1 KK HX0 HLK
    rw [decide_eq_false hin] at KH
    clear hin
    go_wp2_with fail
    refine KH.out.mono ?_
    rintro e w2 ⟨rfl, rfl⟩
    obtain ⟨⟨x0, x1, x2, x3⟩, xf0, xf1, xf2, xf3⟩ := c4_at HX1.out.bo.box
    have hbb := (head_row HX1.out.bo.box).lt
    have KH2 := Lib.hid (rhas_walk HX1.out.st.g2 hol k)
    rw [HBO.out] at KH2
    have KW := Lib.hid (rwithout_walk HX1.out.st.g2 hol k)
    clear KH HBO
    go_wp2_with fail
    refine KH2.out.mono ?_
    rintro e w2b ⟨rfl, rfl⟩
    clear KH2
    go_wp2_with fail
    refine KW.out.mono ?_
    rintro e va ⟨oa, rfl, ha⟩
    obtain ⟨Fa, na, da, rfl⟩ := ha.kv.form
    have hxa := HX1.out.step ha.low
    clear x0 x1 x2 x3 xf0 xf1 xf2 xf3 hbb
    obtain ⟨⟨x0, x1, x2, x3⟩, xf0, xf1, xf2, xf3⟩ := c4_at hxa.bo.box
    have hbb := (head_row hxa.bo.box).lt
    have hya := hxa.set2 ha.kv
    generalize hWa : va.setCell ⟨w.heap.size, 2, none⟩ (.slice Fa na da) = wa at hya
    have HWa := Lib.hid hWa
    have HXa := Lib.hid hya
    clear ha hWa hxa hya HX1 KW
    have KS := Lib.hid (HFG.out _ _ _ _ HXa.out.st)
    go_wp2_with fail
    rw [HWa.out]
    clear HWa
    refine KS.out.mono ?_
    rintro e wb ⟨q1, q2, q3, ob, he, hbb2, hsb, hob⟩
    obtain ⟨Fp1, np1, dp1, rfl⟩ := hsb.form1
    obtain ⟨Fp2, np2, dp2, rfl⟩ := hsb.form2
    obtain ⟨Fp3, np3, dp3, rfl⟩ := hsb.form3
    have he' : e = .returned (.tuple #[.agg (l9C s.c (.slice Fp1 np1 dp1) (.slice Fp2 np2 dp2) (.slice Fp3 np3 dp3)), ob]) := he
    subst he'
    have hxp := (HXa.out.step hbb2).alloc hsb
    have HOB := Lib.hid (hob.below (low_one wb (.cells (l9C s.c (.slice Fp1 np1 dp1) (.slice Fp2 np2 dp2) (.slice Fp3 np3 dp3)) T9)))
    have hne : w.heap.size + 2 ≤ wb.heap.size := by have := (head_row (HXa.out.step hbb2).bo.res).lt; omega
    have hcc : ((s.forget k).shr c').c = s.c := rfl
    obtain ⟨hlt1, hlt3⟩ := HTL.out c'
    clear x0 x1 x2 x3 xf0 xf1 xf2 xf3 hbb
    clear he hbb2 hsb hob HFG HTL KS HXa
    generalize (s.forget k).shr c' = t at *
    generalize (s.forget k).shrOut c' = out at *
    obtain ⟨tc, ti, tO, tm⟩ := t
    dsimp only at hcc hlt1 hlt3
    subst hcc
    have HXp := Lib.hid hxp
    clear hxp
    cases b
    · have KF := Lib.hid (rfront_walk HXp.out.st.g1 hlt1 k)
      go_wp2_with fail
      refine KF.out.mono ?_
      rintro e vf ⟨of, rfl, hf⟩
      obtain ⟨Ff, nf, df, rfl⟩ := hf.kv.form
      have hxf := HXp.out.step hf.low
      obtain ⟨⟨x0, x1, x2, x3⟩, xf0, xf1, xf2, xf3⟩ := c4_at hxf.bo.box
      have hbb := (head_row hxf.bo.box).lt
      have hyf := hxf.set1 hf.kv
      have HOF := Lib.hid (hxf.kv (i := 1) (x := .slice Ff nf df) (HOB.out.below hf.low))
      obtain ⟨⟨y0, y1, y2, y3⟩, yf0, yf1, yf2, yf3⟩ := c4_at hxf.bo.res
      have hrr := (head_row hxf.bo.res).lt
      have HXf := Lib.hid hyf
      clear hf hxf hyf HXp KF HOB
      have hd := HXf.out.doneo HOF.out
      have HD := Lib.hid hd
      clear hd HXf HOF
      go_wp2
      exact bodyPost_ret (v := .tuple #[.agg (l9C s.c (.slice Ff nf df) (.slice Fp2 np2 dp2) (.slice Fp3 np3 dp3)), ob]) (by simp [results, Try.results34, go_sem, y0, y1, y2, y3]) rfl HD.out
    · have KF := Lib.hid (rfront_walk HXp.out.st.g3 hlt3 k)
      go_wp2_with fail
      refine KF.out.mono ?_
      rintro e vf ⟨of, rfl, hf⟩
      obtain ⟨Ff, nf, df, rfl⟩ := hf.kv.form
      have hxf := HXp.out.step hf.low
      obtain ⟨⟨x0, x1, x2, x3⟩, xf0, xf1, xf2, xf3⟩ := c4_at hxf.bo.box
      have hbb := (head_row hxf.bo.box).lt
      have hyf := hxf.set3 hf.kv
      have HOF := Lib.hid (hxf.kv (i := 3) (x := .slice Ff nf df) (HOB.out.below hf.low))
      obtain ⟨⟨y0, y1, y2, y3⟩, yf0, yf1, yf2, yf3⟩ := c4_at hxf.bo.res
      have hrr := (head_row hxf.bo.res).lt
      have HXf := Lib.hid hyf
      clear hf hxf hyf HXp KF HOB
      have hd := HXf.out.doneo HOF.out
      have HD := Lib.hid hd
      clear hd HXf HOF
      go_wp2
      exact bodyPost_ret (v := .tuple #[.agg (l9C s.c (.slice Fp1 np1 dp1) (.slice Fp2 np2 dp2) (.slice Ff nf df)), ob]) (by simp [results, Try.results34, go_sem, y0, y1, y2, y3]) rfl HD.out
set_option maxHeartbeats 4000000 in
theorem r9resize_walk (hs : St9 w s u1 u2 u3) (ok : s.Ok) (n : Int) (hn1 : -9223372036854775808 ≤ n) (hn2 : n ≤ 9223372036854775807) : Calls Try.prog 36 #[.agg (l9C s.c u1 u2 u3), .int .i64 n] w (P9o w (s.resize n) (s.resizeOut n)) := by
  obtain ⟨F1, n1, d1, rfl⟩ := hs.form1
  obtain ⟨F2, n2, d2, rfl⟩ := hs.form2
  obtain ⟨F3, n3, d3, rfl⟩ := hs.form3
  have HX0 := Lib.hid (Bx9.start w T9 (by decide) hs)
  have KC := Lib.hid (rcap_walk (w := (w.alloc (.cells (l9C s.c (.slice F1 n1 d1) (.slice F2 n2 d2) (.slice F3 n3 d3)) T9)).alloc (.cells z9 T9)) n hn1 hn2)
  have HCP := Lib.hid (capI_pos n)
  unfold L9.resize L9.resizeOut
  obtain ⟨c', hc'⟩ : ∃ c', capI n = c' := ⟨_, rfl⟩
  rw [hc'] at KC HCP ⊢
  have HFG : Hid (∀ W v1 v2 v3, St9 W (s.sized c') v1 v2 v3 → Calls Try.prog 53 #[.agg (l9C c' v1 v2 v3), .int .i64 (c' : Nat)] W (P9o W ⟨c', s.inn.take ((s.sized c').li c'), (s.sized c').outAt ((s.sized c').li c'), s.main.take ((s.sized c').lm c')⟩ ((s.sized c').shrOut c'))) := Lib.hid (fun W v1 v2 v3 h => by
    have hl := ok.len
    have hcap := ok.cap
    have ho := ok.olen
    exact r9shrink_walk h (ok.fine.sized c') (by show s.inn.length ≤ _; omega) (by show s.out.length ≤ _; omega) (by show s.main.length ≤ _; omega) HCP.out.2 c' HCP.out.2)
  have HFL : Hid (∀ i, ((s.sized c').outAt i).length ≤ 100000000) := Lib.hid (fun i => by
    have := (s.sized c').outAt_len i (by have := ok.olen; have := ok.cap; show s.out.length ≤ _; omega) HCP.out.2
    omega)
  have HEQ := Lib.hid ((s.sized c').outAt_fall ((s.sized c').li c'))
  have hc2 := HCP.out.2
  clear ok hs hc'
  generalize hW0 : World.alloc _ (.cells z9 T9) = W0 at HX0 KC
  have HW0 := Lib.hid hW0
  clear hW0
  go_enter Try.func36, Try.ntmps36
  go_wp2_with fail
  rw [HW0.out]
  clear HW0
  refine KC.out.mono ?_
  rintro e w1 ⟨rfl, rfl⟩
  obtain ⟨⟨x0, x1, x2, x3⟩, xf0, xf1, xf2, xf3⟩ := c4_at HX0.out.bo.box
  have hbb := (head_row HX0.out.bo.box).lt
  have hy := HX0.out.set0 c'
  generalize hWa : W0.setCell ⟨w.heap.size, 0, none⟩ (.int .i64 (c' : Nat)) = wa at hy
  have HWa := Lib.hid hWa
  have HXa := Lib.hid hy
  have KS := Lib.hid (HFG.out _ _ _ _ HXa.out.st)
  clear hWa hy HX0 KC HFG
  go_wp2_with fail
  rw [HWa.out]
  clear HWa
  refine KS.out.mono ?_
  rintro e wb ⟨q1, q2, q3, ob, he, hbb2, hsb, hob⟩
  obtain ⟨Fp1, np1, dp1, rfl⟩ := hsb.form1
  obtain ⟨Fp2, np2, dp2, rfl⟩ := hsb.form2
  obtain ⟨Fp3, np3, dp3, rfl⟩ := hsb.form3
  have he' : e = .returned (.tuple #[.agg (l9C c' (.slice Fp1 np1 dp1) (.slice Fp2 np2 dp2) (.slice Fp3 np3 dp3)), ob]) := he
  subst he'
  have HBO := Lib.hid ((HXa.out.step hbb2).bo.step (low_one wb (.cells (l9C c' (.slice Fp1 np1 dp1) (.slice Fp2 np2 dp2) (.slice Fp3 np3 dp3)) T9)))
  have KF := Lib.hid (r9fall_walk (hsb.below (low_one wb (.cells (l9C c' (.slice Fp1 np1 dp1) (.slice Fp2 np2 dp2) (.slice Fp3 np3 dp3)) T9))) (HFL.out _) hc2)
  have HOB := Lib.hid (hob.below (low_one wb (.cells (l9C c' (.slice Fp1 np1 dp1) (.slice Fp2 np2 dp2) (.slice Fp3 np3 dp3)) T9)))
  clear x0 x1 x2 x3 xf0 xf1 xf2 xf3 hbb
  clear he hbb2 hsb hob KS HXa HFL HCP
  go_wp2_with fail
  refine KF.out.mono ?_
  rintro e wc ⟨v1, v2, v3, he, hbc, hsc, _, _, _⟩
  obtain ⟨Fc1, nc1, dc1, rfl⟩ := hsc.form1
  obtain ⟨Fc2, nc2, dc2, rfl⟩ := hsc.form2
  obtain ⟨Fc3, nc3, dc3, rfl⟩ := hsc.form3
  have he' : e = .returned (.agg (l9C c' (.slice Fc1 nc1 dc1) (.slice Fc2 nc2 dc2) (.slice Fc3 nc3 dc3))) := he
  subst he'
  have hbo := HBO.out.step hbc
  obtain ⟨⟨y0, y1, y2, y3⟩, yf0, yf1, yf2, yf3⟩ := c4_at hbo.res
  have hrr := (head_row hbo.res).lt
  have HB2 := Lib.hid hbo
  have HSC := Lib.hid hsc
  have HO2 := Lib.hid (HOB.out.below hbc)
  clear hbo hsc hbc he KF HBO HOB
  go_wp2
  have HO : Hid (Only [w.heap.size, w.heap.size + 1] wc ((((wc.setCell ⟨w.heap.size + 1, 0, none⟩ (.int .i64 (c' : Nat))).setCell ⟨w.heap.size + 1, 1, none⟩ (.slice Fc1 nc1 dc1)).setCell ⟨w.heap.size + 1, 2, none⟩ (.slice Fc2 nc2 dc2)).setCell ⟨w.heap.size + 1, 3, none⟩ (.slice Fc3 nc3 dc3))) := Lib.hid (((((Only.refl _ _).setCell (by simp) _).setCell (by simp) _).setCell (by simp) _).setCell (by simp) _)
  exact bodyPost_ret (v := .tuple #[.agg (l9C c' (.slice Fc1 nc1 dc1) (.slice Fc2 nc2 dc2) (.slice Fc3 nc3 dc3)), ob]) (by simp [results, Try.results36, go_sem, y0, y1, y2, y3]) rfl ⟨_, _, _, _, rfl, HB2.out.fin HO.out, by
    have h := HB2.out.st9 HO.out HSC.out
    have e := HEQ.out
    rw [show (s.sized c').c = c' from rfl] at e
    rw [e] at h
    exact h, HB2.out.kv HO.out HO2.out⟩
end
section
variable {w : World} {u1 u2 u3 : Value} {s : L9}
abbrev Ld9 (w' : World) (b a : Nat) (c : Nat) (F1 : Option Addr) (n1 d1 : Nat) (F2 : Option Addr) (n2 d2 : Nat) (F3 : Option Addr) (n3 d3 : Nat) (x : Act8) : Prop := w'.cell? ⟨b, 0, none⟩ = some (.int .i64 (c : Nat)) ∧ w'.cell? ⟨b, 1, none⟩ = some (.slice F1 n1 d1) ∧ w'.cell? ⟨b, 2, none⟩ = some (.slice F2 n2 d2) ∧ w'.cell? ⟨b, 3, none⟩ = some (.slice F3 n3 d3) ∧ w'.cell? ⟨a, 0, none⟩ = some (.int .u8 (x.kind : Nat)) ∧ w'.cell? ⟨a, 1, none⟩ = some (.int .u64 (x.key : Nat)) ∧ w'.cell? ⟨a, 2, none⟩ = some (.int .u16 (x.n : Nat))
theorem ld9 {T : TypeId} {zs : Array Value} {w w1 : World} {b r a : Nat} {c : Nat} {F1 : Option Addr} {n1 d1 : Nat} {F2 : Option Addr} {n2 d2 : Nat} {F3 : Option Addr} {n3 d3 : Nat} {x : Act8} (h : Bo w w1 T b r (l9C c (.slice F1 n1 d1) (.slice F2 n2 d2) (.slice F3 n3 d3)) zs) (ha : w1.heap[a]? = some (.cells (act8C x) 34 (0, 0))) : Ld9 w1 b a c F1 n1 d1 F2 n2 d2 F3 n3 d3 x := by
  obtain ⟨⟨x0, x1, x2, x3⟩, xf0, xf1, xf2, xf3⟩ := c4_at h.box
  obtain ⟨⟨a0, a1, a2⟩, _⟩ := c3_at ha
  exact ⟨x0, x1, x2, x3, a0, a1, a2⟩
set_option maxHeartbeats 8000000 in
set_option maxRecDepth 4000 in
theorem r9do_walk (h : St9 w s u1 u2 u3) (ok : s.Ok) (x : Act8) (wf : x.Ok) : Calls Try.prog 11 #[.agg (l9C s.c u1 u2 u3), .agg (act8C x)] w (P9o w (s.act x) (s.actOut x)) := by
  obtain ⟨F1, n1, d1, rfl⟩ := h.form1
  obtain ⟨F2, n2, d2, rfl⟩ := h.form2
  obtain ⟨F3, n3, d3, rfl⟩ := h.form3
  obtain ⟨h0, ha⟩ := Bo.start3 w T9 34 (l9C s.c (.slice F1 n1 d1) (.slice F2 n2 d2) (.slice F3 n3 d3)) (act8C x) z9 rfl rfl (by decide)
  have HB := Lib.hid h0
  have HA := Lib.hid ha
  have hc := L9.act_cases s x
  obtain ⟨q, hq⟩ : ∃ q, kindA x (decide (x.key ∈ s.keys)) = q := ⟨_, rfl⟩
  have KY : Hid (∀ W, Below w.heap.size w W → Calls Try.prog 15 #[.agg (l9C s.c (.slice F1 n1 d1) (.slice F2 n2 d2) (.slice F3 n3 d3))] W (RetK W s.keys)) := Lib.hid (fun W hb => r9keys_walk (h.below hb) ok)
  have KH : Hid (∀ W v, KV W v s.keys → Calls Try.prog 18 #[v, .int .u64 (x.key : Nat)] W fun e w' => e = .returned (.bool (decide (x.key ∈ s.keys))) ∧ W = w') := Lib.hid (fun W v hk => rhas_walk hk ok.keysLen x.key)
  have KK : Hid (∀ W, Calls Try.prog 31 #[.agg (act8C x), .bool (decide (x.key ∈ s.keys))] W fun e w' => e = .returned (.int .i64 (q : Nat)) ∧ Below W.heap.size W w') := Lib.hid (fun W => by rw [← hq]; exact rkind_walk x wf _)
  have KS : Hid (∀ W, Calls Try.prog 32 #[.agg (act8C x)] W fun e w' => e = .returned (.int .i64 (sizeA x : Nat)) ∧ Below W.heap.size W w') := Lib.hid (fun W => rsize_walk x wf)
  have KT : Hid (∀ W, Below w.heap.size w W → Calls Try.prog 33 #[.agg (l9C s.c (.slice F1 n1 d1) (.slice F2 n2 d2) (.slice F3 n3 d3)), .int .u64 (x.key : Nat)] W (P9 W (s.touch x.key))) := Lib.hid (fun W hb => r9touch_walk (h.below hb) ok x.key)
  have KA : Hid (∀ W, Below w.heap.size w W → Calls Try.prog 34 #[.agg (l9C s.c (.slice F1 n1 d1) (.slice F2 n2 d2) (.slice F3 n3 d3)), .int .u64 (x.key : Nat)] W (P9o W (s.adm x.key) (s.admitOut x.key))) := Lib.hid (fun W hb => r9admit_walk (h.below hb) ok x.key wf.key)
  have KD : Hid (∀ W, Below w.heap.size w W → Calls Try.prog 35 #[.agg (l9C s.c (.slice F1 n1 d1) (.slice F2 n2 d2) (.slice F3 n3 d3)), .int .u64 (x.key : Nat)] W (P9 W (s.drop x.key))) := Lib.hid (fun W hb => r9drop_walk (h.below hb) ok x.key)
  have hz := sizeA_is x
  have KR : Hid (∀ W, Below w.heap.size w W → Calls Try.prog 36 #[.agg (l9C s.c (.slice F1 n1 d1) (.slice F2 n2 d2) (.slice F3 n3 d3)), .int .i64 (sizeA x : Nat)] W (P9o W (s.resize (sizeA x : Nat)) (s.resizeOut (sizeA x : Nat)))) := Lib.hid (fun W hb => r9resize_walk (h.below hb) ok _ (by omega) (by omega))
  rw [hq] at hc
  generalize decide (x.key ∈ s.keys) = bb at KH KK hq
  generalize sizeA x = z at KS KR hz hc
  clear hq h0 ha h ok wf hz
  obtain ⟨x0, x1, x2, x3, a0, a1, a2⟩ := ld9 HB.out HA.out
  generalize hW0 : (((w.alloc (.cells (l9C s.c (.slice F1 n1 d1) (.slice F2 n2 d2) (.slice F3 n3 d3)) T9)).alloc (.cells (act8C x) 34)).alloc (.cells z9 T9)) = W0 at HB HA x0 x1 x2 x3 a0 a1 a2
  have HW0 := Lib.hid hW0
  clear hW0
  have hne0 : w.heap.size + 1 + 1 ≠ w.heap.size := by omega
  have hne1 : w.heap.size ≠ w.heap.size + 1 + 1 := by omega
  rcases hc with ⟨rfl, e1, e2⟩ | ⟨rfl, e1, e2⟩ | ⟨rfl, e1, e2⟩ | ⟨rfl, e1, e2⟩
  · rw [e1, e2]
    clear e1 e2
    go_enter Try.func11, Try.ntmps11
    go_wp2_with fail
    rw [HW0.out]
    clear HW0
    go_region_held3 (fun w' => w'.cell? ⟨w.heap.size, 0, none⟩ = some (.int .i64 ((s).c : Nat)) ∧ w'.cell? ⟨w.heap.size, 1, none⟩ = some (.slice F1 n1 d1) ∧ w'.cell? ⟨w.heap.size, 2, none⟩ = some (.slice F2 n2 d2) ∧ w'.cell? ⟨w.heap.size, 3, none⟩ = some (.slice F3 n3 d3) ∧ w'.cell? ⟨w.heap.size + 1, 0, none⟩ = some (.int .u8 (x.kind : Nat)) ∧ w'.cell? ⟨w.heap.size + 1, 1, none⟩ = some (.int .u64 (x.key : Nat)) ∧ w'.cell? ⟨w.heap.size + 1, 2, none⟩ = some (.int .u16 (x.n : Nat))) (first | with_reducible exact kk5 | with_reducible exact kk4 | go_keep)
      (first
        | (go_at_call 15; refine (KY.out _ (below_drewn HB.out.low _)).mono ?_; rintro e w4 ⟨v4, rfl, hb4, hk4⟩; have hB4 := HB.out.step ((below_drewn (Below.refl _ _) _).trans hb4); have hA4 := (hb4.block (w.heap.size + 1) (head_row HA.out).lt).trans HA.out; have kk4 := ld9 hB4 hA4)
        | (go_at_call 18; refine (KH.out _ _ hk4).mono ?_; rintro e w5 ⟨rfl, rfl⟩)
        | (go_at_call 31; refine (KK.out _).mono ?_; rintro e w6 ⟨rfl, hb6⟩; have hB6 := hB4.step hb6; have hA6 := (hb6.block (w.heap.size + 1) (head_row hA4).lt).trans hA4; have kk5 := ld9 hB6 hA6))
    have HB6 := Lib.hid hB6
    have HA6 := Lib.hid hA6
    obtain ⟨x0, x1, x2, x3, a0, a1, a2⟩ := kk5
    clear hB6 hA6 hb6 hB4 hA4 hb4 hk4 kk4 KY KH KK HB HA
    go_wp2_with fail
    refine (KT.out w6 HB6.out.low).mono ?_
    rintro e w7 ⟨q1, q2, q3, he, hb7, hk7⟩
    obtain ⟨Fa1, na1, da1, rfl⟩ := hk7.form1
    obtain ⟨Fa2, na2, da2, rfl⟩ := hk7.form2
    obtain ⟨Fa3, na3, da3, rfl⟩ := hk7.form3
    have HB7 := Lib.hid (HB6.out.step hb7)
    have HV := Lib.hid hk7
    subst he
    obtain ⟨⟨y0, y1, y2, y3⟩, yf0, yf1, yf2, yf3⟩ := c4_at HB7.out.res
    have hrr := (head_row HB7.out.res).lt
    clear hb7 hk7 HB6 HA6 KT KA KD KR KS
    go_wp2
    have HO : Hid (Only [w.heap.size, w.heap.size + 1 + 1] w7 ((((w7.setCell ⟨w.heap.size + 1 + 1, 0, none⟩ (.int .i64 ((s.touch x.key).c : Nat))).setCell ⟨w.heap.size + 1 + 1, 1, none⟩ (.slice Fa1 na1 da1)).setCell ⟨w.heap.size + 1 + 1, 2, none⟩ (.slice Fa2 na2 da2)).setCell ⟨w.heap.size + 1 + 1, 3, none⟩ (.slice Fa3 na3 da3))) := Lib.hid (((((Only.refl _ _).setCell (by simp) _).setCell (by simp) _).setCell (by simp) _).setCell (by simp) _)
    exact bodyPost_ret (v := .tuple #[.agg (l9C (s.touch x.key).c (.slice Fa1 na1 da1) (.slice Fa2 na2 da2) (.slice Fa3 na3 da3)), .slice none 0 0]) (by simp [results, Try.results11, go_sem, y0, y1, y2, y3]) rfl ⟨_, _, _, _, rfl, HB7.out.fin HO.out, HB7.out.st9 HO.out HV.out, KV.nil _⟩
  · rw [e1, e2]
    clear e1 e2
    go_enter Try.func11, Try.ntmps11
    go_wp2_with fail
    rw [HW0.out]
    clear HW0
    go_region_held3 (fun w' => w'.cell? ⟨w.heap.size, 0, none⟩ = some (.int .i64 ((s).c : Nat)) ∧ w'.cell? ⟨w.heap.size, 1, none⟩ = some (.slice F1 n1 d1) ∧ w'.cell? ⟨w.heap.size, 2, none⟩ = some (.slice F2 n2 d2) ∧ w'.cell? ⟨w.heap.size, 3, none⟩ = some (.slice F3 n3 d3) ∧ w'.cell? ⟨w.heap.size + 1, 0, none⟩ = some (.int .u8 (x.kind : Nat)) ∧ w'.cell? ⟨w.heap.size + 1, 1, none⟩ = some (.int .u64 (x.key : Nat)) ∧ w'.cell? ⟨w.heap.size + 1, 2, none⟩ = some (.int .u16 (x.n : Nat))) (first | with_reducible exact kk5 | with_reducible exact kk4 | go_keep)
      (first
        | (go_at_call 15; refine (KY.out _ (below_drewn HB.out.low _)).mono ?_; rintro e w4 ⟨v4, rfl, hb4, hk4⟩; have hB4 := HB.out.step ((below_drewn (Below.refl _ _) _).trans hb4); have hA4 := (hb4.block (w.heap.size + 1) (head_row HA.out).lt).trans HA.out; have kk4 := ld9 hB4 hA4)
        | (go_at_call 18; refine (KH.out _ _ hk4).mono ?_; rintro e w5 ⟨rfl, rfl⟩)
        | (go_at_call 31; refine (KK.out _).mono ?_; rintro e w6 ⟨rfl, hb6⟩; have hB6 := hB4.step hb6; have hA6 := (hb6.block (w.heap.size + 1) (head_row hA4).lt).trans hA4; have kk5 := ld9 hB6 hA6))
    have HB6 := Lib.hid hB6
    have HA6 := Lib.hid hA6
    obtain ⟨x0, x1, x2, x3, a0, a1, a2⟩ := kk5
    clear hB6 hA6 hb6 hB4 hA4 hb4 hk4 kk4 KY KH KK HB HA
    go_wp2_with fail
    refine (KA.out w6 HB6.out.low).mono ?_
    rintro e w7 ⟨q1, q2, q3, o7, he, hb7, hk7, ho7⟩
    obtain ⟨Fa1, na1, da1, rfl⟩ := hk7.form1
    obtain ⟨Fa2, na2, da2, rfl⟩ := hk7.form2
    obtain ⟨Fa3, na3, da3, rfl⟩ := hk7.form3
    have HB7 := Lib.hid (HB6.out.step hb7)
    have HV := Lib.hid hk7
    have HVO := Lib.hid ho7
    subst he
    obtain ⟨⟨y0, y1, y2, y3⟩, yf0, yf1, yf2, yf3⟩ := c4_at HB7.out.res
    have hrr := (head_row HB7.out.res).lt
    clear hb7 hk7 ho7 HB6 HA6 KT KA KD KR KS
    go_wp2
    have HO : Hid (Only [w.heap.size, w.heap.size + 1 + 1] w7 ((((w7.setCell ⟨w.heap.size + 1 + 1, 0, none⟩ (.int .i64 ((s.adm x.key).c : Nat))).setCell ⟨w.heap.size + 1 + 1, 1, none⟩ (.slice Fa1 na1 da1)).setCell ⟨w.heap.size + 1 + 1, 2, none⟩ (.slice Fa2 na2 da2)).setCell ⟨w.heap.size + 1 + 1, 3, none⟩ (.slice Fa3 na3 da3))) := Lib.hid (((((Only.refl _ _).setCell (by simp) _).setCell (by simp) _).setCell (by simp) _).setCell (by simp) _)
    exact bodyPost_ret (v := .tuple #[.agg (l9C (s.adm x.key).c (.slice Fa1 na1 da1) (.slice Fa2 na2 da2) (.slice Fa3 na3 da3)), o7]) (by simp [results, Try.results11, go_sem, y0, y1, y2, y3]) rfl ⟨_, _, _, _, rfl, HB7.out.fin HO.out, HB7.out.st9 HO.out HV.out, HB7.out.kv HO.out HVO.out⟩
  · rw [e1, e2]
    clear e1 e2
    go_enter Try.func11, Try.ntmps11
    go_wp2_with fail
    rw [HW0.out]
    clear HW0
    go_region_held3 (fun w' => w'.cell? ⟨w.heap.size, 0, none⟩ = some (.int .i64 ((s).c : Nat)) ∧ w'.cell? ⟨w.heap.size, 1, none⟩ = some (.slice F1 n1 d1) ∧ w'.cell? ⟨w.heap.size, 2, none⟩ = some (.slice F2 n2 d2) ∧ w'.cell? ⟨w.heap.size, 3, none⟩ = some (.slice F3 n3 d3) ∧ w'.cell? ⟨w.heap.size + 1, 0, none⟩ = some (.int .u8 (x.kind : Nat)) ∧ w'.cell? ⟨w.heap.size + 1, 1, none⟩ = some (.int .u64 (x.key : Nat)) ∧ w'.cell? ⟨w.heap.size + 1, 2, none⟩ = some (.int .u16 (x.n : Nat))) (first | with_reducible exact kk5 | with_reducible exact kk4 | go_keep)
      (first
        | (go_at_call 15; refine (KY.out _ (below_drewn HB.out.low _)).mono ?_; rintro e w4 ⟨v4, rfl, hb4, hk4⟩; have hB4 := HB.out.step ((below_drewn (Below.refl _ _) _).trans hb4); have hA4 := (hb4.block (w.heap.size + 1) (head_row HA.out).lt).trans HA.out; have kk4 := ld9 hB4 hA4)
        | (go_at_call 18; refine (KH.out _ _ hk4).mono ?_; rintro e w5 ⟨rfl, rfl⟩)
        | (go_at_call 31; refine (KK.out _).mono ?_; rintro e w6 ⟨rfl, hb6⟩; have hB6 := hB4.step hb6; have hA6 := (hb6.block (w.heap.size + 1) (head_row hA4).lt).trans hA4; have kk5 := ld9 hB6 hA6))
    have HB6 := Lib.hid hB6
    have HA6 := Lib.hid hA6
    obtain ⟨x0, x1, x2, x3, a0, a1, a2⟩ := kk5
    clear hB6 hA6 hb6 hB4 hA4 hb4 hk4 kk4 KY KH KK HB HA
    go_wp2_with fail
    refine (KD.out w6 HB6.out.low).mono ?_
    rintro e w7 ⟨q1, q2, q3, he, hb7, hk7⟩
    obtain ⟨Fa1, na1, da1, rfl⟩ := hk7.form1
    obtain ⟨Fa2, na2, da2, rfl⟩ := hk7.form2
    obtain ⟨Fa3, na3, da3, rfl⟩ := hk7.form3
    have HB7 := Lib.hid (HB6.out.step hb7)
    have HV := Lib.hid hk7
    subst he
    obtain ⟨⟨y0, y1, y2, y3⟩, yf0, yf1, yf2, yf3⟩ := c4_at HB7.out.res
    have hrr := (head_row HB7.out.res).lt
    clear hb7 hk7 HB6 HA6 KT KA KD KR KS
    go_wp2
    have HO : Hid (Only [w.heap.size, w.heap.size + 1 + 1] w7 ((((w7.setCell ⟨w.heap.size + 1 + 1, 0, none⟩ (.int .i64 ((s.drop x.key).c : Nat))).setCell ⟨w.heap.size + 1 + 1, 1, none⟩ (.slice Fa1 na1 da1)).setCell ⟨w.heap.size + 1 + 1, 2, none⟩ (.slice Fa2 na2 da2)).setCell ⟨w.heap.size + 1 + 1, 3, none⟩ (.slice Fa3 na3 da3))) := Lib.hid (((((Only.refl _ _).setCell (by simp) _).setCell (by simp) _).setCell (by simp) _).setCell (by simp) _)
    exact bodyPost_ret (v := .tuple #[.agg (l9C (s.drop x.key).c (.slice Fa1 na1 da1) (.slice Fa2 na2 da2) (.slice Fa3 na3 da3)), .slice none 0 0]) (by simp [results, Try.results11, go_sem, y0, y1, y2, y3]) rfl ⟨_, _, _, _, rfl, HB7.out.fin HO.out, HB7.out.st9 HO.out HV.out, KV.nil _⟩
  · rw [e1, e2]
    clear e1 e2
    go_enter Try.func11, Try.ntmps11
    go_wp2_with fail
    rw [HW0.out]
    clear HW0
    go_region_held3 (fun w' => w'.cell? ⟨w.heap.size, 0, none⟩ = some (.int .i64 ((s).c : Nat)) ∧ w'.cell? ⟨w.heap.size, 1, none⟩ = some (.slice F1 n1 d1) ∧ w'.cell? ⟨w.heap.size, 2, none⟩ = some (.slice F2 n2 d2) ∧ w'.cell? ⟨w.heap.size, 3, none⟩ = some (.slice F3 n3 d3) ∧ w'.cell? ⟨w.heap.size + 1, 0, none⟩ = some (.int .u8 (x.kind : Nat)) ∧ w'.cell? ⟨w.heap.size + 1, 1, none⟩ = some (.int .u64 (x.key : Nat)) ∧ w'.cell? ⟨w.heap.size + 1, 2, none⟩ = some (.int .u16 (x.n : Nat))) (first | with_reducible exact kk5 | with_reducible exact kk4 | go_keep)
      (first
        | (go_at_call 15; refine (KY.out _ (below_drewn HB.out.low _)).mono ?_; rintro e w4 ⟨v4, rfl, hb4, hk4⟩; have hB4 := HB.out.step ((below_drewn (Below.refl _ _) _).trans hb4); have hA4 := (hb4.block (w.heap.size + 1) (head_row HA.out).lt).trans HA.out; have kk4 := ld9 hB4 hA4)
        | (go_at_call 18; refine (KH.out _ _ hk4).mono ?_; rintro e w5 ⟨rfl, rfl⟩)
        | (go_at_call 31; refine (KK.out _).mono ?_; rintro e w6 ⟨rfl, hb6⟩; have hB6 := hB4.step hb6; have hA6 := (hb6.block (w.heap.size + 1) (head_row hA4).lt).trans hA4; have kk5 := ld9 hB6 hA6))
    have HB6 := Lib.hid hB6
    have HA6 := Lib.hid hA6
    obtain ⟨x0, x1, x2, x3, a0, a1, a2⟩ := kk5
    clear hB6 hA6 hb6 hB4 hA4 hb4 hk4 kk4 KY KH KK HB HA
    go_wp2_with fail
    clear KT KA KD
    go_region_held3 (fun w' => w'.cell? ⟨w.heap.size, 0, none⟩ = some (.int .i64 ((s).c : Nat)) ∧ w'.cell? ⟨w.heap.size, 1, none⟩ = some (.slice F1 n1 d1) ∧ w'.cell? ⟨w.heap.size, 2, none⟩ = some (.slice F2 n2 d2) ∧ w'.cell? ⟨w.heap.size, 3, none⟩ = some (.slice F3 n3 d3) ∧ w'.cell? ⟨w.heap.size + 1, 0, none⟩ = some (.int .u8 (x.kind : Nat)) ∧ w'.cell? ⟨w.heap.size + 1, 1, none⟩ = some (.int .u64 (x.key : Nat)) ∧ w'.cell? ⟨w.heap.size + 1, 2, none⟩ = some (.int .u16 (x.n : Nat))) (first | with_reducible exact kk7 | with_reducible exact kk8 | go_keep)
      (first
        | (go_at_call 32; refine (KS.out _).mono ?_; rintro e w6b ⟨rfl, hb6⟩; have hB6 := HB6.out.step ((below_drewn (Below.refl _ _) _).trans hb6); have hA6 := (hb6.block (w.heap.size + 1) (head_row HA6.out).lt).trans HA6.out; have kk7 := ld9 hB6 hA6)
        | (go_at_call 36; refine (KR.out _ hB6.low).mono ?_; rintro e w7 ⟨q1, q2, q3, o7, he, hb7, hk7, ho7⟩; obtain ⟨Fa1, na1, da1, rfl⟩ := hk7.form1; obtain ⟨Fa2, na2, da2, rfl⟩ := hk7.form2; obtain ⟨Fa3, na3, da3, rfl⟩ := hk7.form3; have hB7 := hB6.step hb7; subst he; have hA7 := (hb7.block (w.heap.size + 1) (head_row hA6).lt).trans hA6; have kk8 := ld9 hB7 hA7; obtain ⟨⟨y0, y1, y2, y3⟩, yf0, yf1, yf2, yf3⟩ := c4_at hB7.res; have hrr := (head_row hB7.res).lt))
    have HB7 := Lib.hid hB7
    have HV := Lib.hid hk7
    have HVO := Lib.hid ho7
    have HO : Hid (Only [w.heap.size, w.heap.size + 1 + 1] w7 ((((w7.setCell ⟨w.heap.size + 1 + 1, 0, none⟩ (.int .i64 ((s.resize z).c : Nat))).setCell ⟨w.heap.size + 1 + 1, 1, none⟩ (.slice Fa1 na1 da1)).setCell ⟨w.heap.size + 1 + 1, 2, none⟩ (.slice Fa2 na2 da2)).setCell ⟨w.heap.size + 1 + 1, 3, none⟩ (.slice Fa3 na3 da3))) := Lib.hid (((((Only.refl _ _).setCell (by simp) _).setCell (by simp) _).setCell (by simp) _).setCell (by simp) _)
    go_wp2
    exact bodyPost_ret (v := .tuple #[.agg (l9C (s.resize z).c (.slice Fa1 na1 da1) (.slice Fa2 na2 da2) (.slice Fa3 na3 da3)), o7]) (by simp [results, Try.results11, go_sem, y0, y1, y2, y3]) rfl ⟨_, _, _, _, rfl, HB7.out.fin HO.out, HB7.out.st9 HO.out HV.out, HB7.out.kv HO.out HVO.out⟩
end
section
variable {w : World} {u1 u2 u3 : Value} {s : L9}
end
def Af9 (w4 : World) (T : TypeId) (s : L9) (out : List Nat) (v o : Value) (wx : World) : Prop := ∃ (P : Nat) (F1 : Option Addr) (n1 d1 : Nat) (F2 : Option Addr) (n2 d2 : Nat) (F3 : Option Addr) (n3 d3 : Nat), v = .pointer (some ⟨P, 0, none⟩) ∧ Below w4.heap.size w4 wx ∧ w4.heap.size ≤ P ∧ wx.heap[P]? = some (.cells (l9C s.c (.slice F1 n1 d1) (.slice F2 n2 d2) (.slice F3 n3 d3)) T (0, 0)) ∧ St9 wx s (.slice F1 n1 d1) (.slice F2 n2 d2) (.slice F3 n3 d3) ∧ KV wx o out
section
variable {w4 w5 : World} {T : TypeId} {s : L9} {out : List Nat} {o : Value} {F1 : Option Addr} {n1 d1 : Nat} {F2 : Option Addr} {n2 d2 : Nat} {F3 : Option Addr} {n3 d3 : Nat}
theorem af9_b (hb : Below w4.heap.size w4 w5) (hs : St9 w5 s (.slice F1 n1 d1) (.slice F2 n2 d2) (.slice F3 n3 d3)) (ho : KV w5 o out) : Af9 w4 T s out (.pointer (some ⟨w5.heap.size, 0, none⟩)) o (w5.alloc (.cells (l9C s.c (.slice F1 n1 d1) (.slice F2 n2 d2) (.slice F3 n3 d3)) T)) :=
  ⟨_, _, _, _, _, _, _, _, _, _, rfl, hb.alloc hb.size _, hb.size, heap_alloc_new w5 _, hs.below (low_one w5 _), ho.below (low_one w5 _)⟩
theorem af9_a {O : Obj} {zs : Array Value} (hT : T ≠ 31) (hz : NoU zs) (hzn : ∃ x0 x1 x2 x3, zs = #[x0, x1, x2, x3]) (hb : Below (w4.alloc O).heap.size (w4.alloc O) w5) (hP : w5.heap[w4.heap.size]? = some (.cells zs T (0, 0))) (hs : St9 w5 s (.slice F1 n1 d1) (.slice F2 n2 d2) (.slice F3 n3 d3)) (ho : KV w5 o out) : Af9 w4 T s out (.pointer (some ⟨w4.heap.size, 0, none⟩)) o ((((w5.setCell ⟨w4.heap.size, 0, none⟩ (.int .i64 ((s).c : Nat))).setCell ⟨w4.heap.size, 1, none⟩ (.slice F1 n1 d1)).setCell ⟨w4.heap.size, 2, none⟩ (.slice F2 n2 d2)).setCell ⟨w4.heap.size, 3, none⟩ (.slice F3 n3 d3)) := by
  obtain ⟨x0, x1, x2, x3, rfl⟩ := hzn
  obtain ⟨h1, h2⟩ := c4_set hP (.int .i64 ((s).c : Nat)) (.slice F1 n1 d1) (.slice F2 n2 d2) (.slice F3 n3 d3)
  have hl : Below w4.heap.size w4 w5 := (low_one w4 O).trans (hb.mono (by simp))
  have hbx : ∀ g ∈ [w4.heap.size], Bx w5 g := fun g hg => by
    simp only [List.mem_singleton] at hg
    subst hg
    exact ⟨_, _, hP, hz, hT⟩
  exact ⟨_, _, _, _, _, _, _, _, _, _, rfl, hl.trans (h2.below (by simp) hl.size), Nat.le_refl _, h1, ⟨hs.g1.only h2 hbx, hs.g2.only h2 hbx, hs.g3.only h2 hbx⟩, ho.only h2 hbx⟩
end
def L9.runS (s : L9) (l : List Act8) : L9 := l.foldl L9.act s
theorem L9.runS_next (s : L9) {l : List Act8} {i : Nat} (hi : i < l.length) : s.runS (l.take (i + 1)) = (s.runS (l.take i)).act l[i] := by
  unfold L9.runS
  rw [List.take_succ_eq_append_getElem hi, List.foldl_append]
  rfl
theorem L9.Ok.runS {s : L9} (h : s.Ok) : ∀ (l : List Act8), (∀ x ∈ l, x.Ok) → (s.runS l).Ok
  | [], _ => h
  | x :: l, hx => L9.Ok.runS (h.act (hx x (by simp))) l (fun y hy => hx y (by simp [hy]))
section
variable {w : World} {v : Value} {l : List Act8}
end
end Go.Proofs.Ytcjcddlflincdaa
