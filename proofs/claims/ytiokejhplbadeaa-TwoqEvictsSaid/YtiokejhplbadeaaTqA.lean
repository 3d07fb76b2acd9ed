/- Two queues, the document's own: Keys, Ghosts, Admit, Resize. -/
import Derived.Test.YtiokejhplbadeaaTqT
import Derived.Test.YtiokejhplbadeaaPoS
namespace Go.Proofs.Ytiokejhplbadeaa
open Go Go.RowKit Go.Deep

section
variable {w : World} {u1 u2 u3 : Value} {s : L9}
set_option maxHeartbeats 1000000 in
theorem r9keys_walk (hs : St9 w s u1 u2 u3) (ok : s.Ok) : Calls Try.prog 40 #[.agg (l9C s.c u1 u2 u3)] w (RetK w s.keys) := by
  have hl1 := ok.len_inn
  have hl3 := ok.len_main
  clear ok
  obtain ⟨F1, n1, d1, rfl⟩ := hs.form1
  obtain ⟨F2, n2, d2, rfl⟩ := hs.form2
  obtain ⟨F3, n3, d3, rfl⟩ := hs.form3
  have hlo := low_one w (.cells (l9C s.c (.slice F1 n1 d1) (.slice F2 n2 d2) (.slice F3 n3 d3)) T9)
  have hnew := heap_alloc_new w (.cells (l9C s.c (.slice F1 n1 d1) (.slice F2 n2 d2) (.slice F3 n3 d3)) T9)
  have HS := Lib.hid (fun (W : World) (hb : Below w.heap.size w W) => hs.below hb)
  unfold L9.keys
  obtain ⟨c, l1, l2, l3⟩ := s
  simp only at *
  have HLO := Lib.hid hlo
  have hsz : w.heap.size ≤ (w.alloc (.cells (l9C c (.slice F1 n1 d1) (.slice F2 n2 d2) (.slice F3 n3 d3)) T9)).heap.size := hlo.size
  have HLD : Hid (∀ W : World, (Below (w.alloc (.cells (l9C c (.slice F1 n1 d1) (.slice F2 n2 d2) (.slice F3 n3 d3)) T9)).heap.size (w.alloc (.cells (l9C c (.slice F1 n1 d1) (.slice F2 n2 d2) (.slice F3 n3 d3)) T9)) W) → W.cell? ⟨w.heap.size, 1, none⟩ = some (.slice F1 n1 d1) ∧ W.cell? ⟨w.heap.size, 3, none⟩ = some (.slice F3 n3 d3)) := Lib.hid (fun W hb => by
    obtain ⟨⟨x0, x1, x2, x3⟩, _⟩ := c4_at ((hb.block w.heap.size (by simp)).trans hnew)
    exact ⟨x1, x3⟩)
  obtain ⟨x1, x3⟩ := HLD.out _ (Below.refl _ _)
  clear hs hlo hnew
  go_enter Try.func40, Try.ntmps40
  go_wp2_with fail
  generalize w.alloc (.cells (l9C c (.slice F1 n1 d1) (.slice F2 n2 d2) (.slice F3 n3 d3)) T9) = W0 at *
  go_region_held3 (fun w' => w'.cell? ⟨w.heap.size, 1, none⟩ = some (.slice F1 n1 d1) ∧ w'.cell? ⟨w.heap.size, 3, none⟩ = some (.slice F3 n3 d3))
    (first | with_reducible exact kk2 | with_reducible exact kk1 | go_keep)
    (first
      | (refine step_append_kv (by rfl) (.tmp 3) (.tmp 5) (by rfl) W0.heap.size (by kernel_rfl) (by kernel_rfl) _ [] (by rfl) (w0 := W0) ((KO.empty (Nat.le_refl _) (Below.refl _ _)).drewn _) _ l1 (by rfl) ((HS.out _ (below_drewn (HLO.out.trans ((low_one W0 (.cells #[] 32)).mono hsz)) _)).g1) (by simp; omega) (by simp) ?_; intro v1 w1 hown1; have kk1 := HLD.out w1 hown1.low)
      | (refine step_append_kv (by rfl) (.tmp 6) (.tmp 8) (by rfl) W0.heap.size (by kernel_rfl) (by kernel_rfl) _ _ (by rfl) hown1 _ l3 (by rfl) ((HS.out _ (HLO.out.trans (hown1.low.mono hsz))).g3) (by simp; omega) hown1.low.size ?_; intro v2 w2 hown2; have kk2 := HLD.out w2 hown2.low))
  have HF := Lib.hid (And.intro (HLO.out.trans (hown2.low.mono hsz)) hown2.kv)
  clear hown1 hown2 kk1 kk2
  go_wp2
  go_ret
  exact ⟨_, rfl, HF.out.1, HF.out.2⟩
/- From here on: written by gentqa.py. -/
theorem r9ghosts_walk (hs : St9 w s u1 u2 u3) (_ : s.Ok) : Calls Try.prog 44 #[.agg (l9C s.c u1 u2 u3)] w fun e w' => e = .returned (.int .i64 (s.ghosts : Nat)) ∧ Below w.heap.size w w' := by
  obtain ⟨F1, n1, d1, rfl⟩ := hs.form1
  obtain ⟨F2, d2, rfl, -⟩ := hs.g2.mem
  obtain ⟨F3, n3, d3, rfl⟩ := hs.form3
  have HB := Lib.hid (low_one w (.cells (l9C s.c (.slice F1 n1 d1) (.slice F2 s.out.length d2) (.slice F3 n3 d3)) T9))
  unfold L9.ghosts
  clear hs
  obtain ⟨n, hn⟩ : ∃ n, s.out.length = n := ⟨_, rfl⟩
  rw [hn] at HB ⊢
  clear hn
  obtain ⟨c, l1, l2, l3⟩ := s
  simp only at *
  go_enter Try.func44, Try.ntmps44
  go_wp2
  go_ret
  exact ⟨rfl, by first | exact HB.out | exact Below.refl _ _⟩
theorem L9.outAt_ok {s : L9} (h : s.out.length ≤ s.c / 2) (i : Nat) : s.outAt i = (s.inn.drop i ++ s.out).take (s.c / 2) := by
  unfold outAt
  split
  · rename_i e
    rw [e, List.drop_length, List.nil_append, List.take_of_length_le h]
  · rfl
theorem L9.outAt_fall (s : L9) (i : Nat) : (s.outAt i).take (s.c / 2) = (s.inn.drop i ++ s.out).take (s.c / 2) := by
  unfold outAt
  split
  · rename_i e
    rw [e, List.drop_length, List.nil_append]
  · rw [List.take_take, Nat.min_self]
set_option maxHeartbeats 4000000 in
theorem r9admit_walk (hs : St9 w s u1 u2 u3) (ok : s.Ok) (k : Nat) (_ : k < 18446744073709551616) : Calls Try.prog 62 #[.agg (l9C s.c u1 u2 u3), .int .u64 (k : Nat)] w (P9o w (s.adm k) (s.admitOut k)) := by
  obtain ⟨F1, n1, d1, rfl⟩ := hs.form1
  obtain ⟨F2, n2, d2, rfl⟩ := hs.form2
  obtain ⟨F3, n3, d3, rfl⟩ := hs.form3
  have HX0 := Lib.hid (Bx9.start w T9 (by decide) hs)
  have KK := Lib.hid (r9keys_walk HX0.out.st ok)
  have HLK := Lib.hid ok.keysLen
  have HOK := Lib.hid ok
  have hpos := ok.pos
  have hcap := ok.cap
  unfold L9.adm L9.admitOut
  have HFG : Hid (∀ W v1 v2 v3, St9 W (s.forget k) v1 v2 v3 → Calls Try.prog 76 #[.agg (l9C s.c v1 v2 v3), .int .i64 ((s.c - 1 : Nat) : Int)] W (P9o W ((s.forget k).shr (s.c - 1)) ((s.forget k).shrOut (s.c - 1)))) := Lib.hid (fun W v1 v2 v3 h => by
    have hl := HOK.out.len
    have ho := HOK.out.olen
    have hw := wo_len k s.out
    have h2 := r9shrink_walk h (HOK.out.fine.forget k) (by show s.inn.length ≤ _; omega) (by show (wo k s.out).length ≤ _; omega) (by show s.main.length ≤ _; omega) hcap (s.c - 1) (by omega)
    rw [L9.outAt_ok (by show (wo k s.out).length ≤ s.c / 2; omega)] at h2
    exact h2)
  have HTL : Hid (∀ N, ((s.forget k).shr N).inn.length ≤ 100000000 ∧ ((s.forget k).shr N).main.length ≤ 100000000) := Lib.hid (fun N => by
    have hl := HOK.out.len
    have h1 : ((s.forget k).shr N).inn.length ≤ s.inn.length := List.length_take_le' _ _
    have h2 : ((s.forget k).shr N).main.length ≤ s.main.length := List.length_take_le' _ _
    omega)
  have hol := ok.len_out
  clear ok hs
  obtain ⟨b, hb⟩ : ∃ b, decide (k ∈ s.out) = b := ⟨_, rfl⟩
  have HBO := Lib.hid hb
  rw [hb]
  clear hb
  obtain ⟨c', hc'⟩ : ∃ c', s.c - 1 = c' := ⟨_, rfl⟩
  have hcI : (s.c : Int) - 1 = (c' : Int) := by omega
  rw [hc'] at HFG ⊢
  clear hc' HOK
  generalize hW0 : World.alloc _ (.cells z9 T9) = W0 at HX0 KK
  have HW0 := Lib.hid hW0
  clear hW0
  by_cases hin : k ∈ s.keys
  · rw [if_pos hin, if_pos hin]
    go_enter Try.func62, Try.ntmps62
    go_wp2_with fail
    rw [HW0.out]
    clear HW0
    refine KK.out.mono ?_
    rintro e w1 ⟨v1, rfl, hb1, hk1⟩
    have KH := Lib.hid (rhas_walk hk1 HLK.out k)
    have HX1 := Lib.hid (HX0.out.step hb1)
    clear hb1 hk1 KK HX0 HLK
    rw [decide_eq_true hin] at KH
    clear hin
    go_wp2_with fail
    refine KH.out.mono ?_
    rintro e w2 ⟨rfl, rfl⟩
    obtain ⟨⟨x0, x1, x2, x3⟩, xf0, xf1, xf2, xf3⟩ := c4_at HX1.out.bo.box
    obtain ⟨⟨y0, y1, y2, y3⟩, yf0, yf1, yf2, yf3⟩ := c4_at HX1.out.bo.res
    have hbb := (head_row HX1.out.bo.box).lt
    have hrr := (head_row HX1.out.bo.res).lt
    clear KH HFG HTL
    go_wp2
    exact bodyPost_ret (v := .tuple #[.agg (l9C s.c (.slice F1 n1 d1) (.slice F2 n2 d2) (.slice F3 n3 d3)), .slice none 0 0]) (by simp [results, Try.results62, go_sem, y0, y1, y2, y3]) rfl (HX1.out.doneo (KV.nil _))
  · rw [if_neg hin, if_neg hin]
    go_enter Try.func62, Try.ntmps62
    go_wp2_with fail
    rw [HW0.out]
    clear HW0
    refine KK.out.mono ?_
    rintro e w1 ⟨v1, rfl, hb1, hk1⟩
    have KH := Lib.hid (rhas_walk hk1 HLK.out k)
    have HX1 := Lib.hid (HX0.out.step hb1)
    clear hb1 hk1 KK HX0 HLK
    rw [decide_eq_false hin] at KH
    clear hin
    go_wp2_with fail
    refine KH.out.mono ?_
    rintro e w2 ⟨rfl, rfl⟩
    obtain ⟨⟨x0, x1, x2, x3⟩, xf0, xf1, xf2, xf3⟩ := c4_at HX1.out.bo.box
    have hbb := (head_row HX1.out.bo.box).lt
    have KH2 := Lib.hid (rhas_walk HX1.out.st.g2 hol k)
    rw [HBO.out] at KH2
    have KW := Lib.hid (rwithout_walk HX1.out.st.g2 hol k)
    clear KH HBO
    go_wp2_with fail
    refine KH2.out.mono ?_
    rintro e w2b ⟨rfl, rfl⟩
    clear KH2
    go_wp2_with fail
    refine KW.out.mono ?_
    rintro e va ⟨oa, rfl, ha⟩
    obtain ⟨Fa, na, da, rfl⟩ := ha.kv.form
    have hxa := HX1.out.step ha.low
    clear x0 x1 x2 x3 xf0 xf1 xf2 xf3 hbb
    obtain ⟨⟨x0, x1, x2, x3⟩, xf0, xf1, xf2, xf3⟩ := c4_at hxa.bo.box
    have hbb := (head_row hxa.bo.box).lt
    have hya := hxa.set2 ha.kv
    generalize hWa : va.setCell ⟨w.heap.size, 2, none⟩ (.slice Fa na da) = wa at hya
    have HWa := Lib.hid hWa
    have HXa := Lib.hid hya
    clear ha hWa hxa hya HX1 KW
    have KS := Lib.hid (HFG.out _ _ _ _ HXa.out.st)
    go_wp2_with fail
    rw [HWa.out]
    clear HWa
    refine KS.out.mono ?_
    rintro e wb ⟨q1, q2, q3, ob, he, hbb2, hsb, hob⟩
    obtain ⟨Fp1, np1, dp1, rfl⟩ := hsb.form1
    obtain ⟨Fp2, np2, dp2, rfl⟩ := hsb.form2
    obtain ⟨Fp3, np3, dp3, rfl⟩ := hsb.form3
    have he' : e = .returned (.tuple #[.agg (l9C s.c (.slice Fp1 np1 dp1) (.slice Fp2 np2 dp2) (.slice Fp3 np3 dp3)), ob]) := he
    subst he'
    have hxp := (HXa.out.step hbb2).alloc hsb
    have HOB := Lib.hid (hob.below (low_one wb (.cells (l9C s.c (.slice Fp1 np1 dp1) (.slice Fp2 np2 dp2) (.slice Fp3 np3 dp3)) T9)))
    have hne : w.heap.size + 2 ≤ wb.heap.size := by have := (head_row (HXa.out.step hbb2).bo.res).lt; omega
    have hcc : ((s.forget k).shr c').c = s.c := rfl
    obtain ⟨hlt1, hlt3⟩ := HTL.out c'
    clear x0 x1 x2 x3 xf0 xf1 xf2 xf3 hbb
    clear he hbb2 hsb hob HFG HTL KS HXa
    generalize (s.forget k).shr c' = t at *
    generalize (s.forget k).shrOut c' = out at *
    obtain ⟨tc, ti, tO, tm⟩ := t
    dsimp only at hcc hlt1 hlt3
    subst hcc
    have HXp := Lib.hid hxp
    clear hxp
    cases b
    · have KF := Lib.hid (rfront_walk HXp.out.st.g1 hlt1 k)
      go_wp2_with fail
      refine KF.out.mono ?_
      rintro e vf ⟨of, rfl, hf⟩
      obtain ⟨Ff, nf, df, rfl⟩ := hf.kv.form
      have hxf := HXp.out.step hf.low
      obtain ⟨⟨x0, x1, x2, x3⟩, xf0, xf1, xf2, xf3⟩ := c4_at hxf.bo.box
      have hbb := (head_row hxf.bo.box).lt
      have hyf := hxf.set1 hf.kv
      have HOF := Lib.hid (hxf.kv (i := 1) (x := .slice Ff nf df) (HOB.out.below hf.low))
      obtain ⟨⟨y0, y1, y2, y3⟩, yf0, yf1, yf2, yf3⟩ := c4_at hxf.bo.res
      have hrr := (head_row hxf.bo.res).lt
      have HXf := Lib.hid hyf
      clear hf hxf hyf HXp KF HOB
      have hd := HXf.out.doneo HOF.out
      have HD := Lib.hid hd
      clear hd HXf HOF
      go_wp2
      exact bodyPost_ret (v := .tuple #[.agg (l9C s.c (.slice Ff nf df) (.slice Fp2 np2 dp2) (.slice Fp3 np3 dp3)), ob]) (by simp [results, Try.results62, go_sem, y0, y1, y2, y3]) rfl HD.out
    · have KF := Lib.hid (rfront_walk HXp.out.st.g3 hlt3 k)
      go_wp2_with fail
      refine KF.out.mono ?_
      rintro e vf ⟨of, rfl, hf⟩
      obtain ⟨Ff, nf, df, rfl⟩ := hf.kv.form
      have hxf := HXp.out.step hf.low
      obtain ⟨⟨x0, x1, x2, x3⟩, xf0, xf1, xf2, xf3⟩ := c4_at hxf.bo.box
      have hbb := (head_row hxf.bo.box).lt
      have hyf := hxf.set3 hf.kv
      have HOF := Lib.hid (hxf.kv (i := 3) (x := .slice Ff nf df) (HOB.out.below hf.low))
      obtain ⟨⟨y0, y1, y2, y3⟩, yf0, yf1, yf2, yf3⟩ := c4_at hxf.bo.res
      have hrr := (head_row hxf.bo.res).lt
      have HXf := Lib.hid hyf
      clear hf hxf hyf HXp KF HOB
      have hd := HXf.out.doneo HOF.out
      have HD := Lib.hid hd
      clear hd HXf HOF
      go_wp2
      exact bodyPost_ret (v := .tuple #[.agg (l9C s.c (.slice Fp1 np1 dp1) (.slice Fp2 np2 dp2) (.slice Ff nf df)), ob]) (by simp [results, Try.results62, go_sem, y0, y1, y2, y3]) rfl HD.out
set_option maxHeartbeats 4000000 in
theorem r9resize_walk (hs : St9 w s u1 u2 u3) (ok : s.Ok) (n : Int) (hn1 : -9223372036854775808 ≤ n) (hn2 : n ≤ 9223372036854775807) : Calls Try.prog 64 #[.agg (l9C s.c u1 u2 u3), .int .i64 n] w (P9o w (s.resize n) (s.resizeOut n)) := by
  obtain ⟨F1, n1, d1, rfl⟩ := hs.form1
  obtain ⟨F2, n2, d2, rfl⟩ := hs.form2
  obtain ⟨F3, n3, d3, rfl⟩ := hs.form3
  have HX0 := Lib.hid (Bx9.start w T9 (by decide) hs)
  have KC := Lib.hid (rcap_walk (w := (w.alloc (.cells (l9C s.c (.slice F1 n1 d1) (.slice F2 n2 d2) (.slice F3 n3 d3)) T9)).alloc (.cells z9 T9)) n hn1 hn2)
  have HCP := Lib.hid (capI_pos n)
  unfold L9.resize L9.resizeOut
  obtain ⟨c', hc'⟩ : ∃ c', capI n = c' := ⟨_, rfl⟩
  rw [hc'] at KC HCP ⊢
  have HFG : Hid (∀ W v1 v2 v3, St9 W (s.sized c') v1 v2 v3 → Calls Try.prog 76 #[.agg (l9C c' v1 v2 v3), .int .i64 (c' : Nat)] W (P9o W ⟨c', s.inn.take ((s.sized c').li c'), (s.sized c').outAt ((s.sized c').li c'), s.main.take ((s.sized c').lm c')⟩ ((s.sized c').shrOut c'))) := Lib.hid (fun W v1 v2 v3 h => by
    have hl := ok.len
    have hcap := ok.cap
    have ho := ok.olen
    exact r9shrink_walk h (ok.fine.sized c') (by show s.inn.length ≤ _; omega) (by show s.out.length ≤ _; omega) (by show s.main.length ≤ _; omega) HCP.out.2 c' HCP.out.2)
  have HFL : Hid (∀ i, ((s.sized c').outAt i).length ≤ 100000000) := Lib.hid (fun i => by
    have := (s.sized c').outAt_len i (by have := ok.olen; have := ok.cap; show s.out.length ≤ _; omega) HCP.out.2
    omega)
  have HEQ := Lib.hid ((s.sized c').outAt_fall ((s.sized c').li c'))
  have hc2 := HCP.out.2
  clear ok hs hc'
  generalize hW0 : World.alloc _ (.cells z9 T9) = W0 at HX0 KC
  have HW0 := Lib.hid hW0
  clear hW0
  go_enter Try.func64, Try.ntmps64
  go_wp2_with fail
  rw [HW0.out]
  clear HW0
  refine KC.out.mono ?_
  rintro e w1 ⟨rfl, rfl⟩
  obtain ⟨⟨x0, x1, x2, x3⟩, xf0, xf1, xf2, xf3⟩ := c4_at HX0.out.bo.box
  have hbb := (head_row HX0.out.bo.box).lt
  have hy := HX0.out.set0 c'
  generalize hWa : W0.setCell ⟨w.heap.size, 0, none⟩ (.int .i64 (c' : Nat)) = wa at hy
  have HWa := Lib.hid hWa
  have HXa := Lib.hid hy
  have KS := Lib.hid (HFG.out _ _ _ _ HXa.out.st)
  clear hWa hy HX0 KC HFG
  go_wp2_with fail
  rw [HWa.out]
  clear HWa
  refine KS.out.mono ?_
  rintro e wb ⟨q1, q2, q3, ob, he, hbb2, hsb, hob⟩
  obtain ⟨Fp1, np1, dp1, rfl⟩ := hsb.form1
  obtain ⟨Fp2, np2, dp2, rfl⟩ := hsb.form2
  obtain ⟨Fp3, np3, dp3, rfl⟩ := hsb.form3
  have he' : e = .returned (.tuple #[.agg (l9C c' (.slice Fp1 np1 dp1) (.slice Fp2 np2 dp2) (.slice Fp3 np3 dp3)), ob]) := he
  subst he'
  have HBO := Lib.hid ((HXa.out.step hbb2).bo.step (low_one wb (.cells (l9C c' (.slice Fp1 np1 dp1) (.slice Fp2 np2 dp2) (.slice Fp3 np3 dp3)) T9)))
  have KF := Lib.hid (r9fall_walk (hsb.below (low_one wb (.cells (l9C c' (.slice Fp1 np1 dp1) (.slice Fp2 np2 dp2) (.slice Fp3 np3 dp3)) T9))) (HFL.out _) hc2)
  have HOB := Lib.hid (hob.below (low_one wb (.cells (l9C c' (.slice Fp1 np1 dp1) (.slice Fp2 np2 dp2) (.slice Fp3 np3 dp3)) T9)))
  clear x0 x1 x2 x3 xf0 xf1 xf2 xf3 hbb
  clear he hbb2 hsb hob KS HXa HFL HCP
  go_wp2_with fail
  refine KF.out.mono ?_
  rintro e wc ⟨v1, v2, v3, he, hbc, hsc, _, _, _⟩
  obtain ⟨Fc1, nc1, dc1, rfl⟩ := hsc.form1
  obtain ⟨Fc2, nc2, dc2, rfl⟩ := hsc.form2
  obtain ⟨Fc3, nc3, dc3, rfl⟩ := hsc.form3
  have he' : e = .returned (.agg (l9C c' (.slice Fc1 nc1 dc1) (.slice Fc2 nc2 dc2) (.slice Fc3 nc3 dc3))) := he
  subst he'
  have hbo := HBO.out.step hbc
  obtain ⟨⟨y0, y1, y2, y3⟩, yf0, yf1, yf2, yf3⟩ := c4_at hbo.res
  have hrr := (head_row hbo.res).lt
  have HB2 := Lib.hid hbo
  have HSC := Lib.hid hsc
  have HO2 := Lib.hid (HOB.out.below hbc)
  clear hbo hsc hbc he KF HBO HOB
  go_wp2
  have HO : Hid (Only [w.heap.size, w.heap.size + 1] wc ((((wc.setCell ⟨w.heap.size + 1, 0, none⟩ (.int .i64 (c' : Nat))).setCell ⟨w.heap.size + 1, 1, none⟩ (.slice Fc1 nc1 dc1)).setCell ⟨w.heap.size + 1, 2, none⟩ (.slice Fc2 nc2 dc2)).setCell ⟨w.heap.size + 1, 3, none⟩ (.slice Fc3 nc3 dc3))) := Lib.hid (((((Only.refl _ _).setCell (by simp) _).setCell (by simp) _).setCell (by simp) _).setCell (by simp) _)
  exact bodyPost_ret (v := .tuple #[.agg (l9C c' (.slice Fc1 nc1 dc1) (.slice Fc2 nc2 dc2) (.slice Fc3 nc3 dc3)), ob]) (by simp [results, Try.results64, go_sem, y0, y1, y2, y3]) rfl ⟨_, _, _, _, rfl, HB2.out.fin HO.out, by
    have h := HB2.out.st9 HO.out HSC.out
    have e := HEQ.out
    rw [show (s.sized c').c = c' from rfl] at e
    rw [e] at h
    exact h, HB2.out.kv HO.out HO2.out⟩
end
end Go.Proofs.Ytiokejhplbadeaa
