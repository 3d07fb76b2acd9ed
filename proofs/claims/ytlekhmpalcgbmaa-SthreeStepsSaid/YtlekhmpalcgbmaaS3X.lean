/- Three simple queues: the program's own Admit and Resize, and all calls. -/
import Derived.Test.YtlekhmpalcgbmaaS3E
namespace Go.Proofs.Ytlekhmpalcgbmaa
open Go Go.RowKit Go.Deep

section
variable {w : World} {u1 u2 u3 : Value} {s : L10}
set_option maxHeartbeats 1000000 in
theorem p10admit_walk (hs : St10 w s u1 u2 u3) (ok : s.Ok) (k : Nat) : Calls Try.prog 26 #[.agg (l10C s.c u1 u2 u3), .int .u64 (k : Nat)] w (P10o w (s.adm k) (s.admitOut k)) := by
  obtain ⟨F1, n1, d1, rfl⟩ := hs.form1
  obtain ⟨F2, n2, d2, rfl⟩ := hs.form2
  obtain ⟨F3, n3, d3, rfl⟩ := hs.form3
  have HX0 := Lib.hid (Bx10.start w PT10 (by decide) hs)
  have KH := Lib.hid (p10has_walk HX0.out.st ok k)
  have KW := Lib.hid (fun (W : World) (hb : Below w.heap.size w W) => owned10_walk (hs.below hb) ok)
  have hpos := ok.pos
  have hcap := ok.cap
  have hfin := ok.fine.forget k
  have hfall : ((s.forget k).shr (s.c - 1)).fall = (s.forget k).shr (s.c - 1) := by
    have h1 := L10.shr_ghost hfin (s.c - 1) (G := room s.c) (Nat.le_refl _) (Nat.le_trans (wo_len k s.ghost) ok.glen)
    have h2 := L10.shr_c hfin (s.c - 1)
    unfold L10.fall
    rw [List.take_of_length_le (by rw [h2]; exact h1)]
  have HCC : Hid (((s.forget k).shr (s.c - 1)).c = s.c) := Lib.hid (L10.shr_c hfin _)
  have HTT : Hid (((s.forget k).shr (s.c - 1)).total ≤ 1048576) := Lib.hid (by
    have h1 := L10.shr_total hfin (s.c - 1)
    have h2 := ok.len
    have h3 : (s.forget k).total = s.total := rfl
    omega)
  have HCL : Hid (∀ (W : World) (b r : Nat) (v1 v2 v3 : Value), Bx10 w W PT10 b r (s.forget k) v1 v2 v3 → Calls Try.prog 45 #[.pointer (some ⟨b, 0, none⟩), .int .i64 ((s.c - 1 : Nat) : Int)] W fun e w' => ∃ o v1 v2 v3, e = .returned o ∧ Bx10 w w' PT10 b r ((s.forget k).shr (s.c - 1)) v1 v2 v3 ∧ KV w' o ((s.forget k).shrOut (s.c - 1))) := Lib.hid (fun W b r v1 v2 v3 h => by
    have hl := ok.len
    have ho := ok.glen
    have hw := wo_len k s.ghost
    have hr := room_le s.c
    have h2 := evict10_walk h hfin (by show s.total ≤ _; omega) (by show (wo k s.ghost).length ≤ _; omega) hpos hcap (s.c - 1) (by omega)
    unfold EvP at h2
    rw [hfall] at h2
    exact h2)
  unfold L10.adm L10.admitOut
  have hol := ok.len_ghost
  clear ok hs hfin hfall
  obtain ⟨b, hb⟩ : ∃ b, decide (k ∈ s.ghost) = b := ⟨_, rfl⟩
  have HBO := Lib.hid hb
  rw [hb]
  clear hb
  obtain ⟨c', hc'⟩ : ∃ c', s.c - 1 = c' := ⟨_, rfl⟩
  have hcI : (s.c : Int) - 1 = (c' : Int) := by omega
  rw [hc'] at HCL HCC HTT ⊢
  clear hc'
  have HLO := Lib.hid HX0.out.bo.low
  generalize hW0 : World.alloc _ (.cells z10 PT10) = W0 at HX0 KH HLO
  have HW0 := Lib.hid hW0
  clear hW0
  by_cases hin : k ∈ s.keys
  · rw [if_pos hin, if_pos hin]
    rw [decide_eq_true hin] at KH
    clear hin HCL HCC HTT
    go_enter Try.func26, Try.ntmps26
    go_wp2_with fail
    rw [HW0.out]
    clear HW0
    refine KH.out.mono ?_
    rintro e w1 ⟨rfl, hb1⟩
    have HX1 := Lib.hid (HX0.out.step hb1)
    clear hb1 KH HX0
    obtain ⟨⟨x0, x1, x2, x3⟩, xf0, xf1, xf2, xf3⟩ := c4_at HX1.out.bo.box
    have hbb := (head_row HX1.out.bo.box).lt
    have KOW := Lib.hid (KW.out w1 HX1.out.bo.low)
    go_wp2_with fail
    refine KOW.out.mono ?_
    rintro e wc ⟨q1, q2, q3, he, hbc, hsc⟩
    obtain ⟨Fc1, nc1, dc1, rfl⟩ := hsc.form1
    obtain ⟨Fc2, nc2, dc2, rfl⟩ := hsc.form2
    obtain ⟨Fc3, nc3, dc3, rfl⟩ := hsc.form3
    have he' : e = .returned (.agg (l10C s.c (.slice Fc1 nc1 dc1) (.slice Fc2 nc2 dc2) (.slice Fc3 nc3 dc3))) := he
    subst he'
    have hbo := HX1.out.bo.step hbc
    obtain ⟨⟨y0, y1, y2, y3⟩, yf0, yf1, yf2, yf3⟩ := c4_at hbo.res
    have hrr := (head_row hbo.res).lt
    have HB2 := Lib.hid hbo
    have HSC := Lib.hid hsc
    clear hbo hsc hbc he KOW KW HX1 HLO x0 x1 x2 x3 xf0 xf1 xf2 xf3 hbb
    go_wp2
    have HO : Hid (Only [w.heap.size, w.heap.size + 1] wc ((((wc.setCell ⟨w.heap.size + 1, 0, none⟩ (.int .i64 (s.c : Nat))).setCell ⟨w.heap.size + 1, 1, none⟩ (.slice Fc1 nc1 dc1)).setCell ⟨w.heap.size + 1, 2, none⟩ (.slice Fc2 nc2 dc2)).setCell ⟨w.heap.size + 1, 3, none⟩ (.slice Fc3 nc3 dc3))) := Lib.hid (((((Only.refl _ _).setCell (by simp) _).setCell (by simp) _).setCell (by simp) _).setCell (by simp) _)
    exact bodyPost_ret (v := .tuple #[.agg (l10C s.c (.slice Fc1 nc1 dc1) (.slice Fc2 nc2 dc2) (.slice Fc3 nc3 dc3)), .slice none 0 0]) (by simp [results, Try.results26, go_sem, y0, y1, y2, y3]) rfl ⟨_, _, _, _, rfl, HB2.out.fin HO.out, HB2.out.st10 HO.out HSC.out, KV.nil _⟩
  · rw [if_neg hin, if_neg hin]
    rw [decide_eq_false hin] at KH
    clear hin KW
    go_enter Try.func26, Try.ntmps26
    go_wp2_with fail
    rw [HW0.out]
    clear HW0
    refine KH.out.mono ?_
    rintro e w1 ⟨rfl, hb1⟩
    have HX1 := Lib.hid (HX0.out.step hb1)
    clear hb1 KH HX0
    obtain ⟨⟨x0, x1, x2, x3⟩, xf0, xf1, xf2, xf3⟩ := c4_at HX1.out.bo.box
    have hbb := (head_row HX1.out.bo.box).lt
    have KH2 := Lib.hid (has_walk HX1.out.st.g3 hol k)
    rw [HBO.out] at KH2
    have KF := Lib.hid (without_walk HX1.out.st.g3 hol k)
    clear HBO HLO
    go_wp2_with fail
    refine KH2.out.mono ?_
    rintro e w2b ⟨rfl, rfl⟩
    clear KH2
    go_wp2_with fail
    refine KF.out.mono ?_
    rintro e va ⟨oa, rfl, ha⟩
    obtain ⟨Fa, na, da, rfl⟩ := ha.kv.form
    have hxa := HX1.out.step ha.low
    clear x0 x1 x2 x3 xf0 xf1 xf2 xf3 hbb
    obtain ⟨⟨x0, x1, x2, x3⟩, xf0, xf1, xf2, xf3⟩ := c4_at hxa.bo.box
    have hbb := (head_row hxa.bo.box).lt
    have hya := hxa.set3 ha.kv
    generalize hWa : va.setCell ⟨w.heap.size, 3, none⟩ (.slice Fa na da) = wa at hya
    have HWa := Lib.hid hWa
    have HXa := Lib.hid hya
    clear ha hWa hxa hya HX1 KF
    have HFA : Hid (Bx10 w wa PT10 w.heap.size (w.heap.size + 1) (s.forget k) (.slice F1 n1 d1) (.slice F2 n2 d2) (.slice Fa na da)) := HXa
    have KC := Lib.hid (HCL.out wa _ _ _ _ _ HFA.out)
    clear HXa
    go_wp2_with fail
    rw [HWa.out]
    clear HWa
    refine KC.out.mono ?_
    rintro e w4 ⟨ob, v1, v2, v3, rfl, hx4, ho4⟩
    obtain ⟨Fp1, np1, dp1, rfl⟩ := hx4.st.form1
    obtain ⟨Fp2, np2, dp2, rfl⟩ := hx4.st.form2
    obtain ⟨Fp3, np3, dp3, rfl⟩ := hx4.st.form3
    have hcc := HCC.out
    have htt := HTT.out
    clear x0 x1 x2 x3 xf0 xf1 xf2 xf3 hbb KC HCC HTT HCL HFA
    generalize (s.forget k).shr c' = t at *
    generalize (s.forget k).shrOut c' = out at *
    obtain ⟨tc, ti, tm, tg⟩ := t
    obtain rfl : tc = s.c := hcc
    have HTL : Hid (ti.length + tm.length ≤ 1048576) := Lib.hid htt
    have HXp := Lib.hid hx4
    have HOB := Lib.hid ho4
    obtain ⟨⟨x0, x1, x2, x3⟩, xf0, xf1, xf2, xf3⟩ := c4_at hx4.bo.box
    dsimp only at x0
    have hbb := (head_row hx4.bo.box).lt
    clear hx4 ho4 htt
    cases b
    · have KR := Lib.hid (frontI_walk HXp.out.st.g1 (by have h : ti.length + tm.length ≤ 1048576 := HTL.out; show ti.length ≤ 100000000; omega) k)
      go_wp2_with fail
      refine KR.out.mono ?_
      rintro e vf ⟨of, rfl, hf⟩
      obtain ⟨Ff, nf, df, rfl⟩ := hf.iv.form
      have hxf := HXp.out.step hf.low
      clear x0 x1 x2 x3 xf0 xf1 xf2 xf3 hbb
      obtain ⟨⟨x0, x1, x2, x3⟩, xf0, xf1, xf2, xf3⟩ := c4_at hxf.bo.box
      have hbb := (head_row hxf.bo.box).lt
      have hyf := hxf.set1 hf.iv
      have HOF := Lib.hid (hxf.kv (i := 1) (x := .slice Ff nf df) (HOB.out.below hf.low))
      obtain ⟨⟨y0, y1, y2, y3⟩, yf0, yf1, yf2, yf3⟩ := c4_at hxf.bo.res
      have hrr := (head_row hxf.bo.res).lt
      have HXf := Lib.hid hyf
      clear hf hxf hyf HXp KR HOB
      have hd := HXf.out.doneo HOF.out
      have HD := Lib.hid hd
      clear hd HXf HOF
      go_wp2
      exact bodyPost_ret (v := .tuple #[.agg (l10C s.c (.slice Ff nf df) (.slice Fp2 np2 dp2) (.slice Fp3 np3 dp3)), ob]) (by simp [results, Try.results26, go_sem, y0, y1, y2, y3]) rfl HD.out
    · have KR := Lib.hid (frontI_walk HXp.out.st.g2 (by have h : ti.length + tm.length ≤ 1048576 := HTL.out; show tm.length ≤ 100000000; omega) k)
      go_wp2_with fail
      refine KR.out.mono ?_
      rintro e vf ⟨of, rfl, hf⟩
      obtain ⟨Ff, nf, df, rfl⟩ := hf.iv.form
      have hxf := HXp.out.step hf.low
      clear x0 x1 x2 x3 xf0 xf1 xf2 xf3 hbb
      obtain ⟨⟨x0, x1, x2, x3⟩, xf0, xf1, xf2, xf3⟩ := c4_at hxf.bo.box
      have hbb := (head_row hxf.bo.box).lt
      have hyf := hxf.set2 hf.iv
      have HOF := Lib.hid (hxf.kv (i := 2) (x := .slice Ff nf df) (HOB.out.below hf.low))
      obtain ⟨⟨y0, y1, y2, y3⟩, yf0, yf1, yf2, yf3⟩ := c4_at hxf.bo.res
      have hrr := (head_row hxf.bo.res).lt
      have HXf := Lib.hid hyf
      clear hf hxf hyf HXp KR HOB
      have hd := HXf.out.doneo HOF.out
      have HD := Lib.hid hd
      clear hd HXf HOF
      go_wp2
      exact bodyPost_ret (v := .tuple #[.agg (l10C s.c (.slice Fp1 np1 dp1) (.slice Ff nf df) (.slice Fp3 np3 dp3)), ob]) (by simp [results, Try.results26, go_sem, y0, y1, y2, y3]) rfl HD.out
set_option maxHeartbeats 1000000 in
theorem p10resize_walk (hs : St10 w s u1 u2 u3) (ok : s.Ok) (n : Int) (hn1 : -9223372036854775808 ≤ n) (hn2 : n ≤ 9223372036854775807) : Calls Try.prog 31 #[.agg (l10C s.c u1 u2 u3), .int .i64 n] w (P10o w (s.resize n) (s.resizeOut n)) := by
  obtain ⟨F1, n1, d1, rfl⟩ := hs.form1
  obtain ⟨F2, n2, d2, rfl⟩ := hs.form2
  obtain ⟨F3, n3, d3, rfl⟩ := hs.form3
  have HX0 := Lib.hid (Bx10.start w PT10 (by decide) hs)
  have KC := Lib.hid (bounded10_walk (w := (w.alloc (.cells (l10C s.c (.slice F1 n1 d1) (.slice F2 n2 d2) (.slice F3 n3 d3)) PT10)).alloc (.cells z10 PT10)) n hn1 hn2)
  have HCP := Lib.hid (capI_pos n)
  unfold L10.resize L10.resizeOut
  obtain ⟨c', hc'⟩ : ∃ c', capI n = c' := ⟨_, rfl⟩
  rw [hc'] at KC HCP ⊢
  have HCC : Hid (((s.sized c').shr c').fall.c = c') := Lib.hid (L10.shr_c (ok.fine.sized c') c')
  have HCL : Hid (∀ (W : World) (b r : Nat) (v1 v2 v3 : Value), Bx10 w W PT10 b r (s.sized c') v1 v2 v3 → Calls Try.prog 45 #[.pointer (some ⟨b, 0, none⟩), .int .i64 (c' : Nat)] W fun e w' => ∃ o v1 v2 v3, e = .returned o ∧ Bx10 w w' PT10 b r ((s.sized c').shr c').fall v1 v2 v3 ∧ KV w' o ((s.sized c').shrOut c')) := Lib.hid (fun W b r v1 v2 v3 h => by
    have hl := ok.len
    have ho := ok.glen
    have hr := room_le s.c
    have hcap := ok.cap
    exact evict10_walk h (ok.fine.sized c') (by show s.total ≤ _; omega) (by show s.ghost.length ≤ _; omega) HCP.out.1 HCP.out.2 c' HCP.out.2)
  have hc2 := HCP.out.2
  clear ok hs hc' HCP
  generalize hW0 : World.alloc _ (.cells z10 PT10) = W0 at HX0 KC
  have HW0 := Lib.hid hW0
  clear hW0
  go_enter Try.func31, Try.ntmps31
  go_wp2_with fail
  rw [HW0.out]
  clear HW0
  refine KC.out.mono ?_
  rintro e w1 ⟨rfl, rfl⟩
  obtain ⟨⟨x0, x1, x2, x3⟩, xf0, xf1, xf2, xf3⟩ := c4_at HX0.out.bo.box
  have hbb := (head_row HX0.out.bo.box).lt
  have hy := HX0.out.set0 c'
  generalize hWa : W0.setCell ⟨w.heap.size, 0, none⟩ (.int .i64 (c' : Nat)) = wa at hy
  have HWa := Lib.hid hWa
  have HFA : Hid (Bx10 w wa PT10 w.heap.size (w.heap.size + 1) (s.sized c') (.slice F1 n1 d1) (.slice F2 n2 d2) (.slice F3 n3 d3)) := Lib.hid hy
  have KF := Lib.hid (HCL.out wa _ _ _ _ _ HFA.out)
  clear hWa hy HX0 KC
  go_wp2_with fail
  rw [HWa.out]
  clear HWa
  refine KF.out.mono ?_
  rintro e w4 ⟨ob, v1, v2, v3, rfl, hx4, ho4⟩
  obtain ⟨Fp1, np1, dp1, rfl⟩ := hx4.st.form1
  obtain ⟨Fp2, np2, dp2, rfl⟩ := hx4.st.form2
  obtain ⟨Fp3, np3, dp3, rfl⟩ := hx4.st.form3
  have HD := Lib.hid (hx4.doneo ho4)
  clear x0 x1 x2 x3 xf0 xf1 xf2 xf3 hbb KF
  obtain ⟨⟨x0, x1, x2, x3⟩, xf0, xf1, xf2, xf3⟩ := c4_at hx4.bo.box
  have hbb := (head_row hx4.bo.box).lt
  obtain ⟨⟨y0, y1, y2, y3⟩, yf0, yf1, yf2, yf3⟩ := c4_at hx4.bo.res
  have hrr := (head_row hx4.bo.res).lt
  rw [HCC.out] at x0 HD
  clear hx4 ho4
  go_wp2
  exact bodyPost_ret (v := .tuple #[.agg (l10C c' (.slice Fp1 np1 dp1) (.slice Fp2 np2 dp2) (.slice Fp3 np3 dp3)), ob]) (by simp [results, Try.results31, go_sem, y0, y1, y2, y3]) rfl HD.out
end
theorem pol10Ok : Pol10Ok where
  new := fun _ n h1 h2 => p10new_walk n h1 h2
  touch := fun hs ok k _ => p10touch_walk hs ok k
  adm := fun hs ok k _ => p10admit_walk hs ok k
  drop := fun hs ok k _ => p10drop_walk hs ok k
  resize := fun hs ok n h1 h2 => p10resize_walk hs ok n h1 h2
  has := fun hs ok k _ => p10has_walk hs ok k
  keys := fun hs ok => p10keys_walk hs ok
  ghosts := fun hs ok => p10ghosts_walk hs ok
end Go.Proofs.Ytlekhmpalcgbmaa
