/- Two queues: the program's own Admit and Resize, and all calls. -/
import Derived.Test.YtiokejhplbadeaaTqH
namespace Go.Proofs.Ytiokejhplbadeaa
open Go Go.RowKit Go.Deep

section
variable {w : World} {u1 u2 u3 : Value} {s : L9}
set_option maxHeartbeats 500000 in
theorem p9admit_walk (hs : St9 w s u1 u2 u3) (ok : s.Ok) (k : Nat) : Calls Try.prog 45 #[.agg (l9C s.c u1 u2 u3), .int .u64 (k : Nat)] w (P9o w (s.adm k) (s.admitOut k)) := by
  obtain ⟨F1, n1, d1, rfl⟩ := hs.form1
  obtain ⟨F2, n2, d2, rfl⟩ := hs.form2
  obtain ⟨F3, n3, d3, rfl⟩ := hs.form3
  have HX0 := Lib.hid (Bx9.start w PT9 (by decide) hs)
  have KH := Lib.hid (p9has_walk HX0.out.st ok k)
  have KW := Lib.hid (fun (W : World) (hb : Below w.heap.size w W) => owned9_walk (hs.below hb) ok)
  have hpos := ok.pos
  have hcap := ok.cap
  unfold L9.adm L9.admitOut
  have HCL : Hid (∀ (W : World) (b r g : Nat) (v1 v2 v3 : Value), Bx9 w W PT9 b r (s.forget k) v1 v2 v3 → W.heap[g]? = some (.cells (reC b) 95 (0, 0)) → Calls Try.prog 81 #[.int .i64 ((s.c - 1 : Nat) : Int), .pointer (some ⟨g, 0, none⟩)] W fun e w' => ∃ o v1 v2 v3, e = .returned o ∧ Bx9 w w' PT9 b r ((s.forget k).shr (s.c - 1)) v1 v2 v3 ∧ KV w' o ((s.forget k).shrOut (s.c - 1))) := Lib.hid (fun W b r g v1 v2 v3 h hg => by
    have hl := ok.len
    have ho := ok.olen
    have hw := wo_len k s.out
    exact reclaim9_walk h hg (by show s.inn.length ≤ _; omega) (by show (wo k s.out).length ≤ _; omega) (by show s.main.length ≤ _; omega) hcap (by omega))
  have HTL : Hid (∀ N, ((s.forget k).shr N).inn.length ≤ 100000000 ∧ ((s.forget k).shr N).main.length ≤ 100000000) := Lib.hid (fun N => by
    have hl := ok.len
    have h1 : ((s.forget k).shr N).inn.length ≤ s.inn.length := List.length_take_le' _ _
    have h2 : ((s.forget k).shr N).main.length ≤ s.main.length := List.length_take_le' _ _
    omega)
  have hol := ok.len_out
  clear ok hs
  obtain ⟨b, hb⟩ : ∃ b, decide (k ∈ s.out) = b := ⟨_, rfl⟩
  have HBO := Lib.hid hb
  rw [hb]
  clear hb
  obtain ⟨c', hc'⟩ : ∃ c', s.c - 1 = c' := ⟨_, rfl⟩
  have hcI : (s.c : Int) - 1 = (c' : Int) := by omega
  rw [hc'] at HCL ⊢
  clear hc'
  have HLO := Lib.hid HX0.out.bo.low
  generalize hW0 : World.alloc _ (.cells z9 PT9) = W0 at HX0 KH HLO
  have HW0 := Lib.hid hW0
  clear hW0
  by_cases hin : k ∈ s.keys
  · rw [if_pos hin, if_pos hin]
    rw [decide_eq_true hin] at KH
    clear hin HCL HTL
    go_enter Try.func45, Try.ntmps45
    go_wp2_with fail
    rw [HW0.out]
    clear HW0
    refine KH.out.mono ?_
    rintro e w1 ⟨rfl, hb1⟩
    have HX1 := Lib.hid (HX0.out.step hb1)
    clear hb1 KH HX0
    obtain ⟨⟨x0, x1, x2, x3⟩, xf0, xf1, xf2, xf3⟩ := c4_at HX1.out.bo.box
    have hbb := (head_row HX1.out.bo.box).lt
    have KOW := Lib.hid (KW.out w1 HX1.out.bo.low)
    go_wp2_with fail
    refine KOW.out.mono ?_
    rintro e wc ⟨q1, q2, q3, he, hbc, hsc⟩
    obtain ⟨Fc1, nc1, dc1, rfl⟩ := hsc.form1
    obtain ⟨Fc2, nc2, dc2, rfl⟩ := hsc.form2
    obtain ⟨Fc3, nc3, dc3, rfl⟩ := hsc.form3
    have he' : e = .returned (.agg (l9C s.c (.slice Fc1 nc1 dc1) (.slice Fc2 nc2 dc2) (.slice Fc3 nc3 dc3))) := he
    subst he'
    have hbo := HX1.out.bo.step hbc
    obtain ⟨⟨y0, y1, y2, y3⟩, yf0, yf1, yf2, yf3⟩ := c4_at hbo.res
    have hrr := (head_row hbo.res).lt
    have HB2 := Lib.hid hbo
    have HSC := Lib.hid hsc
    clear hbo hsc hbc he KOW KW HX1 HLO x0 x1 x2 x3 xf0 xf1 xf2 xf3 hbb
    go_wp2
    have HO : Hid (Only [w.heap.size, w.heap.size + 1] wc ((((wc.setCell ⟨w.heap.size + 1, 0, none⟩ (.int .i64 (s.c : Nat))).setCell ⟨w.heap.size + 1, 1, none⟩ (.slice Fc1 nc1 dc1)).setCell ⟨w.heap.size + 1, 2, none⟩ (.slice Fc2 nc2 dc2)).setCell ⟨w.heap.size + 1, 3, none⟩ (.slice Fc3 nc3 dc3))) := Lib.hid (((((Only.refl _ _).setCell (by simp) _).setCell (by simp) _).setCell (by simp) _).setCell (by simp) _)
    exact bodyPost_ret (v := .tuple #[.agg (l9C s.c (.slice Fc1 nc1 dc1) (.slice Fc2 nc2 dc2) (.slice Fc3 nc3 dc3)), .slice none 0 0]) (by simp [results, Try.results45, go_sem, y0, y1, y2, y3]) rfl ⟨_, _, _, _, rfl, HB2.out.fin HO.out, HB2.out.st9 HO.out HSC.out, KV.nil _⟩
  · rw [if_neg hin, if_neg hin]
    rw [decide_eq_false hin] at KH
    clear hin KW
    go_enter Try.func45, Try.ntmps45
    go_wp2_with fail
    rw [HW0.out]
    clear HW0
    refine KH.out.mono ?_
    rintro e w1 ⟨rfl, hb1⟩
    have HX1 := Lib.hid (HX0.out.step hb1)
    clear hb1 KH HX0
    obtain ⟨⟨x0, x1, x2, x3⟩, xf0, xf1, xf2, xf3⟩ := c4_at HX1.out.bo.box
    have hbb := (head_row HX1.out.bo.box).lt
    have KH2 := Lib.hid (has_walk HX1.out.st.g2 hol k)
    rw [HBO.out] at KH2
    have KF := Lib.hid (without_walk HX1.out.st.g2 hol k)
    clear HBO HLO
    go_wp2_with fail
    refine KH2.out.mono ?_
    rintro e w2b ⟨rfl, rfl⟩
    clear KH2
    go_wp2_with fail
    refine KF.out.mono ?_
    rintro e va ⟨oa, rfl, ha⟩
    obtain ⟨Fa, na, da, rfl⟩ := ha.kv.form
    have hxa := HX1.out.step ha.low
    clear x0 x1 x2 x3 xf0 xf1 xf2 xf3 hbb
    obtain ⟨⟨x0, x1, x2, x3⟩, xf0, xf1, xf2, xf3⟩ := c4_at hxa.bo.box
    have hbb := (head_row hxa.bo.box).lt
    have hya := hxa.set2 ha.kv
    generalize hWa : va.setCell ⟨w.heap.size, 2, none⟩ (.slice Fa na da) = wa at hya
    have HWa := Lib.hid hWa
    have HXa := Lib.hid hya
    clear ha hWa hxa hya HX1 KF
    have HFA : Hid (Bx9 w wa PT9 w.heap.size (w.heap.size + 1) (s.forget k) (.slice F1 n1 d1) (.slice Fa na da) (.slice F3 n3 d3)) := HXa
    have KE := Lib.hid (reclaiming9_walk HFA.out)
    clear HXa
    go_wp2_with fail
    rw [HWa.out]
    clear HWa
    refine KE.out.mono ?_
    rintro e w3 ⟨g, rfl, hx3, hg3⟩
    have KC := Lib.hid (HCL.out w3 _ _ g _ _ _ hx3 hg3)
    clear x0 x1 x2 x3 xf0 xf1 xf2 xf3 hbb
    obtain ⟨⟨x0, x1, x2, x3⟩, xf0, xf1, xf2, xf3⟩ := c4_at hx3.bo.box
    have hbb := (head_row hx3.bo.box).lt
    have hcs : (s.forget k).c = s.c := rfl
    rw [hcs] at x0
    clear hx3 hg3 KE HFA HCL hcs
    go_wp2_with fail
    refine KC.out.mono ?_
    rintro e w4 ⟨ob, v1, v2, v3, rfl, hx4, ho4⟩
    obtain ⟨Fp1, np1, dp1, rfl⟩ := hx4.st.form1
    obtain ⟨Fp2, np2, dp2, rfl⟩ := hx4.st.form2
    obtain ⟨Fp3, np3, dp3, rfl⟩ := hx4.st.form3
    have hcc : ((s.forget k).shr c').c = s.c := rfl
    obtain ⟨hlt1, hlt3⟩ := HTL.out c'
    clear x0 x1 x2 x3 xf0 xf1 xf2 xf3 hbb KC HTL
    generalize (s.forget k).shr c' = t at *
    generalize (s.forget k).shrOut c' = out at *
    obtain ⟨tc, ti, tO, tm⟩ := t
    dsimp only at hcc hlt1 hlt3
    subst hcc
    have HXp := Lib.hid hx4
    have HOB := Lib.hid ho4
    obtain ⟨⟨x0, x1, x2, x3⟩, xf0, xf1, xf2, xf3⟩ := c4_at hx4.bo.box
    dsimp only at x0
    have hbb := (head_row hx4.bo.box).lt
    clear hx4 ho4
    cases b
    · have KR := Lib.hid (front_walk HXp.out.st.g1 hlt1 k)
      go_wp2_with fail
      refine KR.out.mono ?_
      rintro e vf ⟨of, rfl, hf⟩
      obtain ⟨Ff, nf, df, rfl⟩ := hf.kv.form
      have hxf := HXp.out.step hf.low
      clear x0 x1 x2 x3 xf0 xf1 xf2 xf3 hbb
      obtain ⟨⟨x0, x1, x2, x3⟩, xf0, xf1, xf2, xf3⟩ := c4_at hxf.bo.box
      have hbb := (head_row hxf.bo.box).lt
      have hyf := hxf.set1 hf.kv
      have HOF := Lib.hid (hxf.kv (i := 1) (x := .slice Ff nf df) (HOB.out.below hf.low))
      obtain ⟨⟨y0, y1, y2, y3⟩, yf0, yf1, yf2, yf3⟩ := c4_at hxf.bo.res
      have hrr := (head_row hxf.bo.res).lt
      have HXf := Lib.hid hyf
      clear hf hxf hyf HXp KR HOB
      have hd := HXf.out.doneo HOF.out
      have HD := Lib.hid hd
      clear hd HXf HOF
      go_wp2
      exact bodyPost_ret (v := .tuple #[.agg (l9C s.c (.slice Ff nf df) (.slice Fp2 np2 dp2) (.slice Fp3 np3 dp3)), ob]) (by simp [results, Try.results45, go_sem, y0, y1, y2, y3]) rfl HD.out
    · have KR := Lib.hid (front_walk HXp.out.st.g3 hlt3 k)
      go_wp2_with fail
      refine KR.out.mono ?_
      rintro e vf ⟨of, rfl, hf⟩
      obtain ⟨Ff, nf, df, rfl⟩ := hf.kv.form
      have hxf := HXp.out.step hf.low
      clear x0 x1 x2 x3 xf0 xf1 xf2 xf3 hbb
      obtain ⟨⟨x0, x1, x2, x3⟩, xf0, xf1, xf2, xf3⟩ := c4_at hxf.bo.box
      have hbb := (head_row hxf.bo.box).lt
      have hyf := hxf.set3 hf.kv
      have HOF := Lib.hid (hxf.kv (i := 3) (x := .slice Ff nf df) (HOB.out.below hf.low))
      obtain ⟨⟨y0, y1, y2, y3⟩, yf0, yf1, yf2, yf3⟩ := c4_at hxf.bo.res
      have hrr := (head_row hxf.bo.res).lt
      have HXf := Lib.hid hyf
      clear hf hxf hyf HXp KR HOB
      have hd := HXf.out.doneo HOF.out
      have HD := Lib.hid hd
      clear hd HXf HOF
      go_wp2
      exact bodyPost_ret (v := .tuple #[.agg (l9C s.c (.slice Fp1 np1 dp1) (.slice Fp2 np2 dp2) (.slice Ff nf df)), ob]) (by simp [results, Try.results45, go_sem, y0, y1, y2, y3]) rfl HD.out
set_option maxHeartbeats 500000 in
theorem p9resize_walk (hs : St9 w s u1 u2 u3) (ok : s.Ok) (n : Int) (hn1 : -9223372036854775808 ≤ n) (hn2 : n ≤ 9223372036854775807) : Calls Try.prog 60 #[.agg (l9C s.c u1 u2 u3), .int .i64 n] w (P9o w (s.resize n) (s.resizeOut n)) := by
  obtain ⟨F1, n1, d1, rfl⟩ := hs.form1
  obtain ⟨F2, n2, d2, rfl⟩ := hs.form2
  obtain ⟨F3, n3, d3, rfl⟩ := hs.form3
  have HX0 := Lib.hid (Bx9.start w PT9 (by decide) hs)
  have KC := Lib.hid (bounded9_walk (w := (w.alloc (.cells (l9C s.c (.slice F1 n1 d1) (.slice F2 n2 d2) (.slice F3 n3 d3)) PT9)).alloc (.cells z9 PT9)) n hn1 hn2)
  have HCP := Lib.hid (capI_pos n)
  unfold L9.resize L9.resizeOut
  obtain ⟨c', hc'⟩ : ∃ c', capI n = c' := ⟨_, rfl⟩
  rw [hc'] at KC HCP ⊢
  have HCL : Hid (∀ (W : World) (b r g : Nat) (v1 v2 v3 : Value), Bx9 w W PT9 b r (s.sized c') v1 v2 v3 → W.heap[g]? = some (.cells (reC b) 95 (0, 0)) → Calls Try.prog 81 #[.int .i64 (c' : Nat), .pointer (some ⟨g, 0, none⟩)] W fun e w' => ∃ o v1 v2 v3, e = .returned o ∧ Bx9 w w' PT9 b r ((s.sized c').shr c') v1 v2 v3 ∧ KV w' o ((s.sized c').shrOut c')) := Lib.hid (fun W b r g v1 v2 v3 h hg => by
    have hl := ok.len
    have ho := ok.olen
    have hcap := ok.cap
    exact reclaim9_walk h hg (by show s.inn.length ≤ _; omega) (by show s.out.length ≤ _; omega) (by show s.main.length ≤ _; omega) HCP.out.2 HCP.out.2)
  have hc2 := HCP.out.2
  clear ok hs hc' HCP
  generalize hW0 : World.alloc _ (.cells z9 PT9) = W0 at HX0 KC
  have HW0 := Lib.hid hW0
  clear hW0
  go_enter Try.func60, Try.ntmps60
  go_wp2_with fail
  rw [HW0.out]
  clear HW0
  refine KC.out.mono ?_
  rintro e w1 ⟨rfl, rfl⟩
  obtain ⟨⟨x0, x1, x2, x3⟩, xf0, xf1, xf2, xf3⟩ := c4_at HX0.out.bo.box
  have hbb := (head_row HX0.out.bo.box).lt
  have hy := HX0.out.set0 c'
  generalize hWa : W0.setCell ⟨w.heap.size, 0, none⟩ (.int .i64 (c' : Nat)) = wa at hy
  have HWa := Lib.hid hWa
  have HFA : Hid (Bx9 w wa PT9 w.heap.size (w.heap.size + 1) (s.sized c') (.slice F1 n1 d1) (.slice F2 n2 d2) (.slice F3 n3 d3)) := Lib.hid hy
  have KE := Lib.hid (reclaiming9_walk HFA.out)
  clear hWa hy HX0 KC
  go_wp2_with fail
  rw [HWa.out]
  clear HWa
  refine KE.out.mono ?_
  rintro e w3 ⟨g, rfl, hx3, hg3⟩
  have KF := Lib.hid (HCL.out w3 _ _ g _ _ _ hx3 hg3)
  clear x0 x1 x2 x3 xf0 xf1 xf2 xf3 hbb
  obtain ⟨⟨x0, x1, x2, x3⟩, xf0, xf1, xf2, xf3⟩ := c4_at hx3.bo.box
  have hbb := (head_row hx3.bo.box).lt
  have hcs : (s.sized c').c = c' := rfl
  rw [hcs] at x0
  clear hx3 hg3 KE HFA HCL hcs
  go_wp2_with fail
  refine KF.out.mono ?_
  rintro e w4 ⟨ob, v1, v2, v3, rfl, hx4, ho4⟩
  obtain ⟨Fp1, np1, dp1, rfl⟩ := hx4.st.form1
  obtain ⟨Fp2, np2, dp2, rfl⟩ := hx4.st.form2
  obtain ⟨Fp3, np3, dp3, rfl⟩ := hx4.st.form3
  have HD := Lib.hid (hx4.doneo ho4)
  clear x0 x1 x2 x3 xf0 xf1 xf2 xf3 hbb KF
  obtain ⟨⟨x0, x1, x2, x3⟩, xf0, xf1, xf2, xf3⟩ := c4_at hx4.bo.box
  have hbb := (head_row hx4.bo.box).lt
  obtain ⟨⟨y0, y1, y2, y3⟩, yf0, yf1, yf2, yf3⟩ := c4_at hx4.bo.res
  have hrr := (head_row hx4.bo.res).lt
  have hcs : ((s.sized c').shr c').c = c' := rfl
  rw [hcs] at x0 HD
  clear hx4 ho4 hcs
  go_wp2
  exact bodyPost_ret (v := .tuple #[.agg (l9C c' (.slice Fp1 np1 dp1) (.slice Fp2 np2 dp2) (.slice Fp3 np3 dp3)), ob]) (by simp [results, Try.results60, go_sem, y0, y1, y2, y3]) rfl HD.out
end
theorem pol9Ok : Pol9Ok where
  new := fun _ n h1 h2 => p9new_walk n h1 h2
  touch := fun hs ok k _ => p9touch_walk hs ok k
  adm := fun hs ok k _ => p9admit_walk hs ok k
  drop := fun hs ok k _ => p9drop_walk hs ok k
  resize := fun hs ok n h1 h2 => p9resize_walk hs ok n h1 h2
  has := fun hs ok k _ => p9has_walk hs ok k
  keys := fun hs ok => p9keys_walk hs ok
  ghosts := fun hs ok => p9ghosts_walk hs ok
end Go.Proofs.Ytiokejhplbadeaa
