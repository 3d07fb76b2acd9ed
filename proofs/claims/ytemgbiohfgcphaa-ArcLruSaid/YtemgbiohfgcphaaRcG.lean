/- Adaptive replacement: the program's own Resize. -/
import Derived.Test.YtemgbiohfgcphaaRcH
namespace Go.Proofs.Ytemgbiohfgcphaa
open Go Go.RowKit Go.Deep

section
variable {w : World} {u1 u2 u3 u4 : Value} {s : L11}
set_option maxHeartbeats 1000000 in
set_option maxRecDepth 8000 in
theorem p11resize_walk (hs : St11 w s u1 u2 u3 u4) (ok : s.Ok) (n : Int) (hn1 : -9223372036854775808 ≤ n) (hn2 : n ≤ 9223372036854775807) : Calls Try.prog 33 #[.agg (l11C s.c s.p u1 u2 u3 u4), .int .i64 n] w (P11o w (s.resize n) (s.resizeOut n)) := by
  obtain ⟨F1, n1, d1, rfl⟩ := hs.form1
  obtain ⟨F2, n2, d2, rfl⟩ := hs.form2
  obtain ⟨F3, n3, d3, rfl⟩ := hs.form3
  obtain ⟨F4, n4, d4, rfl⟩ := hs.form4
  have HX0 := Lib.hid (Bx11.start w PT11 (by decide) hs)
  have KC := Lib.hid (bounded11_walk (w := (w.alloc (.cells (l11C s.c s.p (.slice F1 n1 d1) (.slice F2 n2 d2) (.slice F3 n3 d3) (.slice F4 n4 d4)) PT11)).alloc (.cells z11 PT11)) n hn1 hn2)
  have HCP := Lib.hid (capI_pos n)
  unfold L11.resize L11.resizeOut
  obtain ⟨c', hc'⟩ : ∃ c', capI n = c' := ⟨_, rfl⟩
  rw [hc'] at KC HCP ⊢
  have hc2 := HCP.out.2
  have hc1 := HCP.out.1
  have hl := ok.len
  have ho := ok.one
  have hg := ok.gone
  have hcap := ok.cap
  have hpc := ok.pc
  obtain ⟨pz, hpz⟩ : ∃ pz, min s.p c' = pz := ⟨_, rfl⟩
  have HSZ : Hid (s.sized c' = ⟨c', pz, s.t1, s.t2, s.b1, s.b2⟩) := Lib.hid (by rw [← hpz]; rfl)
  have HCL : Hid (∀ (W : World) (b r g : Nat) (v1 v2 v3 v4 : Value), Bx11 w W PT11 b r (s.sized c') v1 v2 v3 v4 → W.heap[g]? = some (.cells (reC11 b) 72 (0, 0)) → Calls Try.prog 58 #[.int .i64 (c' : Nat), .bool false, .pointer (some ⟨g, 0, none⟩)] W (EvP11 w b r ((s.sized c').cut c' false) ((s.sized c').cutOut c' false))) := Lib.hid (fun W b r g v1 v2 v3 v4 h hgg =>
    evict11_walk false h hgg (by show s.t1.length ≤ _; omega) (by show s.t2.length ≤ _; omega) (by show s.b1.length ≤ _; omega) (by show s.b2.length ≤ _; omega) (by rw [HSZ.out]; show pz ≤ _; omega) hc2)
  obtain ⟨TT, hTT⟩ : ∃ TT, (s.sized c').cut c' false = TT := ⟨_, rfl⟩
  obtain ⟨OUT, hOUT⟩ : ∃ OUT, (s.sized c').cutOut c' false = OUT := ⟨_, rfl⟩
  have HTF : Hid (TT.c = c' ∧ TT.p = pz ∧ TT.t1.length + TT.t2.length ≤ c' ∧ TT.t1.length + TT.b1.length ≤ 1048576 ∧ TT.b2.length ≤ 3000000) := Lib.hid (by
    obtain ⟨e1, e2, e3, e4⟩ := (s.sized c').cut_lens c' false
    have l1 := (s.sized c').li_le c' false
    have l2 := (s.sized c').lm_le c' false
    have l3 := (s.sized c').l_sum c' false
    have hm : (s.sized c').many c' = (s.sized c').t1.length + (s.sized c').t2.length - c' := rfl
    rw [← hTT]
    refine ⟨rfl, by rw [HSZ.out]; rfl, by omega, ?_, ?_⟩
    · rw [e1, e3]
      have a1 : (s.sized c').t1.length = s.t1.length := rfl
      have a2 : (s.sized c').b1.length = s.b1.length := rfl
      omega
    · rw [e4]
      have a1 : (s.sized c').t2.length = s.t2.length := rfl
      have a2 : (s.sized c').b2.length = s.b2.length := rfl
      omega)
  rw [hTT, hOUT] at HCL
  rw [hTT, hOUT]
  have hcI : (c' : Int) ≤ 1048576 := by omega
  have hc1I : (1 : Int) ≤ (c' : Int) := by omega
  have hpI : (s.p : Int) ≤ 1048576 := by omega
  clear ok hs hc' hTT hOUT HCP hl ho hg hcap hpc
  generalize hW0 : World.alloc _ (.cells z11 PT11) = W0 at HX0 KC
  have HW0 := Lib.hid hW0
  clear hW0
  go_enter Try.func33, Try.ntmps33
  go_wp2_with fail
  rw [HW0.out]
  clear HW0
  refine KC.out.mono ?_
  rintro e w1 ⟨rfl, rfl⟩
  obtain ⟨⟨x0, x1, x2, x3, x4, x5⟩, xf0, xf1, xf2, xf3, xf4, xf5⟩ := c6_at HX0.out.bo.box
  have hbb := (head_row HX0.out.bo.box).lt
  have hy := HX0.out.set0 c'
  go_upto_region 2 with fail
  generalize W0.setCell ⟨w.heap.size, 0, none⟩ (.int .i64 (c' : Nat)) = wa at hy ⊢
  clear x0 x1 x2 x3 x4 x5 xf0 xf1 xf2 xf3 xf4 xf5 hbb HX0 KC
  obtain ⟨⟨x0, x1, x2, x3, x4, x5⟩, xf0, xf1, xf2, xf3, xf4, xf5⟩ := c6_at hy.bo.box
  have hbb := (head_row hy.bo.box).lt
  dsimp only at x0 x1 x2 x3 x4 x5
  have HXa := Lib.hid hy
  clear hy
  obtain ⟨sp, hsp⟩ : ∃ sp, s.p = sp := ⟨_, rfl⟩
  rw [hsp] at x1 hpI
  have HSP := Lib.hid hsp
  clear hsp
  go_cut [] (fun wx => wx = wa.setCell ⟨w.heap.size, 1, none⟩ (.int .i64 (pz : Nat)))
  case first =>
    rw [HSP.out] at hpz
    clear HSP
    rcases Nat.lt_trichotomy sp c' with hq | hq | hq
    · obtain rfl : pz = sp := by omega
      have hqI : (pz : Int) < (c' : Int) := by omega
      clear hpz hq
      go_wp2_with fail
      go_meet
      rfl
    · subst hq
      obtain rfl : pz = sp := by omega
      clear hpz
      go_wp2_with fail
      go_meet
      rfl
    · obtain rfl : pz = c' := by omega
      have hqI : (pz : Int) < (sp : Int) := by omega
      clear hpz hq
      go_wp2_with fail
      go_meet
      rfl
  case rest =>
    subst hcut
    have hx1 := HXa.out.set1 pz
    clear x0 x1 x2 x3 x4 x5 xf0 xf1 xf2 xf3 xf4 xf5 hbb HXa hpz HSP hpI
    generalize wa.setCell ⟨w.heap.size, 1, none⟩ (.int .i64 (pz : Nat)) = W1 at hx1 ⊢
    have HFA : Hid (Bx11 w W1 PT11 w.heap.size (w.heap.size + 1) (s.sized c') (.slice F1 n1 d1) (.slice F2 n2 d2) (.slice F3 n3 d3) (.slice F4 n4 d4)) := Lib.hid (by rw [HSZ.out]; exact hx1)
    have KE := Lib.hid (evicting11_walk HFA.out)
    clear hx1
    go_wp2_with fail
    refine KE.out.mono ?_
    rintro e w3 ⟨g, rfl, hx3, hg3, -⟩
    have KF := Lib.hid (HCL.out w3 _ _ g _ _ _ _ hx3 hg3)
    obtain ⟨⟨x0, x1, x2, x3, x4, x5⟩, xf0, xf1, xf2, xf3, xf4, xf5⟩ := c6_at hx3.bo.box
    have hbb := (head_row hx3.bo.box).lt
    have hcs : (s.sized c').c = c' := rfl
    rw [hcs] at x0
    clear hx3 hg3 KE HFA HCL hcs
    go_wp2_with fail
    refine KF.out.mono ?_
    rintro e w4 ⟨ob, v1, v2, v3, v4, rfl, hx4, ho4⟩
    obtain ⟨f1, f2, f3, f4, f5⟩ := HTF.out
    obtain ⟨sc, sp2, l1, l2, l3, l4⟩ := TT
    dsimp only at f1 f2 f3 f4 f5
    subst f1 f2
    have g1 := hx4.st.g1
    have g3 := hx4.st.g3
    dsimp only at g1 g3
    obtain ⟨Fp1, dp1, rfl, -⟩ := g1.mem
    obtain ⟨Fp2, np2, dp2, rfl⟩ := hx4.st.form2
    obtain ⟨Fp3, np3, dp3, rfl⟩ := hx4.st.form3
    obtain ⟨Fp4, np4, dp4, rfl⟩ := hx4.st.form4
    clear g1 g3
    have HF : Hid (L11.fall ⟨sc, sp2, l1, l2, l3, l4⟩ = ⟨sc, sp2, l1, l2, l3.take (sc - l1.length), l4.take (sc - (l3.take (sc - l1.length)).length)⟩) := Lib.hid rfl
    obtain ⟨n1, hn1⟩ : ∃ n, l1.length = n := ⟨_, rfl⟩
    rw [hn1] at hx4 HF f3 f4
    obtain ⟨lb, hlb⟩ : ∃ lb, l3.take (sc - n1) = lb := ⟨_, rfl⟩
    have hlbn : lb.length ≤ sc := by rw [← hlb, List.length_take]; omega
    obtain ⟨nb, hnb⟩ : ∃ n, lb.length = n := ⟨_, rfl⟩
    rw [hlb, hnb] at HF
    have i1 : (n1 : Int) ≤ (sc : Int) := by omega
    have i2 : (nb : Int) ≤ (sc : Int) := by omega
    have K1 : Hid (∀ W v, KV W v l3 → Calls Try.prog 50 #[v, .int .i64 ((sc : Int) - (n1 : Int))] W (RetK W lb)) := Lib.hid (fun W v h => by
      have h2 := firsts_walk h (by omega) ((sc : Int) - (n1 : Int)) (by omega) (by omega)
      rw [show ((sc : Int) - (n1 : Int)).toNat = sc - n1 by omega, hlb] at h2
      exact h2)
    have K2 : Hid (∀ W v, KV W v l4 → Calls Try.prog 50 #[v, .int .i64 ((sc : Int) - (nb : Int))] W (RetK W (l4.take (sc - nb)))) := Lib.hid (fun W v h => by
      have h2 := firsts_walk h (by omega) ((sc : Int) - (nb : Int)) (by omega) (by omega)
      rw [show ((sc : Int) - (nb : Int)).toNat = sc - nb by omega] at h2
      exact h2)
    clear x0 x1 x2 x3 x4 x5 xf0 xf1 xf2 xf3 xf4 xf5 hbb KF HTF hlbn hn1 hlb f3 f4 f5
    have HXp := Lib.hid hx4
    have HOB := Lib.hid ho4
    clear hx4 ho4
    obtain ⟨⟨x0, x1, x2, x3, x4, x5⟩, xf0, xf1, xf2, xf3, xf4, xf5⟩ := c6_at HXp.out.bo.box
    have hbb := (head_row HXp.out.bo.box).lt
    dsimp only at x0 x1
    have HN3 := Lib.hid hnb
    clear hnb
    have KK1 := Lib.hid (K1.out _ _ HXp.out.st.g3)
    go_wp2_with fail
    refine KK1.out.mono ?_
    rintro e va ⟨oa, rfl, hla, hka⟩
    obtain ⟨Fa, na, da, rfl⟩ := hka.form
    have hxa := HXp.out.step hla
    clear x0 x1 x2 x3 x4 x5 xf0 xf1 xf2 xf3 xf4 xf5 hbb
    obtain ⟨⟨x0, x1, x2, x3, x4, x5⟩, xf0, xf1, xf2, xf3, xf4, xf5⟩ := c6_at hxa.bo.box
    have hbb := (head_row hxa.bo.box).lt
    have hya := hxa.set4 hka
    have HOA := Lib.hid (hxa.kv (i := 4) (x := .slice Fa na da) (HOB.out.below hla))
    have hnaa : na = nb := by
      obtain ⟨F', d', e', -⟩ := hka.mem
      injection e' with _ e2 _
      rw [e2, HN3.out]
    subst hnaa
    generalize hWa : va.setCell ⟨w.heap.size, 4, none⟩ (.slice Fa na da) = wa at hya HOA
    have HWa := Lib.hid hWa
    have HXa := Lib.hid hya
    clear hla hka hWa hxa hya HXp KK1 K1
    have KK2 := Lib.hid (K2.out _ _ HXa.out.st.g4)
    clear HOB
    go_wp2_with fail
    rw [HWa.out]
    clear HWa
    refine KK2.out.mono ?_
    rintro e vb ⟨ob, rfl, hlb, hkb⟩
    obtain ⟨Fb, nb2, db, rfl⟩ := hkb.form
    have hxb := HXa.out.step hlb
    clear x0 x1 x2 x3 x4 x5 xf0 xf1 xf2 xf3 xf4 xf5 hbb
    obtain ⟨⟨x0, x1, x2, x3, x4, x5⟩, xf0, xf1, xf2, xf3, xf4, xf5⟩ := c6_at hxb.bo.box
    have hbb := (head_row hxb.bo.box).lt
    have hyb := hxb.set5 hkb
    have HOC := Lib.hid (hxb.kv (i := 5) (x := .slice Fb nb2 db) (HOA.out.below hlb))
    obtain ⟨⟨y0, y1, y2, y3, y4, y5⟩, yf0, yf1, yf2, yf3, yf4, yf5⟩ := c6_at hxb.bo.res
    have hrr := (head_row hxb.bo.res).lt
    have HXb := Lib.hid hyb
    clear hlb hkb hxb hyb HXa KK2 K2
    have HD := Lib.hid (HXb.out.doneo HOC.out)
    clear HXb HOC HOA
    go_wp2
    exact bodyPost_ret (v := .tuple #[.agg (l11C sc sp2 (.slice Fp1 n1 dp1) (.slice Fp2 np2 dp2) (.slice Fa na da) (.slice Fb nb2 db)), ob]) (by simp [results, Try.results33, go_sem, y0, y1, y2, y3, y4, y5]) rfl (by rw [HF.out]; exact HD.out)
end
end Go.Proofs.Ytemgbiohfgcphaa
