/- Words and walks: RcG RcJ. -/
import Derived.Test.YtgkblelgcikafaaGreatG22
namespace Go.Proofs.YtgkblelgcikafaaGreat
open Go Go.RowKit Go.Deep
set_option maxRecDepth 8000
section
variable {w : World} {u1 u2 u3 u4 : Value} {s : L11}
set_option maxHeartbeats 1000000 in
set_option maxRecDepth 8000 in
theorem p11resize_walk (hs : St11 w s u1 u2 u3 u4) (ok : s.Ok) (n : Int) (hn1 : -9223372036854775808 ≤ n) (hn2 : n ≤ 9223372036854775807) : Calls Tryz.prog 12 #[.agg (l11C s.c s.p u1 u2 u3 u4), .int .i64 n] w (P11o w (s.resize n) (s.resizeOut n)) := by
  obtain ⟨F1, n1, d1, rfl⟩ := hs.form1
  obtain ⟨F2, n2, d2, rfl⟩ := hs.form2
  obtain ⟨F3, n3, d3, rfl⟩ := hs.form3
  obtain ⟨F4, n4, d4, rfl⟩ := hs.form4
  have HX0 := Lib.hid (Bx11.start w PT11 (by decide) hs)
  have KC := Lib.hid (bounded11_walk (w := (w.alloc (.cells (l11C s.c s.p (.slice F1 n1 d1) (.slice F2 n2 d2) (.slice F3 n3 d3) (.slice F4 n4 d4)) PT11)).alloc (.cells z11 PT11)) n hn1 hn2)
  have HCP := Lib.hid (capI_pos n)
  unfold L11.resize L11.resizeOut
  obtain ⟨c', hc'⟩ : ∃ c', capI n = c' := ⟨_, rfl⟩
  rw [hc'] at KC HCP ⊢
  have hc2 := HCP.out.2
  have hc1 := HCP.out.1
  have hl := ok.len
  have ho := ok.one
  have hg := ok.gone
  have hcap := ok.cap
  have hpc := ok.pc
  obtain ⟨pz, hpz⟩ : ∃ pz, min s.p c' = pz := ⟨_, rfl⟩
  have HSZ : Hid (s.sized c' = ⟨c', pz, s.t1, s.t2, s.b1, s.b2⟩) := Lib.hid (by rw [← hpz]; rfl)
  have HCL : Hid (∀ (W : World) (b r g : Nat) (v1 v2 v3 v4 : Value), Bx11 w W PT11 b r (s.sized c') v1 v2 v3 v4 → W.heap[g]? = some (.cells (reC11 b) 62 (0, 0)) → Calls Tryz.prog 54 #[.int .i64 (c' : Nat), .bool false, .pointer (some ⟨g, 0, none⟩)] W (EvP11 w b r ((s.sized c').cut c' false) ((s.sized c').cutOut c' false))) := Lib.hid (fun W b r g v1 v2 v3 v4 h hgg =>
    evict11_walk false h hgg (by show s.t1.length ≤ _; omega) (by show s.t2.length ≤ _; omega) (by show s.b1.length ≤ _; omega) (by show s.b2.length ≤ _; omega) (by rw [HSZ.out]; show pz ≤ _; omega) hc2)
  obtain ⟨TT, hTT⟩ : ∃ TT, (s.sized c').cut c' false = TT := ⟨_, rfl⟩
  obtain ⟨OUT, hOUT⟩ : ∃ OUT, (s.sized c').cutOut c' false = OUT := ⟨_, rfl⟩
  have HTF : Hid (TT.c = c' ∧ TT.p = pz ∧ TT.t1.length + TT.t2.length ≤ c' ∧ TT.t1.length + TT.b1.length ≤ 1048576 ∧ TT.b2.length ≤ 3000000) := Lib.hid (by
    obtain ⟨e1, e2, e3, e4⟩ := (s.sized c').cut_lens c' false
    have l1 := (s.sized c').li_le c' false
    have l2 := (s.sized c').lm_le c' false
    have l3 := (s.sized c').l_sum c' false
    have hm : (s.sized c').many c' = (s.sized c').t1.length + (s.sized c').t2.length - c' := rfl
    rw [← hTT]
    refine ⟨rfl, by rw [HSZ.out]; rfl, by omega, ?_, ?_⟩
    · rw [e1, e3]
      have a1 : (s.sized c').t1.length = s.t1.length := rfl
      have a2 : (s.sized c').b1.length = s.b1.length := rfl
      omega
    · rw [e4]
      have a1 : (s.sized c').t2.length = s.t2.length := rfl
      have a2 : (s.sized c').b2.length = s.b2.length := rfl
      omega)
  rw [hTT, hOUT] at HCL
  rw [hTT, hOUT]
  have hcI : (c' : Int) ≤ 1048576 := by omega
  have hc1I : (1 : Int) ≤ (c' : Int) := by omega
  have hpI : (s.p : Int) ≤ 1048576 := by omega
  clear ok hs hc' hTT hOUT HCP hl ho hg hcap hpc
  generalize hW0 : World.alloc _ (.cells z11 PT11) = W0 at HX0 KC
  have HW0 := Lib.hid hW0
  clear hW0
  go_enter Tryz.func12, Tryz.ntmps12
  go_wp2_with fail
  rw [HW0.out]
  clear HW0
  refine KC.out.mono ?_
  rintro e w1 ⟨rfl, rfl⟩
  obtain ⟨⟨x0, x1, x2, x3, x4, x5⟩, xf0, xf1, xf2, xf3, xf4, xf5⟩ := c6_at HX0.out.bo.box
  have hbb := (head_row HX0.out.bo.box).lt
  have hy := HX0.out.set0 c'
  go_upto_region 2 with fail
  generalize W0.setCell ⟨w.heap.size, 0, none⟩ (.int .i64 (c' : Nat)) = wa at hy ⊢
  clear x0 x1 x2 x3 x4 x5 xf0 xf1 xf2 xf3 xf4 xf5 hbb HX0 KC
  obtain ⟨⟨x0, x1, x2, x3, x4, x5⟩, xf0, xf1, xf2, xf3, xf4, xf5⟩ := c6_at hy.bo.box
  have hbb := (head_row hy.bo.box).lt
  dsimp only at x0 x1 x2 x3 x4 x5
  have HXa := Lib.hid hy
  clear hy
  obtain ⟨sp, hsp⟩ : ∃ sp, s.p = sp := ⟨_, rfl⟩
  rw [hsp] at x1 hpI
  have HSP := Lib.hid hsp
  clear hsp
  go_cut [] (fun wx => wx = wa.setCell ⟨w.heap.size, 1, none⟩ (.int .i64 (pz : Nat)))
  case first =>
    rw [HSP.out] at hpz
    clear HSP
    rcases Nat.lt_trichotomy sp c' with hq | hq | hq
    · obtain rfl : pz = sp := by omega
      have hqI : (pz : Int) < (c' : Int) := by omega
      clear hpz hq
      go_wp2_with fail
      go_meet
      rfl
    · subst hq
      obtain rfl : pz = sp := by omega
      clear hpz
      go_wp2_with fail
      go_meet
      rfl
    · obtain rfl : pz = c' := by omega
      have hqI : (pz : Int) < (sp : Int) := by omega
      clear hpz hq
      go_wp2_with fail
      go_meet
      rfl
  case rest =>
    subst hcut
    have hx1 := HXa.out.set1 pz
    clear x0 x1 x2 x3 x4 x5 xf0 xf1 xf2 xf3 xf4 xf5 hbb HXa hpz HSP hpI
    generalize wa.setCell ⟨w.heap.size, 1, none⟩ (.int .i64 (pz : Nat)) = W1 at hx1 ⊢
    have HFA : Hid (Bx11 w W1 PT11 w.heap.size (w.heap.size + 1) (s.sized c') (.slice F1 n1 d1) (.slice F2 n2 d2) (.slice F3 n3 d3) (.slice F4 n4 d4)) := Lib.hid (by rw [HSZ.out]; exact hx1)
    have KE := Lib.hid (evicting11_walk HFA.out)
    clear hx1
    go_wp2_with fail
    refine KE.out.mono ?_
    rintro e w3 ⟨g, rfl, hx3, hg3, -⟩
    have KF := Lib.hid (HCL.out w3 _ _ g _ _ _ _ hx3 hg3)
    obtain ⟨⟨x0, x1, x2, x3, x4, x5⟩, xf0, xf1, xf2, xf3, xf4, xf5⟩ := c6_at hx3.bo.box
    have hbb := (head_row hx3.bo.box).lt
    have hcs : (s.sized c').c = c' := rfl
    rw [hcs] at x0
    clear hx3 hg3 KE HFA HCL hcs
    go_wp2_with fail
    refine KF.out.mono ?_
    rintro e w4 ⟨ob, v1, v2, v3, v4, rfl, hx4, ho4⟩
    obtain ⟨f1, f2, f3, f4, f5⟩ := HTF.out
    obtain ⟨sc, sp2, l1, l2, l3, l4⟩ := TT
    dsimp only at f1 f2 f3 f4 f5
    subst f1 f2
    have g1 := hx4.st.g1
    have g3 := hx4.st.g3
    dsimp only at g1 g3
    obtain ⟨Fp1, dp1, rfl, -⟩ := g1.mem
    obtain ⟨Fp2, np2, dp2, rfl⟩ := hx4.st.form2
    obtain ⟨Fp3, np3, dp3, rfl⟩ := hx4.st.form3
    obtain ⟨Fp4, np4, dp4, rfl⟩ := hx4.st.form4
    clear g1 g3
    have HF : Hid (L11.fall ⟨sc, sp2, l1, l2, l3, l4⟩ = ⟨sc, sp2, l1, l2, l3.take (sc - l1.length), l4.take (sc - (l3.take (sc - l1.length)).length)⟩) := Lib.hid rfl
    obtain ⟨n1, hn1⟩ : ∃ n, l1.length = n := ⟨_, rfl⟩
    rw [hn1] at hx4 HF f3 f4
    obtain ⟨lb, hlb⟩ : ∃ lb, l3.take (sc - n1) = lb := ⟨_, rfl⟩
    have hlbn : lb.length ≤ sc := by rw [← hlb, List.length_take]; omega
    obtain ⟨nb, hnb⟩ : ∃ n, lb.length = n := ⟨_, rfl⟩
    rw [hlb, hnb] at HF
    have i1 : (n1 : Int) ≤ (sc : Int) := by omega
    have i2 : (nb : Int) ≤ (sc : Int) := by omega
    have K1 : Hid (∀ W v, KV W v l3 → Calls Tryz.prog 35 #[v, .int .i64 ((sc : Int) - (n1 : Int))] W (RetK W lb)) := Lib.hid (fun W v h => by
      have h2 := firsts_walk h (by omega) ((sc : Int) - (n1 : Int)) (by omega) (by omega)
      rw [show ((sc : Int) - (n1 : Int)).toNat = sc - n1 by omega, hlb] at h2
      exact h2)
    have K2 : Hid (∀ W v, KV W v l4 → Calls Tryz.prog 35 #[v, .int .i64 ((sc : Int) - (nb : Int))] W (RetK W (l4.take (sc - nb)))) := Lib.hid (fun W v h => by
      have h2 := firsts_walk h (by omega) ((sc : Int) - (nb : Int)) (by omega) (by omega)
      rw [show ((sc : Int) - (nb : Int)).toNat = sc - nb by omega] at h2
      exact h2)
    clear x0 x1 x2 x3 x4 x5 xf0 xf1 xf2 xf3 xf4 xf5 hbb KF HTF hlbn hn1 hlb f3 f4 f5
    have HXp := Lib.hid hx4
    have HOB := Lib.hid ho4
    clear hx4 ho4
    obtain ⟨⟨x0, x1, x2, x3, x4, x5⟩, xf0, xf1, xf2, xf3, xf4, xf5⟩ := c6_at HXp.out.bo.box
    have hbb := (head_row HXp.out.bo.box).lt
    dsimp only at x0 x1
    have HN3 := Lib.hid hnb
    clear hnb
    have KK1 := Lib.hid (K1.out _ _ HXp.out.st.g3)
    go_wp2_with fail
    refine KK1.out.mono ?_
    rintro e va ⟨oa, rfl, hla, hka⟩
    obtain ⟨Fa, na, da, rfl⟩ := hka.form
    have hxa := HXp.out.step hla
    clear x0 x1 x2 x3 x4 x5 xf0 xf1 xf2 xf3 xf4 xf5 hbb
    obtain ⟨⟨x0, x1, x2, x3, x4, x5⟩, xf0, xf1, xf2, xf3, xf4, xf5⟩ := c6_at hxa.bo.box
    have hbb := (head_row hxa.bo.box).lt
    have hya := hxa.set4 hka
    have HOA := Lib.hid (hxa.kv (i := 4) (x := .slice Fa na da) (HOB.out.below hla))
    have hnaa : na = nb := by
      obtain ⟨F', d', e', -⟩ := hka.mem
      injection e' with _ e2 _
      rw [e2, HN3.out]
    subst hnaa
    generalize hWa : va.setCell ⟨w.heap.size, 4, none⟩ (.slice Fa na da) = wa at hya HOA
    have HWa := Lib.hid hWa
    have HXa := Lib.hid hya
    clear hla hka hWa hxa hya HXp KK1 K1
    have KK2 := Lib.hid (K2.out _ _ HXa.out.st.g4)
    clear HOB
    go_wp2_with fail
    rw [HWa.out]
    clear HWa
    refine KK2.out.mono ?_
    rintro e vb ⟨ob, rfl, hlb, hkb⟩
    obtain ⟨Fb, nb2, db, rfl⟩ := hkb.form
    have hxb := HXa.out.step hlb
    clear x0 x1 x2 x3 x4 x5 xf0 xf1 xf2 xf3 xf4 xf5 hbb
    obtain ⟨⟨x0, x1, x2, x3, x4, x5⟩, xf0, xf1, xf2, xf3, xf4, xf5⟩ := c6_at hxb.bo.box
    have hbb := (head_row hxb.bo.box).lt
    have hyb := hxb.set5 hkb
    have HOC := Lib.hid (hxb.kv (i := 5) (x := .slice Fb nb2 db) (HOA.out.below hlb))
    obtain ⟨⟨y0, y1, y2, y3, y4, y5⟩, yf0, yf1, yf2, yf3, yf4, yf5⟩ := c6_at hxb.bo.res
    have hrr := (head_row hxb.bo.res).lt
    have HXb := Lib.hid hyb
    clear hlb hkb hxb hyb HXa KK2 K2
    have HD := Lib.hid (HXb.out.doneo HOC.out)
    clear HXb HOC HOA
    go_wp2
    exact bodyPost_ret (v := .tuple #[.agg (l11C sc sp2 (.slice Fp1 n1 dp1) (.slice Fp2 np2 dp2) (.slice Fa na da) (.slice Fb nb2 db)), ob]) (by simp [results, Tryz.results12, go_sem, y0, y1, y2, y3, y4, y5]) rfl (by rw [HF.out]; exact HD.out)
end
set_option maxRecDepth 8000
section
variable {w : World} {u1 u2 u3 u4 : Value} {s : L11}
theorem evict11_ok {w0 : World} {b r g : Nat} (hX : Bx11 w0 w PT11 b r s u1 u2 u3 u4) (hg : w.heap[g]? = some (.cells (reC11 b) 62 (0, 0))) (h1 : s.t1.length ≤ 1048576) (h2 : s.t2.length ≤ 1048576) (h3 : s.b1.length ≤ 1048576) (h4 : s.b2.length ≤ 3000000) (hp : s.p ≤ 1048576) (hc : s.c ≤ 1048576) (hc1 : 1 ≤ s.c) (gb : Bool) :
    Calls Tryz.prog 54 #[.int .i64 ((s.c : Int) - 1), .bool gb, .pointer (some ⟨g, 0, none⟩)] w (EvP11 w0 b r (s.cut (s.c - 1) gb) (s.cutOut (s.c - 1) gb)) := by
  have h := evict11_walk (N := s.c - 1) gb hX hg h1 h2 h3 h4 hp (by omega)
  rw [show ((s.c - 1 : Nat) : Int) = (s.c : Int) - 1 by omega] at h
  exact h
set_option maxHeartbeats 8000000 in
set_option maxRecDepth 8000 in
theorem makeRoom_walk {w0 : World} {b r : Nat} (hX : Bx11 w0 w PT11 b r s u1 u2 u3 u4) (ok : s.Ok) : Calls Tryz.prog 32 #[.pointer (some ⟨b, 0, none⟩)] w (EvP11 w0 b r s.room s.roomOut) := by
  have hc := ok.cap
  have hc1 := ok.pos
  have hpc := ok.pc
  have hl := ok.len
  have ho := ok.one
  have hg := ok.gone
  obtain ⟨F1, d1, rfl, -⟩ := hX.st.g1.mem
  obtain ⟨F2, d2, rfl, -⟩ := hX.st.g2.mem
  obtain ⟨F3, d3, rfl, -⟩ := hX.st.g3.mem
  obtain ⟨F4, d4, rfl, -⟩ := hX.st.g4.mem
  have KE := Lib.hid (evicting11_walk hX)
  obtain ⟨R, hR⟩ : ∃ R, s.room = R := ⟨_, rfl⟩
  obtain ⟨O, hO⟩ : ∃ O, s.roomOut = O := ⟨_, rfl⟩
  have HRO := Lib.hid (And.intro hR hO)
  rw [hR, hO]
  clear hR hO ok
  obtain ⟨c, pp, l1, l2, l3, l4⟩ := s
  dsimp only at hc hc1 hpc hl ho hg KE
  obtain ⟨n1, hn1⟩ : ∃ n, l1.length = n := ⟨_, rfl⟩
  obtain ⟨n2, hn2⟩ : ∃ n, l2.length = n := ⟨_, rfl⟩
  obtain ⟨n3, hn3⟩ : ∃ n, l3.length = n := ⟨_, rfl⟩
  obtain ⟨n4, hn4⟩ : ∃ n, l4.length = n := ⟨_, rfl⟩
  rw [hn1, hn2, hn3, hn4] at KE
  have HNN := Lib.hid (And.intro hn1 (And.intro hn2 (And.intro hn3 hn4)))
  rw [hn1, hn2] at hl
  rw [hn1, hn3] at ho
  rw [hn3, hn4] at hg
  clear hn1 hn2 hn3 hn4 hX
  have i1 : (n1 : Int) ≤ 1048576 := by omega
  have i2 : (n2 : Int) ≤ 1048576 := by omega
  have i3 : (n3 : Int) ≤ 1048576 := by omega
  have i4 : (n4 : Int) ≤ 1048576 := by omega
  have ic : (c : Int) ≤ 1048576 := by omega
  have ic1 : (1 : Int) ≤ (c : Int) := by omega
  go_enter Tryz.func32, Tryz.ntmps32
  go_wp2_with fail
  refine KE.out.mono ?_
  rintro e w1 ⟨g, rfl, hx1, hg1, -⟩
  have HX1 := Lib.hid hx1
  have HG1 := Lib.hid hg1
  clear hx1 hg1 KE
  have HLD : Hid (∀ W, Below w1.heap.size w1 W → W.cell? ⟨b, 0, none⟩ = some (.int .i64 (c : Nat)) ∧ W.cell? ⟨b, 2, none⟩ = some (.slice F1 n1 d1) ∧ W.cell? ⟨b, 3, none⟩ = some (.slice F2 n2 d2) ∧ W.cell? ⟨b, 4, none⟩ = some (.slice F3 n3 d3) ∧ W.cell? ⟨b, 5, none⟩ = some (.slice F4 n4 d4)) := Lib.hid (fun W hb => by
    obtain ⟨⟨x0, x1, x2, x3, x4, x5⟩, _⟩ := c6_at (HX1.out.step hb).bo.box
    exact ⟨x0, x2, x3, x4, x5⟩)
  have HM2 : Hid (∀ W v, KVV W v [l1, l3] → Calls Tryz.prog 42 #[v] W fun e w' => e = .returned (.int .i64 ((n1 : Int) + (n3 : Int))) ∧ W = w') := Lib.hid (fun W v hv => by
    obtain ⟨e1, e2, e3, e4⟩ := HNN.out
    have h := many_walk hv (by simp) (by simp; omega)
    have e : (([l1, l3].flatten.length : Nat) : Int) = (n1 : Int) + (n3 : Int) := by simp; omega
    rw [e] at h
    exact h)
  have HM4 : Hid (∀ W v, KVV W v [l1, l2, l3, l4] → Calls Tryz.prog 42 #[v] W fun e w' => e = .returned (.int .i64 ((n1 : Int) + (n2 : Int) + (n3 : Int) + (n4 : Int))) ∧ W = w') := Lib.hid (fun W v hv => by
    obtain ⟨e1, e2, e3, e4⟩ := HNN.out
    have h := many_walk hv (by simp) (by simp; omega)
    have e : (([l1, l2, l3, l4].flatten.length : Nat) : Int) = (n1 : Int) + (n2 : Int) + (n3 : Int) + (n4 : Int) := by simp; omega
    rw [e] at h
    exact h)
  have HV2 : Hid (KVV (w1.alloc (.cells #[.slice F1 n1 d1, .slice F3 n3 d3] 26)) (.slice (some ⟨w1.heap.size, 0, none⟩) 2 2) [l1, l3]) := Lib.hid (KVV.two HX1.out.st.g1 HX1.out.st.g3 _)
  obtain ⟨x0, x2, x3, x4, x5⟩ := HLD.out w1 (Below.refl _ _)
  obtain ⟨q1, hq1⟩ : ∃ q, decide (n1 + n3 < c) = q := ⟨_, rfl⟩
  have hq1I : decide ((n1 : Int) + (n3 : Int) < (c : Int)) = q1 := by
    rw [← hq1, decide_eq_decide]
    omega
  have HQ1 := Lib.hid hq1
  clear hq1
  go_wp2_with fail
  go_cut [27] (fun s27 wx => s27 = .bool q1 ∧ Below w1.heap.size w1 wx)
  case first =>
    go_region_held3 (fun W => W.cell? ⟨b, 0, none⟩ = some (.int .i64 (c : Nat)) ∧ W.cell? ⟨b, 2, none⟩ = some (.slice F1 n1 d1) ∧ W.cell? ⟨b, 3, none⟩ = some (.slice F2 n2 d2) ∧ W.cell? ⟨b, 4, none⟩ = some (.slice F3 n3 d3) ∧ W.cell? ⟨b, 5, none⟩ = some (.slice F4 n4 d4)) (go_keep)
      (first
        | (go_at_call 42; refine (HM2.out _ _ (HV2.out.below (below_drewn (Below.refl _ _) _))).mono ?_; rintro e wk ⟨rfl, rfl⟩))
    all_goals
      go_wp2_with fail
      go_meet
      exact ⟨by first | rfl | exact congrArg Value.bool hq1I, below_drewn (low_one _ _) _⟩
  case rest =>
    obtain ⟨rfl, hbc⟩ := hcut
    have HXC := Lib.hid (HX1.out.step hbc)
    have HGC := Lib.hid ((hbc.block g (head_row HG1.out).lt).trans HG1.out)
    clear x0 x2 x3 x4 x5 HV2 HM2 hq1I hbc HX1 HG1 HLD
    have HLC : Hid (∀ W, Below wc.heap.size wc W → W.cell? ⟨b, 0, none⟩ = some (.int .i64 (c : Nat)) ∧ W.cell? ⟨b, 2, none⟩ = some (.slice F1 n1 d1) ∧ W.cell? ⟨b, 3, none⟩ = some (.slice F2 n2 d2) ∧ W.cell? ⟨b, 4, none⟩ = some (.slice F3 n3 d3) ∧ W.cell? ⟨b, 5, none⟩ = some (.slice F4 n4 d4)) := Lib.hid (fun W hb => by
      obtain ⟨⟨x0, x1, x2, x3, x4, x5⟩, _⟩ := c6_at (HXC.out.step hb).bo.box
      exact ⟨x0, x2, x3, x4, x5⟩)
    obtain ⟨x0, x2, x3, x4, x5⟩ := HLC.out wc (Below.refl _ _)
    cases q1
    · have h1 : ¬ n1 + n3 < c := of_decide_eq_false HQ1.out
      clear HQ1 HM4
      obtain ⟨q3, hq3⟩ : ∃ q, decide (n1 < c) = q := ⟨_, rfl⟩
      have hq3I : decide ((n1 : Int) < (c : Int)) = q3 := by
        rw [← hq3, decide_eq_decide]
        omega
      have HQ3 := Lib.hid hq3
      clear hq3
      go_wp2_with fail
      go_cut [81] (fun s81 wx => s81 = .bool q3 ∧ Below wc.heap.size wc wx)
      case first =>
        go_quiet (fail)
        all_goals
          go_wp2_with fail
          go_meet
          exact ⟨by first | rfl | exact congrArg Value.bool hq3I | exact congrArg Value.bool HQ3.out, below_drewn (Below.refl _ _) _⟩
      case rest =>
        obtain ⟨rfl, hbc⟩ := hcut
        have HXC2 := Lib.hid (HXC.out.step hbc)
        have HGC2 := Lib.hid ((hbc.block g (head_row HGC.out).lt).trans HGC.out)
        clear x0 x2 x3 x4 x5 hq3I hbc HXC HGC HLC
        cases q3
        · have h2 : ¬ n1 < c := of_decide_eq_false HQ3.out
          clear HQ3
          have HRE : Hid (R = (⟨c, pp, l1.take (n1 - 1), l2, l3, l4⟩ : L11) ∧ O = (l1.drop (n1 - 1)).reverse) := Lib.hid (by
            obtain ⟨e1, e2, e3, e4⟩ := HNN.out
            rw [← HRO.out.1, ← HRO.out.2]
            unfold L11.room L11.roomOut L11.all
            dsimp only
            rw [e1, e2, e3, e4]
            rw [if_neg h1, if_neg h1, if_neg h2, if_neg h2]
            unfold L11.lost
            dsimp only
            rw [e1]
            refine ⟨rfl, ?_⟩
            rw [List.drop_eq_getElem_cons (by omega), List.drop_eq_nil_of_le (by omega)]
            simp [List.getD_eq_getElem?_getD, List.getElem?_eq_getElem (show n1 - 1 < l1.length by omega)])
          clear HRO
          have HXC := HXC2
          have HGC := HGC2
          clear HXC2 HGC2
          have HLC : Hid (∀ W, Below wc.heap.size wc W → W.cell? ⟨b, 0, none⟩ = some (.int .i64 (c : Nat)) ∧ W.cell? ⟨b, 2, none⟩ = some (.slice F1 n1 d1) ∧ W.cell? ⟨b, 3, none⟩ = some (.slice F2 n2 d2) ∧ W.cell? ⟨b, 4, none⟩ = some (.slice F3 n3 d3) ∧ W.cell? ⟨b, 5, none⟩ = some (.slice F4 n4 d4)) := Lib.hid (fun W hb => by
            obtain ⟨⟨x0, x1, x2, x3, x4, x5⟩, _⟩ := c6_at (HXC.out.step hb).bo.box
            exact ⟨x0, x2, x3, x4, x5⟩)
          obtain ⟨x0, x2, x3, x4, x5⟩ := HLC.out wc (Below.refl _ _)
          have hi0 : (1 : Int) ≤ (n1 : Int) := by omega
          have KFI : Hid (∀ W v (x : Int), x = (n1 : Int) - 1 → KV W v l1 → Calls Tryz.prog 55 #[v, .int .i64 x] W (RetTwo W (l1.drop (n1 - 1)).reverse (l1.take (n1 - 1)))) := Lib.hid (fun W v x hx h => by
            subst hx
            have h2 := fall_walk h (by have := HNN.out; omega) ((n1 : Int) - 1) (by omega) (by omega)
            rw [show ((n1 : Int) - 1).toNat = n1 - 1 by omega] at h2
            exact h2)
          go_wp2_with fail
          go_cut [4, 5] (fun s4 s5 wx => ∃ o Fa na da, s4 = o ∧ s5 = .slice Fa na da ∧ Bx11 w0 wx PT11 b r (⟨c, pp, l1, l2, l3, l4⟩ : L11) (.slice F1 n1 d1) (.slice F2 n2 d2) (.slice F3 n3 d3) (.slice F4 n4 d4) ∧ KV wx o (l1.drop (n1 - 1)).reverse ∧ KV wx (.slice Fa na da) (l1.take (n1 - 1)))
          case first =>
            go_region_held3 (fun W => W.cell? ⟨b, 2, none⟩ = some (.slice F1 n1 d1)) (first | with_reducible exact kks | go_keep)
              (first
                | (go_at_call 55; refine (KFI.out _ _ _ (by first | rfl | (rw [IntKind.wrap_i64]; omega)) ((HXC.out.step (below_drewn (Below.refl _ _) 1)).st.g1)).mono ?_; rintro e wa ⟨vo, va, rfl, hbq, hko, hka⟩; have hba := (below_drewn (Below.refl wc.heap.size wc) 1).trans hbq; obtain ⟨Fa, na, da, rfl⟩ := hka.form; have kks := (HLC.out wa hba).2.1))
            all_goals
              go_wp2_with fail
              go_meet
              exact ⟨vo, Fa, na, da, rfl, rfl, HXC.out.step hba, hko, hka⟩
          case rest =>
            obtain ⟨o, Fa, na, da, rfl, rfl, hxd, hod, had⟩ := hcut
            clear x0 x2 x3 x4 x5 HXC HGC HLC KFI
            obtain ⟨⟨x0, x1, x2, x3, x4, x5⟩, xf0, xf1, xf2, xf3, xf4, xf5⟩ := c6_at hxd.bo.box
            have hbb := (head_row hxd.bo.box).lt
            have HF := Lib.hid (And.intro (hxd.set2 had) (hxd.kv (i := 2) (x := .slice Fa na da) hod))
            clear hxd hod had h1 h2
            go_wp2
            try rw [Exit.noGoto_ret]
            go_ret
            refine ⟨_, (.slice Fa na da), (.slice F2 n2 d2), (.slice F3 n3 d3), (.slice F4 n4 d4), rfl, ?_, ?_⟩
            · rw [HRE.out.1]
              exact HF.out.1
            · rw [HRE.out.2]
              exact HF.out.2
        · have h2 : n1 < c := of_decide_eq_true HQ3.out
          clear HQ3
          have HRE : Hid (R = (⟨c, pp, l1, l2, l3.take (n3 - 1), l4⟩ : L11).cut (c - 1) false ∧ O = (⟨c, pp, l1, l2, l3.take (n3 - 1), l4⟩ : L11).cutOut (c - 1) false) := Lib.hid (by
            obtain ⟨e1, e2, e3, e4⟩ := HNN.out
            rw [← HRO.out.1, ← HRO.out.2]
            unfold L11.room L11.roomOut L11.all
            dsimp only
            rw [e1, e2, e3, e4]
            rw [if_neg h1, if_neg h1, if_pos h2, if_pos h2]
            unfold L11.less1
            dsimp only
            rw [e3]
            exact ⟨rfl, rfl⟩)
          clear HRO
          have HXC := HXC2
          have HGC := HGC2
          clear HXC2 HGC2
          have HLC : Hid (∀ W, Below wc.heap.size wc W → W.cell? ⟨b, 0, none⟩ = some (.int .i64 (c : Nat)) ∧ W.cell? ⟨b, 2, none⟩ = some (.slice F1 n1 d1) ∧ W.cell? ⟨b, 3, none⟩ = some (.slice F2 n2 d2) ∧ W.cell? ⟨b, 4, none⟩ = some (.slice F3 n3 d3) ∧ W.cell? ⟨b, 5, none⟩ = some (.slice F4 n4 d4)) := Lib.hid (fun W hb => by
            obtain ⟨⟨x0, x1, x2, x3, x4, x5⟩, _⟩ := c6_at (HXC.out.step hb).bo.box
            exact ⟨x0, x2, x3, x4, x5⟩)
          obtain ⟨x0, x2, x3, x4, x5⟩ := HLC.out wc (Below.refl _ _)
          have hi0 : (1 : Int) ≤ (n3 : Int) := by omega
          have KFI : Hid (∀ W v (x : Int), x = (n3 : Int) - 1 → KV W v l3 → Calls Tryz.prog 35 #[v, .int .i64 x] W (RetK W (l3.take (n3 - 1)))) := Lib.hid (fun W v x hx h => by
            subst hx
            have h2 := firsts_walk h (by have := HNN.out; omega) ((n3 : Int) - 1) (by omega) (by omega)
            rw [show ((n3 : Int) - 1).toNat = n3 - 1 by omega] at h2
            exact h2)
          have hbg : b ≠ g := fun e => by
            have h := HXC.out.bo.box
            rw [e, HGC.out] at h
            injection h with h
            injection h with h _
            have h6 : (1 : Nat) = 6 := congrArg Array.size h
            omega
          go_wp2_with fail
          go_region_law
            (first
              | (go_simp; go_at_call 35; refine (KFI.out _ _ _ (by first | rfl | (rw [IntKind.wrap_i64]; omega)) ((HXC.out.step (below_drewn (Below.refl _ _) 1)).st.g3)).mono ?_; rintro e wa ⟨va, rfl, hbq, hka⟩; have hba := (below_drewn (Below.refl wc.heap.size wc) 1).trans hbq; obtain ⟨Fa, na, da, rfl⟩ := hka.form; obtain ⟨⟨xx0, xx1, xx2, xx3, xx4, xx5⟩, xxf0, xxf1, xxf2, xxf3, xxf4, xxf5⟩ := c6_at (HXC.out.step hba).bo.box; have hbb2 := (head_row (HXC.out.step hba).bo.box).lt))
          all_goals
            have HXD := Lib.hid ((HXC.out.step hba).set4 hka)
            have HGD : Hid ((wa.setCell ⟨b, 4, none⟩ (.slice Fa na da)).heap[g]? = some (.cells (reC11 b) 62 (0, 0))) := Lib.hid (by
              first
                | exact (Below.heap_setCell _ _ _ _ hbg).trans ((hba.block g (head_row HGC.out).lt).trans HGC.out)
                | exact (Below.heap_setCell _ _ _ _ (Ne.symm hbg)).trans ((hba.block g (head_row HGC.out).lt).trans HGC.out))
            generalize wa.setCell ⟨b, 4, none⟩ (.slice Fa na da) = wd at HXD HGD ⊢
            clear hbq hka hba HXC HGC HLC KFI x0 x2 x3 x4 x5 hbg xx0 xx1 xx2 xx3 xx4 xx5 xxf0 xxf1 xxf2 xxf3 xxf4 xxf5 hbb2
            clear h1 h2 hi0
            obtain ⟨⟨x0, x1, x2, x3, x4, x5⟩, xf0, xf1, xf2, xf3, xf4, xf5⟩ := c6_at HXD.out.bo.box
            dsimp only at x0 x1
            have KF := Lib.hid (evict11_ok HXD.out HGD.out (by have := HNN.out; dsimp only; (try rw [List.length_take]); omega) (by have := HNN.out; dsimp only; omega) (by have := HNN.out; dsimp only; (try rw [List.length_take]); omega) (by have := HNN.out; dsimp only; (try rw [List.length_take]); omega) (by dsimp only; omega) (by dsimp only; omega) (by dsimp only; omega) false)
            dsimp only at KF
            clear HXD HGD
            go_wp2_with fail
            refine KF.out.mono ?_
            rintro e w4 ⟨ob, v1, v2, v3, v4, rfl, hx4, ho4⟩
            have HF := Lib.hid (And.intro hx4 ho4)
            clear hx4 ho4 KF x0 x1 x2 x3 x4 x5 xf0 xf1 xf2 xf3 xf4 xf5
            go_wp2
            try rw [Exit.noGoto_ret]
            go_ret
            refine ⟨ob, v1, v2, v3, v4, rfl, ?_, ?_⟩
            · rw [HRE.out.1]
              exact HF.out.1
            · rw [HRE.out.2]
              exact HF.out.2
    · have h1 : n1 + n3 < c := of_decide_eq_true HQ1.out
      clear HQ1
      have HV4 : Hid (KVV (wc.alloc (.cells #[.slice F1 n1 d1, .slice F2 n2 d2, .slice F3 n3 d3, .slice F4 n4 d4] 26)) (.slice (some ⟨wc.heap.size, 0, none⟩) 4 4) [l1, l2, l3, l4]) := Lib.hid (KVV.four HXC.out.st.g1 HXC.out.st.g2 HXC.out.st.g3 HXC.out.st.g4 _)
      obtain ⟨q2, hq2⟩ : ∃ q, decide (2 * c ≤ n1 + n2 + n3 + n4) = q := ⟨_, rfl⟩
      have hq2I : decide (2 * (c : Int) ≤ (n1 : Int) + (n2 : Int) + (n3 : Int) + (n4 : Int)) = q2 := by
        rw [← hq2, decide_eq_decide]
        omega
      have HQ2 := Lib.hid hq2
      clear hq2
      have hw2 : IntKind.i64.wrap (2 * (c : Int)) = 2 * (c : Int) := by rw [IntKind.wrap_i64]; omega
      go_wp2_with fail
      go_cut [66] (fun s66 wx => s66 = .bool q2 ∧ Below wc.heap.size wc wx)
      case first =>
        go_region_held3 (fun W => W.cell? ⟨b, 0, none⟩ = some (.int .i64 (c : Nat)) ∧ W.cell? ⟨b, 2, none⟩ = some (.slice F1 n1 d1) ∧ W.cell? ⟨b, 3, none⟩ = some (.slice F2 n2 d2) ∧ W.cell? ⟨b, 4, none⟩ = some (.slice F3 n3 d3) ∧ W.cell? ⟨b, 5, none⟩ = some (.slice F4 n4 d4)) (go_keep)
          (first
            | (go_at_call 42; refine (HM4.out _ _ (HV4.out.below (below_drewn (Below.refl _ _) _))).mono ?_; rintro e wk ⟨rfl, rfl⟩))
        all_goals
          go_wp2_with fail
          go_meet
          exact ⟨by first | rfl | exact congrArg Value.bool hq2I, below_drewn (low_one _ _) _⟩
      case rest =>
        obtain ⟨rfl, hbc⟩ := hcut
        have HXC2 := Lib.hid (HXC.out.step hbc)
        have HGC2 := Lib.hid ((hbc.block g (head_row HGC.out).lt).trans HGC.out)
        clear x0 x2 x3 x4 x5 HV4 HM4 hq2I hbc HXC HGC HLC
        cases q2
        · have h2 : ¬ 2 * c ≤ n1 + n2 + n3 + n4 := of_decide_eq_false HQ2.out
          clear HQ2
          have HRE : Hid (R = (⟨c, pp, l1, l2, l3, l4⟩ : L11).cut (c - 1) false ∧ O = (⟨c, pp, l1, l2, l3, l4⟩ : L11).cutOut (c - 1) false) := Lib.hid (by
            obtain ⟨e1, e2, e3, e4⟩ := HNN.out
            rw [← HRO.out.1, ← HRO.out.2]
            unfold L11.room L11.roomOut L11.all
            dsimp only
            rw [e1, e2, e3, e4]
            rw [if_pos h1, if_pos h1, if_neg h2]
            exact ⟨rfl, rfl⟩)
          clear HRO
          clear h1 h2
          obtain ⟨⟨x0, x1, x2, x3, x4, x5⟩, xf0, xf1, xf2, xf3, xf4, xf5⟩ := c6_at HXC2.out.bo.box
          dsimp only at x0 x1
          have KF := Lib.hid (evict11_ok HXC2.out HGC2.out (by have := HNN.out; dsimp only; (try rw [List.length_take]); omega) (by have := HNN.out; dsimp only; omega) (by have := HNN.out; dsimp only; (try rw [List.length_take]); omega) (by have := HNN.out; dsimp only; (try rw [List.length_take]); omega) (by dsimp only; omega) (by dsimp only; omega) (by dsimp only; omega) false)
          dsimp only at KF
          clear HXC2 HGC2
          go_wp2_with fail
          refine KF.out.mono ?_
          rintro e w4 ⟨ob, v1, v2, v3, v4, rfl, hx4, ho4⟩
          have HF := Lib.hid (And.intro hx4 ho4)
          clear hx4 ho4 KF x0 x1 x2 x3 x4 x5 xf0 xf1 xf2 xf3 xf4 xf5
          go_wp2
          try rw [Exit.noGoto_ret]
          go_ret
          refine ⟨ob, v1, v2, v3, v4, rfl, ?_, ?_⟩
          · rw [HRE.out.1]
            exact HF.out.1
          · rw [HRE.out.2]
            exact HF.out.2
        · have h2 : 2 * c ≤ n1 + n2 + n3 + n4 := of_decide_eq_true HQ2.out
          clear HQ2
          have HRE : Hid (R = (⟨c, pp, l1, l2, l3, l4.take (n4 - 1)⟩ : L11).cut (c - 1) false ∧ O = (⟨c, pp, l1, l2, l3, l4.take (n4 - 1)⟩ : L11).cutOut (c - 1) false) := Lib.hid (by
            obtain ⟨e1, e2, e3, e4⟩ := HNN.out
            rw [← HRO.out.1, ← HRO.out.2]
            unfold L11.room L11.roomOut L11.all
            dsimp only
            rw [e1, e2, e3, e4]
            rw [if_pos h1, if_pos h1, if_pos h2]
            unfold L11.less2
            dsimp only
            rw [e4]
            exact ⟨rfl, rfl⟩)
          clear HRO
          have HXC := HXC2
          have HGC := HGC2
          clear HXC2 HGC2
          have HLC : Hid (∀ W, Below wc.heap.size wc W → W.cell? ⟨b, 0, none⟩ = some (.int .i64 (c : Nat)) ∧ W.cell? ⟨b, 2, none⟩ = some (.slice F1 n1 d1) ∧ W.cell? ⟨b, 3, none⟩ = some (.slice F2 n2 d2) ∧ W.cell? ⟨b, 4, none⟩ = some (.slice F3 n3 d3) ∧ W.cell? ⟨b, 5, none⟩ = some (.slice F4 n4 d4)) := Lib.hid (fun W hb => by
            obtain ⟨⟨x0, x1, x2, x3, x4, x5⟩, _⟩ := c6_at (HXC.out.step hb).bo.box
            exact ⟨x0, x2, x3, x4, x5⟩)
          obtain ⟨x0, x2, x3, x4, x5⟩ := HLC.out wc (Below.refl _ _)
          have hi0 : (1 : Int) ≤ (n4 : Int) := by omega
          have KFI : Hid (∀ W v (x : Int), x = (n4 : Int) - 1 → KV W v l4 → Calls Tryz.prog 35 #[v, .int .i64 x] W (RetK W (l4.take (n4 - 1)))) := Lib.hid (fun W v x hx h => by
            subst hx
            have h2 := firsts_walk h (by have := HNN.out; omega) ((n4 : Int) - 1) (by omega) (by omega)
            rw [show ((n4 : Int) - 1).toNat = n4 - 1 by omega] at h2
            exact h2)
          have hbg : b ≠ g := fun e => by
            have h := HXC.out.bo.box
            rw [e, HGC.out] at h
            injection h with h
            injection h with h _
            have h6 : (1 : Nat) = 6 := congrArg Array.size h
            omega
          go_wp2_with fail
          go_region_law
            (first
              | (go_simp; go_at_call 35; refine (KFI.out _ _ _ (by first | rfl | (rw [IntKind.wrap_i64]; omega)) ((HXC.out.step (below_drewn (Below.refl _ _) 1)).st.g4)).mono ?_; rintro e wa ⟨va, rfl, hbq, hka⟩; have hba := (below_drewn (Below.refl wc.heap.size wc) 1).trans hbq; obtain ⟨Fa, na, da, rfl⟩ := hka.form; obtain ⟨⟨xx0, xx1, xx2, xx3, xx4, xx5⟩, xxf0, xxf1, xxf2, xxf3, xxf4, xxf5⟩ := c6_at (HXC.out.step hba).bo.box; have hbb2 := (head_row (HXC.out.step hba).bo.box).lt))
          all_goals
            have HXD := Lib.hid ((HXC.out.step hba).set5 hka)
            have HGD : Hid ((wa.setCell ⟨b, 5, none⟩ (.slice Fa na da)).heap[g]? = some (.cells (reC11 b) 62 (0, 0))) := Lib.hid (by
              first
                | exact (Below.heap_setCell _ _ _ _ hbg).trans ((hba.block g (head_row HGC.out).lt).trans HGC.out)
                | exact (Below.heap_setCell _ _ _ _ (Ne.symm hbg)).trans ((hba.block g (head_row HGC.out).lt).trans HGC.out))
            generalize wa.setCell ⟨b, 5, none⟩ (.slice Fa na da) = wd at HXD HGD ⊢
            clear hbq hka hba HXC HGC HLC KFI x0 x2 x3 x4 x5 hbg xx0 xx1 xx2 xx3 xx4 xx5 xxf0 xxf1 xxf2 xxf3 xxf4 xxf5 hbb2
            clear h1 h2 hi0
            obtain ⟨⟨x0, x1, x2, x3, x4, x5⟩, xf0, xf1, xf2, xf3, xf4, xf5⟩ := c6_at HXD.out.bo.box
            dsimp only at x0 x1
            have KF := Lib.hid (evict11_ok HXD.out HGD.out (by have := HNN.out; dsimp only; (try rw [List.length_take]); omega) (by have := HNN.out; dsimp only; omega) (by have := HNN.out; dsimp only; (try rw [List.length_take]); omega) (by have := HNN.out; dsimp only; (try rw [List.length_take]); omega) (by dsimp only; omega) (by dsimp only; omega) (by dsimp only; omega) false)
            dsimp only at KF
            clear HXD HGD
            go_wp2_with fail
            refine KF.out.mono ?_
            rintro e w4 ⟨ob, v1, v2, v3, v4, rfl, hx4, ho4⟩
            have HF := Lib.hid (And.intro hx4 ho4)
            clear hx4 ho4 KF x0 x1 x2 x3 x4 x5 xf0 xf1 xf2 xf3 xf4 xf5
            go_wp2
            try rw [Exit.noGoto_ret]
            go_ret
            refine ⟨ob, v1, v2, v3, v4, rfl, ?_, ?_⟩
            · rw [HRE.out.1]
              exact HF.out.1
            · rw [HRE.out.2]
              exact HF.out.2
end
end Go.Proofs.YtgkblelgcikafaaGreat
