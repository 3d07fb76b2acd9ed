/- Words and walks: RcX. -/
import Derived.Test.YtgkblelgcikafaaGreatG23
namespace Go.Proofs.YtgkblelgcikafaaGreat
open Go Go.RowKit Go.Deep
set_option maxRecDepth 8000
theorem below_drew11 {B : Nat} {w0 w : World} (h : Below B w0 w) : Below B w0 w.drew := ⟨h.os, h.tape, h.output, h.size, h.block⟩
section
variable {w : World} {u1 u2 u3 u4 : Value} {s : L11}
set_option maxHeartbeats 8000000 in
set_option maxRecDepth 8000 in
theorem p11admit_walk (hs : St11 w s u1 u2 u3 u4) (ok : s.Ok) (k : Nat) : Calls Tryz.prog 10 #[.agg (l11C s.c s.p u1 u2 u3 u4), .int .u64 (k : Nat)] w (P11o w (s.adm k) (s.admitOut k)) := by
  obtain ⟨F1, n1, d1, rfl⟩ := hs.form1
  obtain ⟨F2, n2, d2, rfl⟩ := hs.form2
  obtain ⟨F3, n3, d3, rfl⟩ := hs.form3
  obtain ⟨F4, n4, d4, rfl⟩ := hs.form4
  have HX0 := Lib.hid (Bx11.start w PT11 (by decide) hs)
  have KO := Lib.hid (owned11_walk HX0.out.st ok)
  have HHS : Hid (∀ W v1 v2 v3 v4, St11 W s v1 v2 v3 v4 → Calls Tryz.prog 8 #[.agg (l11C s.c s.p v1 v2 v3 v4), .int .u64 (k : Nat)] W (RetB W (decide (k ∈ s.keys)))) := Lib.hid (fun W v1 v2 v3 v4 h => p11has_walk h ok k)
  have HOK := Lib.hid ok
  have hc := ok.cap
  have hc1 := ok.pos
  have hpc := ok.pc
  have hl := ok.len
  have ho := ok.one
  have hg := ok.gone
  have hl3 := ok.len_b1
  have hl4 := ok.len_b2
  obtain ⟨R, hR⟩ : ∃ R, s.adm k = R := ⟨_, rfl⟩
  obtain ⟨O, hO⟩ : ∃ O, s.admitOut k = O := ⟨_, rfl⟩
  have HRO := Lib.hid (And.intro hR hO)
  rw [hR, hO]
  obtain ⟨bk, hbk⟩ : ∃ b, decide (k ∈ s.keys) = b := ⟨_, rfl⟩
  obtain ⟨b1, hb1⟩ : ∃ b, decide (k ∈ s.b1) = b := ⟨_, rfl⟩
  obtain ⟨b2, hb2⟩ : ∃ b, decide (k ∈ s.b2) = b := ⟨_, rfl⟩
  rw [hbk] at HHS
  have HBK := Lib.hid (And.intro hbk (And.intro hb1 hb2))
  clear hs ok hR hO hbk hb1 hb2
  obtain ⟨c, pp, l1, l2, l3, l4⟩ := s
  dsimp only at HX0 KO HHS hc hc1 hpc hl ho hg hl3 hl4
  generalize hW0 : World.alloc _ (.cells z11 PT11) = W0 at HX0 KO
  have HW0 := Lib.hid hW0
  clear hW0
  go_enter Tryz.func10, Tryz.ntmps10
  go_wp2_with fail
  rw [HW0.out]
  clear HW0
  refine KO.out.mono ?_
  rintro e w1 ⟨q1, q2, q3, q4, he, hb1, hk1⟩
  obtain ⟨Fp1, np1, dp1, rfl⟩ := hk1.form1
  obtain ⟨Fp2, np2, dp2, rfl⟩ := hk1.form2
  obtain ⟨Fp3, dp3, rfl, -⟩ := hk1.g3.mem
  obtain ⟨Fp4, dp4, rfl, -⟩ := hk1.g4.mem
  dsimp only at he hk1
  obtain ⟨np3, hn3⟩ : ∃ n, l3.length = n := ⟨_, rfl⟩
  obtain ⟨np4, hn4⟩ : ∃ n, l4.length = n := ⟨_, rfl⟩
  have HNN := Lib.hid (And.intro hn3 hn4)
  rw [hn3, hn4] at he hk1
  subst he
  have hx1 := HX0.out.step hb1
  obtain ⟨⟨x0, x1, x2, x3, x4, x5⟩, xf0, xf1, xf2, xf3, xf4, xf5⟩ := c6_at hx1.bo.box
  have hbb := (head_row hx1.bo.box).lt
  have hp := hx1.put hk1
  dsimp only at hp
  generalize hWp : ((((((w1.setCell ⟨w.heap.size, 0, none⟩ (.int .i64 (c : Nat))).setCell ⟨w.heap.size, 1, none⟩ (.int .i64 (pp : Nat))).setCell ⟨w.heap.size, 2, none⟩ (.slice Fp1 np1 dp1)).setCell ⟨w.heap.size, 3, none⟩ (.slice Fp2 np2 dp2)).setCell ⟨w.heap.size, 4, none⟩ (.slice Fp3 np3 dp3)).setCell ⟨w.heap.size, 5, none⟩ (.slice Fp4 np4 dp4)) = wp at hp
  have HWp := Lib.hid hWp
  have HXp := Lib.hid hp
  have KE := Lib.hid (evicting11_walk HXp.out)
  clear hWp hp hx1 hb1 hk1 KO HX0 hn3 hn4
  go_wp2_with fail
  rw [HWp.out]
  clear HWp
  refine KE.out.mono ?_
  rintro e w2 ⟨g, rfl, hx2, hg2, hb2⟩
  have HX2 := Lib.hid hx2
  have HG2 := Lib.hid hg2
  clear hx2 hg2 KE HXp hb2 x0 x1 x2 x3 x4 x5 xf0 xf1 xf2 xf3 xf4 xf5 hbb
  obtain ⟨⟨x0, x1, x2, x3, x4, x5⟩, xf0, xf1, xf2, xf3, xf4, xf5⟩ := c6_at HX2.out.bo.box
  have hbb := (head_row HX2.out.bo.box).lt
  dsimp only at x0 x1
  go_wp2_with fail
  go_cut [7, 8] (fun s7 s8 wx => s7 = .int .i64 (np3 : Nat) ∧ s8 = .int .i64 (np4 : Nat) ∧ Below w2.heap.size w2 wx)
  case first =>
    go_quiet (fail)
    all_goals
      go_wp2_with fail
      go_meet
      exact ⟨rfl, rfl, below_drewn (Below.refl _ _) _⟩
  case rest =>
    obtain ⟨rfl, rfl, hbc⟩ := hcut
    have HX3 := Lib.hid (HX2.out.step hbc)
    have HG3 := Lib.hid ((hbc.block g (head_row HG2.out).lt).trans HG2.out)
    clear HX2 HG2 x0 x1 x2 x3 x4 x5 xf0 xf1 xf2 xf3 xf4 xf5 hbb hbc
    obtain ⟨⟨x0, x1, x2, x3, x4, x5⟩, xf0, xf1, xf2, xf3, xf4, xf5⟩ := c6_at HX3.out.bo.box
    have hbb := (head_row HX3.out.bo.box).lt
    dsimp only at x0 x1
    have KH := Lib.hid (HHS.out _ _ _ _ _ HX3.out.st)
    clear HHS
    go_wp2_with fail
    refine KH.out.mono ?_
    rintro e w4 ⟨rfl, hb4⟩
    have HX4 := Lib.hid (HX3.out.step hb4)
    have HG4 := Lib.hid ((hb4.block g (head_row HG3.out).lt).trans HG3.out)
    clear HX3 HG3 x0 x1 x2 x3 x4 x5 xf0 xf1 xf2 xf3 xf4 xf5 hbb hb4 KH
    obtain ⟨⟨x0, x1, x2, x3, x4, x5⟩, xf0, xf1, xf2, xf3, xf4, xf5⟩ := c6_at HX4.out.bo.box
    have hbb := (head_row HX4.out.bo.box).lt
    dsimp only at x0 x1
    cases bk
    · have hin : k ∉ (⟨c, pp, l1, l2, l3, l4⟩ : L11).keys := of_decide_eq_false HBK.out.1
      have KHa := Lib.hid (has_walk HX4.out.st.g3 hl3 k)
      rw [show decide (k ∈ l3) = b1 from HBK.out.2.1] at KHa
      go_wp2_with fail
      refine KHa.out.mono ?_
      rintro e w5a ⟨rfl, rfl⟩
      clear KHa
      cases b1
      · have h1 : k ∉ l3 := of_decide_eq_false HBK.out.2.1
        have KHb := Lib.hid (has_walk HX4.out.st.g4 hl4 k)
        rw [show decide (k ∈ l4) = b2 from HBK.out.2.2] at KHb
        go_wp2_with fail
        refine KHb.out.mono ?_
        rintro e w5b ⟨rfl, rfl⟩
        clear KHb
        cases b2
        · have h2 : k ∉ l4 := of_decide_eq_false HBK.out.2.2
          have HRE : Hid (R = (⟨c, pp, l1, l2, l3, l4⟩ : L11).room.came k ∧ O = (⟨c, pp, l1, l2, l3, l4⟩ : L11).roomOut) := Lib.hid (by
            rw [← HRO.out.1, ← HRO.out.2]
            unfold L11.adm L11.admitOut
            rw [if_neg hin, if_neg hin, if_neg h1, if_neg h1, if_neg h2, if_neg h2]
            exact ⟨rfl, rfl⟩)
          have HRM := Lib.hid (And.intro HOK.out.room.c (And.intro HOK.out.room.p HOK.out.room.ok.len_t1))
          have KM := Lib.hid (makeRoom_walk HX4.out HOK.out)
          clear hin h1 h2 HRO HOK HX4 HG4 HBK
          generalize (⟨c, pp, l1, l2, l3, l4⟩ : L11).room = T at *
          generalize (⟨c, pp, l1, l2, l3, l4⟩ : L11).roomOut = OU at *
          go_wp2_with fail
          refine KM.out.mono ?_
          rintro e w6 ⟨ob, v1, v2, v3, v4, rfl, hx6, ho6⟩
          obtain ⟨Fq1, nq1, dq1, rfl⟩ := hx6.st.form1
          obtain ⟨Fq2, nq2, dq2, rfl⟩ := hx6.st.form2
          obtain ⟨Fq3, nq3, dq3, rfl⟩ := hx6.st.form3
          obtain ⟨Fq4, nq4, dq4, rfl⟩ := hx6.st.form4
          obtain ⟨f1, f2, f3⟩ := HRM.out
          obtain ⟨tc, tp, ti, tj, tO, tm⟩ := T
          dsimp only at f1 f2 f3
          subst f1 f2
          have HXq := Lib.hid hx6
          have HOB := Lib.hid ho6
          clear hx6 ho6 KM HRM x0 x1 x2 x3 x4 x5 xf0 xf1 xf2 xf3 xf4 xf5 hbb
          obtain ⟨⟨x0, x1, x2, x3, x4, x5⟩, xf0, xf1, xf2, xf3, xf4, xf5⟩ := c6_at HXq.out.bo.box
          have hbb := (head_row HXq.out.bo.box).lt
          dsimp only at x0 x1
          have KF := Lib.hid (kfront_walk HXq.out.st.g1 f3 k)
          go_wp2_with fail
          refine KF.out.mono ?_
          rintro e vf ⟨of, rfl, hf⟩
          obtain ⟨Ff, nf, df, rfl⟩ := hf.kv.form
          have hxf := HXq.out.step hf.low
          clear x0 x1 x2 x3 x4 x5 xf0 xf1 xf2 xf3 xf4 xf5 hbb
          obtain ⟨⟨x0, x1, x2, x3, x4, x5⟩, xf0, xf1, xf2, xf3, xf4, xf5⟩ := c6_at hxf.bo.box
          have hbb := (head_row hxf.bo.box).lt
          have hyf := hxf.set2 hf.kv
          have HOF := Lib.hid (hxf.kv (i := 2) (x := .slice Ff nf df) (HOB.out.below hf.low))
          obtain ⟨⟨y0, y1, y2, y3, y4, y5⟩, yf0, yf1, yf2, yf3, yf4, yf5⟩ := c6_at hxf.bo.res
          have hrr := (head_row hxf.bo.res).lt
          have HXf := Lib.hid hyf
          clear hf hxf hyf HXq KF
          have HD := Lib.hid (HXf.out.doneo HOF.out)
          clear HXf HOF HOB
          go_wp2
          try rw [Exit.noGoto_ret]
          exact bodyPost_ret (v := .tuple #[.agg (l11C tc tp (.slice Ff nf df) (.slice Fq2 nq2 dq2) (.slice Fq3 nq3 dq3) (.slice Fq4 nq4 dq4)), ob]) (by simp [results, Tryz.results10, go_sem, y0, y1, y2, y3, y4, y5]) rfl (by rw [HRE.out.1, HRE.out.2]; exact HD.out)
        · have h2 : k ∈ l4 := of_decide_eq_true HBK.out.2.2
          have hlen0 : 0 < np4 := by have := List.length_pos_of_mem h2; have := HNN.out; omega
          obtain ⟨pz, hpz⟩ : ∃ pz, pp - max (np3 / np4) 1 = pz := ⟨_, rfl⟩
          have HUP : Hid ((⟨c, pp, l1, l2, l3, l4⟩ : L11).dn k = (⟨c, pz, l1, l2, l3, wo k l4⟩ : L11)) := Lib.hid (by
            rw [← hpz, ← HNN.out.1, ← HNN.out.2]
            rfl)
          have HTK := (L11.dn_ok HOK.out h2).1
          rw [HUP.out] at HTK
          have HRE : Hid (R = ((⟨c, pz, l1, l2, l3, wo k l4⟩ : L11).cut (c - 1) true).hit k ∧ O = (⟨c, pz, l1, l2, l3, wo k l4⟩ : L11).cutOut (c - 1) true) := Lib.hid (by
            rw [← HRO.out.1, ← HRO.out.2, ← HUP.out]
            unfold L11.adm L11.admitOut
            rw [if_neg hin, if_neg hin, if_neg h1, if_neg h1, if_pos h2, if_pos h2]
            exact ⟨rfl, rfl⟩)
          have HT2 : Hid (((⟨c, pz, l1, l2, l3, wo k l4⟩ : L11).cut (c - 1) true).t2.length ≤ 100000000) := Lib.hid (by
            have h7 := ((⟨c, pz, l1, l2, l3, wo k l4⟩ : L11).cut_lens (c - 1) true).2.1
            have h8 := (⟨c, pz, l1, l2, l3, wo k l4⟩ : L11).lm_le (c - 1) true
            have h9 := HTK.len_t2
            omega)
          have HTK2 := Lib.hid HTK
          obtain ⟨q, hq⟩ : ∃ q, np3 / np4 = q := ⟨_, rfl⟩
          have hqle : q ≤ np3 := by rw [← hq]; exact Nat.div_le_self _ _
          have hqI : ((np3 : Nat) : Int).tdiv (np4 : Nat) = (q : Int) := by rw [Int.tdiv_eq_ediv_of_nonneg (by omega), ← hq]; rfl
          have hqJ : ((np3 : Nat) : Int) / ((np4 : Nat) : Int) = (q : Int) := by rw [← hq]; rfl
          rw [hq] at hpz
          obtain ⟨mx, hmx⟩ : ∃ mx, max q 1 = mx := ⟨_, rfl⟩
          rw [hmx] at hpz
          have hnb3 : np3 ≤ 1048576 := by have := HNN.out; omega
          have hnb4 : np4 ≤ 1048576 := by have := HNN.out; omega
          have hn3I : (np3 : Int) ≤ 1048576 := by omega
          have hn4I : (np4 : Int) ≤ 1048576 := by omega
          have hppI : (pp : Int) ≤ 1048576 := by omega
          have hcI : (c : Int) ≤ 1048576 := by omega
          have hc1I : (1 : Int) ≤ (c : Int) := by omega
          have hqI2 : (q : Int) ≤ 1048576 := by omega
          have hden : ¬ ((np4 : Nat) : Int) = 0 := by omega
          have hdenb : (((np4 : Nat) : Int) == 0) = false := by rw [beq_eq_false_iff_ne]; omega
          clear hin h1 h2 HTK HRO HOK hq HUP
          go_wp2_with fail
          go_cut [] (fun wx => wx = (w4.setCell ⟨w.heap.size, 1, none⟩ (.int .i64 (pz : Nat))).drew)
          case first =>
            rcases (by omega : q = 0 ∨ q = 1 ∨ 2 ≤ q) with hq0 | hq0 | hq0
            · have hqv : (q : Int) < 1 := by omega
              obtain rfl : mx = 1 := by omega
              clear hmx hlen0 hq0
              rcases Nat.lt_trichotomy pp 1 with hlt | hlt | hlt
              · have hz : (pz : Int) = 0 := by omega
                have hmm : (pp : Int) - 1 < 0 := by omega
                have HZ := Lib.hid hz
                clear hz hlt hpz
                go_region
                all_goals
                  go_wp2_with fail
                  go_meet
                  (rw [HZ.out]) <;> first | rfl | simp | simp [hmm]
              · have hz : (pz : Int) = 0 := by omega
                have hmm : (pp : Int) - 1 = 0 := by omega
                have HZ := Lib.hid hz
                clear hz hlt hpz
                go_region
                all_goals
                  go_wp2_with fail
                  go_meet
                  (rw [HZ.out]) <;> first | rfl | simp | simp [hmm]
              · have hz : (pz : Int) = (pp : Int) - 1 := by omega
                have hmm : (0 : Int) < (pp : Int) - 1 := by omega
                have HZ := Lib.hid hz
                clear hz hlt hpz
                go_region
                all_goals
                  go_wp2_with fail
                  go_meet
                  (rw [HZ.out]) <;> first | rfl | simp | simp [hmm]
            · have hq1 : q = 1 := by omega
              subst hq1
              obtain rfl : mx = 1 := by omega
              clear hmx hlen0 hq0
              rcases Nat.lt_trichotomy pp 1 with hlt | hlt | hlt
              · have hz : (pz : Int) = 0 := by omega
                have hmm : (pp : Int) - 1 < 0 := by omega
                have HZ := Lib.hid hz
                clear hz hlt hpz
                go_region
                all_goals
                  go_wp2_with fail
                  go_meet
                  (rw [HZ.out]) <;> first | rfl | simp | simp [hmm]
              · have hz : (pz : Int) = 0 := by omega
                have hmm : (pp : Int) - 1 = 0 := by omega
                have HZ := Lib.hid hz
                clear hz hlt hpz
                go_region
                all_goals
                  go_wp2_with fail
                  go_meet
                  (rw [HZ.out]) <;> first | rfl | simp | simp [hmm]
              · have hz : (pz : Int) = (pp : Int) - 1 := by omega
                have hmm : (0 : Int) < (pp : Int) - 1 := by omega
                have HZ := Lib.hid hz
                clear hz hlt hpz
                go_region
                all_goals
                  go_wp2_with fail
                  go_meet
                  (rw [HZ.out]) <;> first | rfl | simp | simp [hmm]
            · have hqv : (1 : Int) < (q : Int) := by omega
              obtain rfl : q = mx := by omega
              clear hmx hlen0 hq0
              rcases Nat.lt_trichotomy pp q with hlt | hlt | hlt
              · have hz : (pz : Int) = 0 := by omega
                have hmm : (pp : Int) - (q : Int) < 0 := by omega
                have HZ := Lib.hid hz
                clear hz hlt hpz
                go_region
                all_goals
                  go_wp2_with fail
                  go_meet
                  (rw [HZ.out]) <;> first | rfl | simp | simp [hmm]
              · have hz : (pz : Int) = 0 := by omega
                have hmm : (pp : Int) - (q : Int) = 0 := by omega
                have HZ := Lib.hid hz
                clear hz hlt hpz
                go_region
                all_goals
                  go_wp2_with fail
                  go_meet
                  (rw [HZ.out]) <;> first | rfl | simp | simp [hmm]
              · have hz : (pz : Int) = (pp : Int) - (q : Int) := by omega
                have hmm : (0 : Int) < (pp : Int) - (q : Int) := by omega
                have HZ := Lib.hid hz
                clear hz hlt hpz
                go_region
                all_goals
                  go_wp2_with fail
                  go_meet
                  (rw [HZ.out]) <;> first | rfl | simp | simp [hmm]
          case rest =>
            subst hcut
            have hx5 := (HX4.out.set1 pz).step (below_drew11 (Below.refl _ _))
            have hg5 : (w4.setCell ⟨w.heap.size, 1, none⟩ (.int .i64 (pz : Nat))).drew.heap[g]? = some (.cells (reC11 w.heap.size) 62 (0, 0)) := by
              have hbg : w.heap.size ≠ g := fun e => by
                have h := HX4.out.bo.box
                rw [e, HG4.out] at h
                injection h with h
                injection h with h _
                have h6 : (1 : Nat) = 6 := congrArg Array.size h
                omega
              first
                | exact (Below.heap_setCell _ _ _ _ hbg).trans HG4.out
                | exact (Below.heap_setCell _ _ _ _ (Ne.symm hbg)).trans HG4.out
            clear HX4 HG4 x0 x1 x2 x3 x4 x5 xf0 xf1 xf2 xf3 xf4 xf5 hbb hpz hmx hqI hqJ hden hdenb hqle hlen0 hqI2
            generalize (w4.setCell ⟨w.heap.size, 1, none⟩ (.int .i64 (pz : Nat))).drew = wz at hx5 hg5 ⊢
            have HXz := Lib.hid hx5
            have HGz := Lib.hid hg5
            clear hx5 hg5
            obtain ⟨⟨x0, x1, x2, x3, x4, x5⟩, xf0, xf1, xf2, xf3, xf4, xf5⟩ := c6_at HXz.out.bo.box
            have hbb := (head_row HXz.out.bo.box).lt
            dsimp only at x0 x1
            have KW := Lib.hid (without_walk HXz.out.st.g4 hl4 k)
            go_wp2_with fail
            refine KW.out.mono ?_
            rintro e va ⟨oa, rfl, ha⟩
            obtain ⟨Fa, na, da, rfl⟩ := ha.kv.form
            have hxa := HXz.out.step ha.low
            clear x0 x1 x2 x3 x4 x5 xf0 xf1 xf2 xf3 xf4 xf5 hbb
            obtain ⟨⟨x0, x1, x2, x3, x4, x5⟩, xf0, xf1, xf2, xf3, xf4, xf5⟩ := c6_at hxa.bo.box
            have hbb := (head_row hxa.bo.box).lt
            have hya := hxa.set5 ha.kv
            have hga : (va.setCell ⟨w.heap.size, 5, none⟩ (.slice Fa na da)).heap[g]? = some (.cells (reC11 w.heap.size) 62 (0, 0)) := by
              have hgq := (ha.low.block g (head_row HGz.out).lt).trans HGz.out
              have hbg : w.heap.size ≠ g := fun e => by
                have h := hxa.bo.box
                rw [e, hgq] at h
                injection h with h
                injection h with h _
                have h6 : (1 : Nat) = 6 := congrArg Array.size h
                omega
              first
                | exact (Below.heap_setCell _ _ _ _ hbg).trans hgq
                | exact (Below.heap_setCell _ _ _ _ (Ne.symm hbg)).trans hgq
            generalize hWa : va.setCell ⟨w.heap.size, 5, none⟩ (.slice Fa na da) = wa at hya hga
            have HGA := Lib.hid hga
            clear hga HGz
            have HWa := Lib.hid hWa
            have HXa := Lib.hid hya
            clear ha hWa hxa hya HXz KW
            have KC := Lib.hid (evict11_ok HXa.out HGA.out (by have := HTK2.out.len; have := HTK2.out.cap; dsimp only at *; omega) (by have := HTK2.out.len; have := HTK2.out.cap; dsimp only at *; omega) (by have := HTK2.out.one; have := HTK2.out.cap; dsimp only at *; omega) (by have := HTK2.out.gone; have := HTK2.out.cap; dsimp only at *; omega) (by have := HTK2.out.pc; have := HTK2.out.cap; dsimp only at *; omega) hc hc1 true)
            dsimp only at KC
            clear HGA HTK2
            go_wp2_with fail
            rw [HWa.out]
            clear HWa HXa
            refine KC.out.mono ?_
            rintro e w6 ⟨ob, v1, v2, v3, v4, rfl, hx6, ho6⟩
            obtain ⟨Fq1, nq1, dq1, rfl⟩ := hx6.st.form1
            obtain ⟨Fq2, nq2, dq2, rfl⟩ := hx6.st.form2
            obtain ⟨Fq3, nq3, dq3, rfl⟩ := hx6.st.form3
            obtain ⟨Fq4, nq4, dq4, rfl⟩ := hx6.st.form4
            have f3 := HT2.out
            have f1 : ((⟨c, pz, l1, l2, l3, wo k l4⟩ : L11).cut (c - 1) true).c = c := rfl
            have f2 : ((⟨c, pz, l1, l2, l3, wo k l4⟩ : L11).cut (c - 1) true).p = pz := rfl
            generalize (⟨c, pz, l1, l2, l3, wo k l4⟩ : L11).cut (c - 1) true = TT at *
            obtain ⟨tc, tp, ti, tj, tO, tm⟩ := TT
            dsimp only at f1 f2 f3
            subst f1 f2
            have HXq := Lib.hid hx6
            have HOB := Lib.hid ho6
            clear hx6 ho6 KC HT2 x0 x1 x2 x3 x4 x5 xf0 xf1 xf2 xf3 xf4 xf5 hbb
            obtain ⟨⟨x0, x1, x2, x3, x4, x5⟩, xf0, xf1, xf2, xf3, xf4, xf5⟩ := c6_at HXq.out.bo.box
            have hbb := (head_row HXq.out.bo.box).lt
            dsimp only at x0 x1
            have KF := Lib.hid (kfront_walk HXq.out.st.g2 f3 k)
            go_wp2_with fail
            refine KF.out.mono ?_
            rintro e vf ⟨of, rfl, hf⟩
            obtain ⟨Ff, nf, df, rfl⟩ := hf.kv.form
            have hxf := HXq.out.step hf.low
            clear x0 x1 x2 x3 x4 x5 xf0 xf1 xf2 xf3 xf4 xf5 hbb
            obtain ⟨⟨x0, x1, x2, x3, x4, x5⟩, xf0, xf1, xf2, xf3, xf4, xf5⟩ := c6_at hxf.bo.box
            have hbb := (head_row hxf.bo.box).lt
            have hyf := hxf.set3 hf.kv
            have HOF := Lib.hid (hxf.kv (i := 3) (x := .slice Ff nf df) (HOB.out.below hf.low))
            obtain ⟨⟨y0, y1, y2, y3, y4, y5⟩, yf0, yf1, yf2, yf3, yf4, yf5⟩ := c6_at hxf.bo.res
            have hrr := (head_row hxf.bo.res).lt
            have HXf := Lib.hid hyf
            clear hf hxf hyf HXq KF
            have HD := Lib.hid (HXf.out.doneo HOF.out)
            clear HXf HOF HOB
            go_wp2
            try rw [Exit.noGoto_ret]
            exact bodyPost_ret (v := .tuple #[.agg (l11C tc tp (.slice Fq1 nq1 dq1) (.slice Ff nf df) (.slice Fq3 nq3 dq3) (.slice Fq4 nq4 dq4)), ob]) (by simp [results, Tryz.results10, go_sem, y0, y1, y2, y3, y4, y5]) rfl (by rw [HRE.out.1, HRE.out.2]; exact HD.out)
      · have h1 : k ∈ l3 := of_decide_eq_true HBK.out.2.1
        have hlen0 : 0 < np3 := by have := List.length_pos_of_mem h1; have := HNN.out; omega
        obtain ⟨pz, hpz⟩ : ∃ pz, min (pp + max (np4 / np3) 1) c = pz := ⟨_, rfl⟩
        have HUP : Hid ((⟨c, pp, l1, l2, l3, l4⟩ : L11).up k = (⟨c, pz, l1, l2, wo k l3, l4⟩ : L11)) := Lib.hid (by
          rw [← hpz, ← HNN.out.1, ← HNN.out.2]
          rfl)
        have HTK := (L11.up_ok HOK.out h1).1
        rw [HUP.out] at HTK
        have HRE : Hid (R = ((⟨c, pz, l1, l2, wo k l3, l4⟩ : L11).cut (c - 1) false).hit k ∧ O = (⟨c, pz, l1, l2, wo k l3, l4⟩ : L11).cutOut (c - 1) false) := Lib.hid (by
          rw [← HRO.out.1, ← HRO.out.2, ← HUP.out]
          unfold L11.adm L11.admitOut
          rw [if_neg hin, if_neg hin, if_pos h1, if_pos h1]
          exact ⟨rfl, rfl⟩)
        have HT2 : Hid (((⟨c, pz, l1, l2, wo k l3, l4⟩ : L11).cut (c - 1) false).t2.length ≤ 100000000) := Lib.hid (by
          have h7 := ((⟨c, pz, l1, l2, wo k l3, l4⟩ : L11).cut_lens (c - 1) false).2.1
          have h8 := (⟨c, pz, l1, l2, wo k l3, l4⟩ : L11).lm_le (c - 1) false
          have h9 := HTK.len_t2
          omega)
        have HTK2 := Lib.hid HTK
        obtain ⟨q, hq⟩ : ∃ q, np4 / np3 = q := ⟨_, rfl⟩
        have hqle : q ≤ np4 := by rw [← hq]; exact Nat.div_le_self _ _
        have hqI : ((np4 : Nat) : Int).tdiv (np3 : Nat) = (q : Int) := by rw [Int.tdiv_eq_ediv_of_nonneg (by omega), ← hq]; rfl
        have hqJ : ((np4 : Nat) : Int) / ((np3 : Nat) : Int) = (q : Int) := by rw [← hq]; rfl
        rw [hq] at hpz
        obtain ⟨mx, hmx⟩ : ∃ mx, max q 1 = mx := ⟨_, rfl⟩
        rw [hmx] at hpz
        have hnb3 : np3 ≤ 1048576 := by have := HNN.out; omega
        have hnb4 : np4 ≤ 1048576 := by have := HNN.out; omega
        have hn3I : (np3 : Int) ≤ 1048576 := by omega
        have hn4I : (np4 : Int) ≤ 1048576 := by omega
        have hppI : (pp : Int) ≤ 1048576 := by omega
        have hcI : (c : Int) ≤ 1048576 := by omega
        have hc1I : (1 : Int) ≤ (c : Int) := by omega
        have hqI2 : (q : Int) ≤ 1048576 := by omega
        have hden : ¬ ((np3 : Nat) : Int) = 0 := by omega
        have hdenb : (((np3 : Nat) : Int) == 0) = false := by rw [beq_eq_false_iff_ne]; omega
        clear hin h1  HTK HRO HOK hq HUP
        go_wp2_with fail
        go_cut [] (fun wx => wx = (w4.setCell ⟨w.heap.size, 1, none⟩ (.int .i64 (pz : Nat))).drew)
        case first =>
          rcases (by omega : q = 0 ∨ q = 1 ∨ 2 ≤ q) with hq0 | hq0 | hq0
          · have hqv : (q : Int) < 1 := by omega
            obtain rfl : mx = 1 := by omega
            clear hmx hlen0 hq0
            rcases Nat.lt_trichotomy (pp + 1) c with hlt | hlt | hlt
            · have hz : (pz : Int) = (pp : Int) + 1 := by omega
              have hmm : (pp : Int) + 1 < (c : Int) := by omega
              have HZ := Lib.hid hz
              clear hz hlt hpz
              go_region
              all_goals
                go_wp2_with fail
                go_meet
                (rw [HZ.out]) <;> first | rfl | simp | simp [hmm]
            · have hz : (pz : Int) = (pp : Int) + 1 := by omega
              have hmm : (pp : Int) + 1 = (c : Int) := by omega
              have HZ := Lib.hid hz
              clear hz hlt hpz
              go_region
              all_goals
                go_wp2_with fail
                go_meet
                (rw [HZ.out]) <;> first | rfl | simp | simp [hmm]
            · have hz : (pz : Int) = (c : Int) := by omega
              have hmm : (c : Int) < (pp : Int) + 1 := by omega
              have HZ := Lib.hid hz
              clear hz hlt hpz
              go_region
              all_goals
                go_wp2_with fail
                go_meet
                (rw [HZ.out]) <;> first | rfl | simp | simp [hmm]
          · have hq1 : q = 1 := by omega
            subst hq1
            obtain rfl : mx = 1 := by omega
            clear hmx hlen0 hq0
            rcases Nat.lt_trichotomy (pp + 1) c with hlt | hlt | hlt
            · have hz : (pz : Int) = (pp : Int) + 1 := by omega
              have hmm : (pp : Int) + 1 < (c : Int) := by omega
              have HZ := Lib.hid hz
              clear hz hlt hpz
              go_region
              all_goals
                go_wp2_with fail
                go_meet
                (rw [HZ.out]) <;> first | rfl | simp | simp [hmm]
            · have hz : (pz : Int) = (pp : Int) + 1 := by omega
              have hmm : (pp : Int) + 1 = (c : Int) := by omega
              have HZ := Lib.hid hz
              clear hz hlt hpz
              go_region
              all_goals
                go_wp2_with fail
                go_meet
                (rw [HZ.out]) <;> first | rfl | simp | simp [hmm]
            · have hz : (pz : Int) = (c : Int) := by omega
              have hmm : (c : Int) < (pp : Int) + 1 := by omega
              have HZ := Lib.hid hz
              clear hz hlt hpz
              go_region
              all_goals
                go_wp2_with fail
                go_meet
                (rw [HZ.out]) <;> first | rfl | simp | simp [hmm]
          · have hqv : (1 : Int) < (q : Int) := by omega
            obtain rfl : q = mx := by omega
            clear hmx hlen0 hq0
            rcases Nat.lt_trichotomy (pp + q) c with hlt | hlt | hlt
            · have hz : (pz : Int) = (pp : Int) + (q : Int) := by omega
              have hmm : (pp : Int) + (q : Int) < (c : Int) := by omega
              have HZ := Lib.hid hz
              clear hz hlt hpz
              go_region
              all_goals
                go_wp2_with fail
                go_meet
                (rw [HZ.out]) <;> first | rfl | simp | simp [hmm]
            · have hz : (pz : Int) = (pp : Int) + (q : Int) := by omega
              have hmm : (pp : Int) + (q : Int) = (c : Int) := by omega
              have HZ := Lib.hid hz
              clear hz hlt hpz
              go_region
              all_goals
                go_wp2_with fail
                go_meet
                (rw [HZ.out]) <;> first | rfl | simp | simp [hmm]
            · have hz : (pz : Int) = (c : Int) := by omega
              have hmm : (c : Int) < (pp : Int) + (q : Int) := by omega
              have HZ := Lib.hid hz
              clear hz hlt hpz
              go_region
              all_goals
                go_wp2_with fail
                go_meet
                (rw [HZ.out]) <;> first | rfl | simp | simp [hmm]
        case rest =>
          subst hcut
          have hx5 := (HX4.out.set1 pz).step (below_drew11 (Below.refl _ _))
          have hg5 : (w4.setCell ⟨w.heap.size, 1, none⟩ (.int .i64 (pz : Nat))).drew.heap[g]? = some (.cells (reC11 w.heap.size) 62 (0, 0)) := by
            have hbg : w.heap.size ≠ g := fun e => by
              have h := HX4.out.bo.box
              rw [e, HG4.out] at h
              injection h with h
              injection h with h _
              have h6 : (1 : Nat) = 6 := congrArg Array.size h
              omega
            first
              | exact (Below.heap_setCell _ _ _ _ hbg).trans HG4.out
              | exact (Below.heap_setCell _ _ _ _ (Ne.symm hbg)).trans HG4.out
          clear HX4 HG4 x0 x1 x2 x3 x4 x5 xf0 xf1 xf2 xf3 xf4 xf5 hbb hpz hmx hqI hqJ hden hdenb hqle hlen0 hqI2
          generalize (w4.setCell ⟨w.heap.size, 1, none⟩ (.int .i64 (pz : Nat))).drew = wz at hx5 hg5 ⊢
          have HXz := Lib.hid hx5
          have HGz := Lib.hid hg5
          clear hx5 hg5
          obtain ⟨⟨x0, x1, x2, x3, x4, x5⟩, xf0, xf1, xf2, xf3, xf4, xf5⟩ := c6_at HXz.out.bo.box
          have hbb := (head_row HXz.out.bo.box).lt
          dsimp only at x0 x1
          have KW := Lib.hid (without_walk HXz.out.st.g3 hl3 k)
          go_wp2_with fail
          refine KW.out.mono ?_
          rintro e va ⟨oa, rfl, ha⟩
          obtain ⟨Fa, na, da, rfl⟩ := ha.kv.form
          have hxa := HXz.out.step ha.low
          clear x0 x1 x2 x3 x4 x5 xf0 xf1 xf2 xf3 xf4 xf5 hbb
          obtain ⟨⟨x0, x1, x2, x3, x4, x5⟩, xf0, xf1, xf2, xf3, xf4, xf5⟩ := c6_at hxa.bo.box
          have hbb := (head_row hxa.bo.box).lt
          have hya := hxa.set4 ha.kv
          have hga : (va.setCell ⟨w.heap.size, 4, none⟩ (.slice Fa na da)).heap[g]? = some (.cells (reC11 w.heap.size) 62 (0, 0)) := by
            have hgq := (ha.low.block g (head_row HGz.out).lt).trans HGz.out
            have hbg : w.heap.size ≠ g := fun e => by
              have h := hxa.bo.box
              rw [e, hgq] at h
              injection h with h
              injection h with h _
              have h6 : (1 : Nat) = 6 := congrArg Array.size h
              omega
            first
              | exact (Below.heap_setCell _ _ _ _ hbg).trans hgq
              | exact (Below.heap_setCell _ _ _ _ (Ne.symm hbg)).trans hgq
          generalize hWa : va.setCell ⟨w.heap.size, 4, none⟩ (.slice Fa na da) = wa at hya hga
          have HGA := Lib.hid hga
          clear hga HGz
          have HWa := Lib.hid hWa
          have HXa := Lib.hid hya
          clear ha hWa hxa hya HXz KW
          have KC := Lib.hid (evict11_ok HXa.out HGA.out (by have := HTK2.out.len; have := HTK2.out.cap; dsimp only at *; omega) (by have := HTK2.out.len; have := HTK2.out.cap; dsimp only at *; omega) (by have := HTK2.out.one; have := HTK2.out.cap; dsimp only at *; omega) (by have := HTK2.out.gone; have := HTK2.out.cap; dsimp only at *; omega) (by have := HTK2.out.pc; have := HTK2.out.cap; dsimp only at *; omega) hc hc1 false)
          dsimp only at KC
          clear HGA HTK2
          go_wp2_with fail
          rw [HWa.out]
          clear HWa HXa
          refine KC.out.mono ?_
          rintro e w6 ⟨ob, v1, v2, v3, v4, rfl, hx6, ho6⟩
          obtain ⟨Fq1, nq1, dq1, rfl⟩ := hx6.st.form1
          obtain ⟨Fq2, nq2, dq2, rfl⟩ := hx6.st.form2
          obtain ⟨Fq3, nq3, dq3, rfl⟩ := hx6.st.form3
          obtain ⟨Fq4, nq4, dq4, rfl⟩ := hx6.st.form4
          have f3 := HT2.out
          have f1 : ((⟨c, pz, l1, l2, wo k l3, l4⟩ : L11).cut (c - 1) false).c = c := rfl
          have f2 : ((⟨c, pz, l1, l2, wo k l3, l4⟩ : L11).cut (c - 1) false).p = pz := rfl
          generalize (⟨c, pz, l1, l2, wo k l3, l4⟩ : L11).cut (c - 1) false = TT at *
          obtain ⟨tc, tp, ti, tj, tO, tm⟩ := TT
          dsimp only at f1 f2 f3
          subst f1 f2
          have HXq := Lib.hid hx6
          have HOB := Lib.hid ho6
          clear hx6 ho6 KC HT2 x0 x1 x2 x3 x4 x5 xf0 xf1 xf2 xf3 xf4 xf5 hbb
          obtain ⟨⟨x0, x1, x2, x3, x4, x5⟩, xf0, xf1, xf2, xf3, xf4, xf5⟩ := c6_at HXq.out.bo.box
          have hbb := (head_row HXq.out.bo.box).lt
          dsimp only at x0 x1
          have KF := Lib.hid (kfront_walk HXq.out.st.g2 f3 k)
          go_wp2_with fail
          refine KF.out.mono ?_
          rintro e vf ⟨of, rfl, hf⟩
          obtain ⟨Ff, nf, df, rfl⟩ := hf.kv.form
          have hxf := HXq.out.step hf.low
          clear x0 x1 x2 x3 x4 x5 xf0 xf1 xf2 xf3 xf4 xf5 hbb
          obtain ⟨⟨x0, x1, x2, x3, x4, x5⟩, xf0, xf1, xf2, xf3, xf4, xf5⟩ := c6_at hxf.bo.box
          have hbb := (head_row hxf.bo.box).lt
          have hyf := hxf.set3 hf.kv
          have HOF := Lib.hid (hxf.kv (i := 3) (x := .slice Ff nf df) (HOB.out.below hf.low))
          obtain ⟨⟨y0, y1, y2, y3, y4, y5⟩, yf0, yf1, yf2, yf3, yf4, yf5⟩ := c6_at hxf.bo.res
          have hrr := (head_row hxf.bo.res).lt
          have HXf := Lib.hid hyf
          clear hf hxf hyf HXq KF
          have HD := Lib.hid (HXf.out.doneo HOF.out)
          clear HXf HOF HOB
          go_wp2
          try rw [Exit.noGoto_ret]
          exact bodyPost_ret (v := .tuple #[.agg (l11C tc tp (.slice Fq1 nq1 dq1) (.slice Ff nf df) (.slice Fq3 nq3 dq3) (.slice Fq4 nq4 dq4)), ob]) (by simp [results, Tryz.results10, go_sem, y0, y1, y2, y3, y4, y5]) rfl (by rw [HRE.out.1, HRE.out.2]; exact HD.out)
    · have hin : k ∈ (⟨c, pp, l1, l2, l3, l4⟩ : L11).keys := of_decide_eq_true HBK.out.1
      have HRE : Hid (R = (⟨c, pp, l1, l2, l3, l4⟩ : L11) ∧ O = []) := Lib.hid (by
        rw [← HRO.out.1, ← HRO.out.2]
        unfold L11.adm L11.admitOut
        rw [if_pos hin, if_pos hin]
        exact ⟨rfl, rfl⟩)
      obtain ⟨⟨y0, y1, y2, y3, y4, y5⟩, yf0, yf1, yf2, yf3, yf4, yf5⟩ := c6_at HX4.out.bo.res
      have hrr := (head_row HX4.out.bo.res).lt
      have HD := Lib.hid (HX4.out.doneo (KV.nil _))
      clear HX4 HG4 HRO HOK hin
      go_wp2
      try rw [Exit.noGoto_ret]
      exact bodyPost_ret (v := .tuple #[.agg (l11C c pp (.slice Fp1 np1 dp1) (.slice Fp2 np2 dp2) (.slice Fp3 np3 dp3) (.slice Fp4 np4 dp4)), .slice none 0 0]) (by simp [results, Tryz.results10, go_sem, y0, y1, y2, y3, y4, y5]) rfl (by rw [HRE.out.1, HRE.out.2]; exact HD.out)
end
theorem pol11Ok : Pol11Ok where
  new := fun _ n h1 h2 => p11new_walk n h1 h2
  touch := fun hs ok k _ => p11touch_walk hs ok k
  adm := fun hs ok k _ => p11admit_walk hs ok k
  drop := fun hs ok k _ => p11drop_walk hs ok k
  resize := fun hs ok n h1 h2 => p11resize_walk hs ok n h1 h2
  has := fun hs ok k _ => p11has_walk hs ok k
  keys := fun hs ok => p11keys_walk hs ok
  ghosts := fun hs ok => p11ghosts_walk hs ok
end Go.Proofs.YtgkblelgcikafaaGreat
