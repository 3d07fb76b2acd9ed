/- Adaptive replacement: Learns, walked. -/
import Derived.Test.YtemgbiohfgcphaaRcBd
import Derived.Deep.RegionHeld3
import Derived.Deep.RegionWith
namespace Go.Proofs.Ytemgbiohfgcphaa
open Go Go.RowKit Go.Deep

namespace L11
variable {s : L11} {k : Nat}
theorem adm_c (ok : s.Ok) (k : Nat) : (s.adm k).c = s.c := by
  unfold adm
  split
  · rfl
  · split
    · rfl
    · split
      · rfl
      · exact ok.room.c
theorem front_gone {t : L11} (ok : t.Ok) {l : List Nat} (h : t.t2 = k :: l) : k ∉ t.b1 ∧ k ∉ t.b2 := by
  have h1 := ok.fine.one k
  unfold cnt at h1
  have h2 : 0 < t.t2.count k := count_in.1 (by rw [h]; simp)
  exact ⟨fun hm => by have := count_in.1 hm; omega, fun hm => by have := count_in.1 hm; omega⟩
theorem adm_in (h : k ∈ s.keys) : s.adm k = s := by unfold adm; rw [if_pos h]
theorem adm_up (ok : s.Ok) (hk : k < 18446744073709551616) (h : k ∉ s.keys) (h1 : k ∈ s.b1) : ∃ pq ti tj tO tm, s.adm k = ⟨s.c, pq, ti, k :: tj, tO, tm⟩ ∧ k ∉ tO ∧ tO.length ≤ 100000000 ∧ s.p ≤ pq ∧ pq ≤ 1048576 := by
  have hok := ok.adm k hk
  have hp := ok.pc
  have e : s.adm k = ⟨s.c, (s.up k).p, ((s.up k).cut (s.c - 1) false).t1, k :: wo k ((s.up k).cut (s.c - 1) false).t2, ((s.up k).cut (s.c - 1) false).b1, ((s.up k).cut (s.c - 1) false).b2⟩ := by
    unfold adm
    rw [if_neg h, if_pos h1]
    rfl
  have hpp : s.p ≤ (s.up k).p := by show s.p ≤ min _ _; omega
  have hg := hok.len_b1
  have hcap := hok.cap
  have hpc := hok.pc
  have hf := (front_gone hok (by rw [e])).1
  rw [e] at hf hg hcap hpc
  exact ⟨_, _, _, _, _, e, hf, hg, hpp, Nat.le_trans hpc hcap⟩
theorem adm_dn (ok : s.Ok) (hk : k < 18446744073709551616) (h : k ∉ s.keys) (h1 : k ∉ s.b1) (h2 : k ∈ s.b2) : ∃ pq ti tj tO tm, s.adm k = ⟨s.c, pq, ti, k :: tj, tO, tm⟩ ∧ k ∉ tm ∧ tm.length ≤ 100000000 ∧ pq ≤ s.p := by
  have hok := ok.adm k hk
  have e : s.adm k = ⟨s.c, (s.dn k).p, ((s.dn k).cut (s.c - 1) true).t1, k :: wo k ((s.dn k).cut (s.c - 1) true).t2, ((s.dn k).cut (s.c - 1) true).b1, ((s.dn k).cut (s.c - 1) true).b2⟩ := by
    unfold adm
    rw [if_neg h, if_neg h1, if_pos h2]
    rfl
  have hpp : (s.dn k).p ≤ s.p := Nat.sub_le _ _
  have hg := hok.len_b2
  have hf := (front_gone hok (by rw [e])).2
  rw [e] at hf hg
  exact ⟨_, _, _, _, _, e, hf, hg, hpp⟩
theorem adm_new (ok : s.Ok) (h : k ∉ s.keys) (h1 : k ∉ s.b1) (h2 : k ∉ s.b2) : ∃ ti tj tO tm, s.adm k = ⟨s.c, s.p, k :: ti, tj, tO, tm⟩ := by
  refine ⟨wo k s.room.t1, s.room.t2, s.room.b1, s.room.b2, ?_⟩
  unfold adm
  rw [if_neg h, if_neg h1, if_neg h2]
  show (⟨s.room.c, s.room.p, k :: wo k s.room.t1, _, _, _⟩ : L11) = _
  rw [ok.room.c, ok.room.p]
theorem touch_keys (ok : s.Ok) (h : k ∈ s.keys) : (s.touch k).keys.length = s.keys.length := by
  have h1 := (touch_lens ok.fine h).1
  unfold touch
  rw [if_pos h]
  unfold keys
  rw [List.length_append, List.length_append]
  exact h1
theorem touch_in (h : k ∈ s.keys) : s.touch k = ⟨s.c, s.p, wo k s.t1, k :: wo k s.t2, s.b1, s.b2⟩ := by unfold touch; rw [if_pos h]; rfl
end L11
section
variable {w : World} {v : Value} {l : List Act8}
set_option maxHeartbeats 4000000 in
set_option maxRecDepth 4000 in
theorem learns11_short (PO : Pol11Ok) (AW : ∀ w, Calls Try.prog 9 #[] w (RetB w true)) (c : Nat) (hc : c < 256) (ha : AV w v l) (hl : l.length ≤ 60) (k : Nat) (hk : k < 18446744073709551616) : Calls Try.prog 8 #[.int .u8 (c : Nat), v, .int .u64 (k : Nat)] w (RetB w true) := by
  have HAW := Lib.hid (AW w)
  have HRUN : Hid (∀ W, AV W v l → Calls Try.prog 16 #[.int .u8 (c : Nat), v] W (P11 W ((L11.new (1 + c % 12 : Nat)).runS l))) := Lib.hid (fun W h => run11_walk PO c hc h hl)
  have HOKN := Lib.hid (run11_ok ha c)
  have HAV := Lib.hid ha
  obtain ⟨A, cap, rfl, _⟩ := ha.mem
  obtain ⟨na, hna⟩ : ∃ na, l.length = na := ⟨_, rfl⟩
  rw [hna] at hl HAV HRUN ⊢
  obtain ⟨σ, hσN⟩ : ∃ σN, (L11.new (1 + c % 12 : Nat)).runS l = σN := ⟨_, rfl⟩
  rw [hσN] at HRUN HOKN
  have HKS : Hid (∀ W u1 u2 u3 u4, St11 W σ u1 u2 u3 u4 → Calls Try.prog 18 #[.agg (l11C σ.c σ.p u1 u2 u3 u4)] W (RetK W σ.keys)) := Lib.hid (fun W _ _ _ _ h => PO.keys h HOKN.out)
  have HAD : Hid (∀ W u1 u2 u3 u4, St11 W σ u1 u2 u3 u4 → Calls Try.prog 27 #[.agg (l11C σ.c σ.p u1 u2 u3 u4), .int .u64 (k : Nat)] W (P11o W (σ.adm k) (σ.admitOut k))) := Lib.hid (fun W _ _ _ _ h => PO.adm h HOKN.out k hk)
  have HTO : Hid (∀ W u1 u2 u3 u4, St11 W σ u1 u2 u3 u4 → Calls Try.prog 29 #[.agg (l11C σ.c σ.p u1 u2 u3 u4), .int .u64 (k : Nat)] W (P11 W (σ.touch k))) := Lib.hid (fun W _ _ _ _ h => PO.touch h HOKN.out k hk)
  have HHA : Hid (∀ W u1 u2 u3 u4, St11 W σ u1 u2 u3 u4 → Calls Try.prog 19 #[.agg (l11C σ.c σ.p u1 u2 u3 u4), .int .u64 (k : Nat)] W (RetB W (decide (k ∈ σ.keys)))) := Lib.hid (fun W _ _ _ _ h => PO.has h HOKN.out k hk)
  have HHK := Lib.hid hk
  have hg1 := HOKN.out.len_b1
  have hg2 := HOKN.out.len_b2
  have HCA : Hid ((σ.adm k).c = σ.c) := Lib.hid (L11.adm_c HOKN.out _)
  obtain ⟨tp, htp⟩ : ∃ tp, (σ.adm k).p = tp := ⟨_, rfl⟩
  have HTP := Lib.hid htp
  have htpb : tp ≤ 1048576 := by rw [← htp]; exact Nat.le_trans (HOKN.out.adm k hk).pc (HOKN.out.adm k hk).cap
  obtain ⟨bh, hbh⟩ : ∃ b, decide (k ∈ σ.keys) = b := ⟨_, rfl⟩
  obtain ⟨b1, hb1⟩ : ∃ b, decide (k ∈ σ.b1) = b := ⟨_, rfl⟩
  obtain ⟨b2, hb2⟩ : ∃ b, decide (k ∈ σ.b2) = b := ⟨_, rfl⟩
  have HBH := Lib.hid (And.intro hbh (And.intro hb1 hb2))
  rw [hbh] at HHA
  obtain ⟨cc, hcc⟩ : ∃ cc, σ.c = cc := ⟨_, rfl⟩
  obtain ⟨pp, hpp⟩ : ∃ pp, σ.p = pp := ⟨_, rfl⟩
  have HCC := Lib.hid (And.intro hcc hpp)
  have hppb : pp ≤ 1048576 := by rw [← hpp]; exact Nat.le_trans HOKN.out.pc HOKN.out.cap
  have hppI : (pp : Int) ≤ 1048576 := by omega
  have htpI : (tp : Int) ≤ 1048576 := by omega
  rw [hcc] at HKS HAD HTO HHA HCA
  rw [hpp] at HKS HAD HTO HHA
  clear ha hna AW hσN hc hk hbh hb1 hb2 hcc hpp htp hppb htpb
  have hlI : ¬ (60 : Int) < (na : Int) := by omega
  go_enter Try.func8, Try.ntmps8
  go_wp2_with fail
  refine (HAW.out).mono ?_
  rintro e w1 ⟨rfl, hb1⟩
  have HL1 := Lib.hid hb1
  have HAV1 := Lib.hid (HAV.out.below hb1)
  clear hb1 HAW HAV
  go_wp2_with fail
  refine (HRUN.out w1 HAV1.out).mono ?_
  rintro e w2 ⟨q1, q2, q3, q4, he, hb2, hk2⟩
  obtain ⟨Fs1, ns1, ds1, rfl⟩ := hk2.form1
  obtain ⟨Fs2, ns2, ds2, rfl⟩ := hk2.form2
  obtain ⟨Fs3, ns3, ds3, rfl⟩ := hk2.form3
  obtain ⟨Fs4, ns4, ds4, rfl⟩ := hk2.form4
  rw [HCC.out.1, HCC.out.2] at he
  subst he
  have hbs := Bs11.new (T := PT11) (by decide) (HL1.out.trans (hb2.mono HL1.out.size)) hk2
  rw [HCC.out.1, HCC.out.2] at hbs
  have HS2 := Lib.hid hbs
  clear hb2 hk2 hbs HRUN HL1 HAV1
  have KA1 := Lib.hid (HAD.out _ _ _ _ _ HS2.out.st)
  go_wp2_with fail
  refine KA1.out.mono ?_
  rintro e w3 ⟨q1, q2, q3, q4, o3, he, hb3, hk3, _⟩
  obtain ⟨Ft1, nt1, dt1, rfl⟩ := hk3.form1
  obtain ⟨Ft2, nt2, dt2, rfl⟩ := hk3.form2
  obtain ⟨Ft3, nt3, dt3, rfl⟩ := hk3.form3
  obtain ⟨Ft4, nt4, dt4, rfl⟩ := hk3.form4
  rw [HCA.out, HTP.out] at he
  subst he
  have hs3 := HS2.out.step hb3
  have hbt := Bs11.new (T := PT11) (by decide) hs3.low hk3
  rw [HCA.out, HTP.out] at hbt
  have HT3 := Lib.hid hbt
  have HS3 := Lib.hid (hs3.step (low_one w3 (.cells (l11C cc tp (.slice Ft1 nt1 dt1) (.slice Ft2 nt2 dt2) (.slice Ft3 nt3 dt3) (.slice Ft4 nt4 dt4)) PT11)))
  have hne1 : w2.heap.size < w3.heap.size := (head_row hs3.box).lt
  have KH := Lib.hid (HHA.out _ _ _ _ _ HS3.out.st)
  obtain ⟨⟨x0, x1, x2, x3, x4, x5⟩, xf0, xf1, xf2, xf3, xf4, xf5⟩ := c6_at HS3.out.box
  rw [HCC.out.1] at x0
  rw [HCC.out.2] at x1
  clear hb3 hk3 hs3 hbt KA1 HS2 HAD HHA
  go_wp2_with fail
  refine KH.out.mono ?_
  rintro e w4 ⟨rfl, hb4⟩
  have HS4 := Lib.hid (HS3.out.step hb4)
  have HT4 := Lib.hid (HT3.out.step hb4)
  clear hb4 KH HS3 HT3 x0 x1 x2 x3 x4 x5 xf0 xf1 xf2 xf3 xf4 xf5 hne1
  generalize w3.heap.size = bt at HT4 HS4 ⊢
  generalize w2.heap.size = bs at HT4 HS4 ⊢
  obtain ⟨⟨x0, x1, x2, x3, x4, x5⟩, xf0, xf1, xf2, xf3, xf4, xf5⟩ := c6_at HS4.out.box
  rw [HCC.out.1] at x0
  rw [HCC.out.2] at x1
  cases bh
  · have hin : k ∉ σ.keys := of_decide_eq_false HBH.out.1
    clear HTO HKS
    have KB3 := Lib.hid (rhas_walk HS4.out.st.g3 hg1 k)
    rw [HBH.out.2.1] at KB3
    go_wp2_with fail
    refine KB3.out.mono ?_
    rintro e w5a ⟨rfl, rfl⟩
    clear KB3
    cases b1
    · have h1 : k ∉ σ.b1 := of_decide_eq_false HBH.out.2.1
      have KB4 := Lib.hid (rhas_walk HS4.out.st.g4 hg2 k)
      rw [HBH.out.2.2] at KB4
      go_wp2_with fail
      refine KB4.out.mono ?_
      rintro e w5b ⟨rfl, rfl⟩
      clear KB4
      cases b2
      · have h2 : k ∉ σ.b2 := of_decide_eq_false HBH.out.2.2
        obtain ⟨ti, tj, tO, tm, ea⟩ := L11.adm_new HOKN.out hin h1 h2
        have hpq : tp = pp := by rw [← HTP.out, ea]; exact HCC.out.2
        subst hpq
        rw [ea] at HT4
        obtain ⟨Fz, cz, ez, hcz, _, h3⟩ := HT4.out.st.g1.mem
        injection ez with ez1 ez2 ez3
        subst ez1 ez3
        obtain ⟨ad, hF, hg, q0⟩ := h3 0 (by simp)
        subst hF
        obtain rfl : nt1 = ti.length + 1 := by rw [ez2]; rfl
        rw [show ad.add 0 = ad by simp [Addr.add]] at q0
        dsimp only [List.getElem_cons_zero] at q0
        obtain ⟨n, hn⟩ : ∃ n, ti.length = n := ⟨_, rfl⟩
        rw [hn] at *
        have hnI : (0 : Int) < (n : Int) + 1 := by omega
        obtain ⟨⟨z0, z1, z2, z3, z4, z5⟩, _⟩ := c6_at HT4.out.box
        dsimp only at z0 z1
        rw [HCC.out.2] at z1
        have HLO := Lib.hid HT4.out.low
        clear h3 ez2 hcz ea hn hin h1 h2 HS4 HT4 HOKN HCA HTP
        go_wp2
        try rw [Exit.noGoto_ret]
        go_ret
        exact ⟨rfl, HLO.out⟩
      · have h2 : k ∈ σ.b2 := of_decide_eq_true HBH.out.2.2
        obtain ⟨pq, ti, tj, tO, tm, ea, hnot, hgl, hle⟩ := L11.adm_dn HOKN.out HHK.out hin h1 h2
        have hpq : pq = tp := by rw [← HTP.out, ea]
        subst hpq
        rw [ea] at HT4
        rw [HCC.out.2] at hle
        have hleI : (pq : Int) ≤ (pp : Int) := by omega
        obtain ⟨Fz, cz, ez, hcz, _, h3⟩ := HT4.out.st.g2.mem
        injection ez with ez1 ez2 ez3
        subst ez1 ez3
        obtain ⟨ad, hF, hg, q0⟩ := h3 0 (by simp)
        subst hF
        obtain rfl : nt2 = tj.length + 1 := by rw [ez2]; rfl
        rw [show ad.add 0 = ad by simp [Addr.add]] at q0
        dsimp only [List.getElem_cons_zero] at q0
        obtain ⟨n, hn⟩ : ∃ n, tj.length = n := ⟨_, rfl⟩
        rw [hn] at *
        have hnI : (0 : Int) < (n : Int) + 1 := by omega
        obtain ⟨⟨z0, z1, z2, z3, z4, z5⟩, _⟩ := c6_at HT4.out.box
        dsimp only at z0 z1
        have KG := Lib.hid (rhas_walk HT4.out.st.g4 hgl k)
        rw [decide_eq_false hnot] at KG
        have HLO := Lib.hid HT4.out.low
        clear h3 ez2 hcz ea hn hin hnot hgl hle HS4 HT4 HOKN HCA HTP h1 h2
        go_wp2_with fail
        refine KG.out.mono ?_
        rintro e w7 ⟨rfl, rfl⟩
        clear KG
        go_wp2
        try rw [Exit.noGoto_ret]
        go_ret
        exact ⟨rfl, HLO.out⟩
    · have h1 : k ∈ σ.b1 := of_decide_eq_true HBH.out.2.1
      obtain ⟨pq, ti, tj, tO, tm, ea, hnot, hgl, hle, -⟩ := L11.adm_up HOKN.out HHK.out hin h1
      have hpq : pq = tp := by rw [← HTP.out, ea]
      subst hpq
      rw [ea] at HT4
      rw [HCC.out.2] at hle
      have hleI : (pp : Int) ≤ (pq : Int) := by omega
      obtain ⟨Fz, cz, ez, hcz, _, h3⟩ := HT4.out.st.g2.mem
      injection ez with ez1 ez2 ez3
      subst ez1 ez3
      obtain ⟨ad, hF, hg, q0⟩ := h3 0 (by simp)
      subst hF
      obtain rfl : nt2 = tj.length + 1 := by rw [ez2]; rfl
      rw [show ad.add 0 = ad by simp [Addr.add]] at q0
      dsimp only [List.getElem_cons_zero] at q0
      obtain ⟨n, hn⟩ : ∃ n, tj.length = n := ⟨_, rfl⟩
      rw [hn] at *
      have hnI : (0 : Int) < (n : Int) + 1 := by omega
      obtain ⟨⟨z0, z1, z2, z3, z4, z5⟩, _⟩ := c6_at HT4.out.box
      dsimp only at z0 z1
      have KG := Lib.hid (rhas_walk HT4.out.st.g3 hgl k)
      rw [decide_eq_false hnot] at KG
      have HLO := Lib.hid HT4.out.low
      clear h3 ez2 hcz ea hn hin hnot hgl hle HS4 HT4 HOKN HCA HTP h1
      go_wp2_with fail
      refine KG.out.mono ?_
      rintro e w7 ⟨rfl, rfl⟩
      clear KG
      go_wp2
      try rw [Exit.noGoto_ret]
      go_ret
      exact ⟨rfl, HLO.out⟩
  · have hin : k ∈ σ.keys := of_decide_eq_true HBH.out.1
    have KT := Lib.hid (HTO.out _ _ _ _ _ HS4.out.st)
    have HLK : Hid ((σ.touch k).keys.length = σ.keys.length ∧ σ.keys.length ≤ 100000000) := Lib.hid ⟨L11.touch_keys HOKN.out hin, HOKN.out.keysLen⟩
    have hti := L11.touch_in hin
    have HKU : Hid (∀ W u1 u2 u3 u4, St11 W (σ.touch k) u1 u2 u3 u4 → Calls Try.prog 18 #[.agg (l11C cc pp u1 u2 u3 u4)] W (RetK W (σ.touch k).keys)) := Lib.hid (fun W _ _ _ _ h => by
      have h2 := PO.keys h (HOKN.out.touch k)
      rw [show (σ.touch k).c = cc by rw [hti]; exact HCC.out.1, show (σ.touch k).p = pp by rw [hti]; exact HCC.out.2] at h2
      exact h2)
    have HL1 : Hid ((σ.touch k).t1.length ≤ 100000000) := Lib.hid (HOKN.out.touch k).len_t1
    have hl1 := HL1.out
    have HTI := Lib.hid hti
    clear hti hin hg1 hg2 HCA HTP HHK HTO
    go_wp2_with fail
    refine KT.out.mono ?_
    rintro e w6 ⟨q1, q2, q3, q4, he, hb6, hk6⟩
    obtain ⟨Fu1, nu1, du1, rfl⟩ := hk6.form1
    obtain ⟨Fu2, nu2, du2, rfl⟩ := hk6.form2
    obtain ⟨Fu3, nu3, du3, rfl⟩ := hk6.form3
    obtain ⟨Fu4, nu4, du4, rfl⟩ := hk6.form4
    have he' : e = .returned (.agg (l11C cc pp (.slice Fu1 nu1 du1) (.slice Fu2 nu2 du2) (.slice Fu3 nu3 du3) (.slice Fu4 nu4 du4))) := by rw [he, show (σ.touch k).c = cc by rw [HTI.out]; exact HCC.out.1, show (σ.touch k).p = pp by rw [HTI.out]; exact HCC.out.2]
    subst he'
    have hs6 := HS4.out.step hb6
    have hbu := Bs11.new (T := PT11) (by decide) hs6.low hk6
    rw [show (σ.touch k).c = cc by rw [HTI.out]; exact HCC.out.1, show (σ.touch k).p = pp by rw [HTI.out]; exact HCC.out.2] at hbu
    have HU6 := Lib.hid hbu
    have HS6 := Lib.hid (hs6.step (low_one w6 (.cells (l11C cc pp (.slice Fu1 nu1 du1) (.slice Fu2 nu2 du2) (.slice Fu3 nu3 du3) (.slice Fu4 nu4 du4)) PT11)))
    clear he hb6 hk6 hs6 hbu KT HS4 HT4 x0 x1 x2 x3 x4 x5 xf0 xf1 xf2 xf3 xf4 xf5
    go_upto_region 8 with fail
    generalize w6.alloc (.cells (l11C cc pp (.slice Fu1 nu1 du1) (.slice Fu2 nu2 du2) (.slice Fu3 nu3 du3) (.slice Fu4 nu4 du4)) PT11) = w7 at HU6 HS6 ⊢
    generalize w6.heap.size = bu at HU6 HS6 ⊢
    have g2 : KV w7 (.slice Fu2 nu2 du2) (k :: wo k σ.t2) := by
      have h := HU6.out.st.g2
      rw [HTI.out] at h
      exact h
    obtain ⟨Fz, cz, ez, hcz, _, h3⟩ := g2.mem
    injection ez with ez1 ez2 ez3
    subst ez1 ez3
    obtain ⟨ad, hF, hg, q0⟩ := h3 0 (by simp)
    subst hF
    obtain ⟨n, hn⟩ : ∃ n, (wo k σ.t2).length = n := ⟨_, rfl⟩
    obtain rfl : nu2 = n + 1 := by rw [ez2, ← hn]; rfl
    rw [show ad.add 0 = ad by simp [Addr.add]] at q0
    dsimp only [List.getElem_cons_zero] at q0
    have hnI : (0 : Int) < (n : Int) + 1 := by omega
    have hnot : k ∉ (σ.touch k).t1 := by rw [HTI.out]; exact not_wo σ.t1 k
    have HNT : Hid (decide (k ∈ (σ.touch k).t1) = false) := Lib.hid (decide_eq_false hnot)
    have HQ0 := Lib.hid q0
    clear h3 ez2 hcz hn g2 hnot
    have HLD : Hid (∀ w' : World, Below w7.heap.size w7 w' → w'.cell? ⟨bu, 0, none⟩ = some (.int .i64 (cc : Nat)) ∧ w'.cell? ⟨bu, 1, none⟩ = some (.int .i64 (pp : Nat)) ∧ w'.cell? ⟨bu, 2, none⟩ = some (.slice Fu1 nu1 du1) ∧ w'.cell? ⟨bu, 3, none⟩ = some (.slice (some ad) (n + 1) du2) ∧ w'.cell? ⟨bu, 4, none⟩ = some (.slice Fu3 nu3 du3) ∧ w'.cell? ⟨bu, 5, none⟩ = some (.slice Fu4 nu4 du4) ∧ w'.cell? ⟨bs, 0, none⟩ = some (.int .i64 (cc : Nat)) ∧ w'.cell? ⟨bs, 1, none⟩ = some (.int .i64 (pp : Nat)) ∧ w'.cell? ⟨bs, 2, none⟩ = some (.slice Fs1 ns1 ds1) ∧ w'.cell? ⟨bs, 3, none⟩ = some (.slice Fs2 ns2 ds2) ∧ w'.cell? ⟨bs, 4, none⟩ = some (.slice Fs3 ns3 ds3) ∧ w'.cell? ⟨bs, 5, none⟩ = some (.slice Fs4 ns4 ds4) ∧ w'.cell? ad = some (.int .u64 (k : Nat))) := Lib.hid (fun w' hb => by
      obtain ⟨⟨x0, x1, x2, x3, x4, x5⟩, _⟩ := c6_at (HU6.out.step hb).box
      obtain ⟨⟨z0, z1, z2, z3, z4, z5⟩, _⟩ := c6_at (HS6.out.step hb).box
      rw [show (σ.touch k).c = cc by rw [HTI.out]; exact HCC.out.1] at x0
      rw [show (σ.touch k).p = pp by rw [HTI.out]; exact HCC.out.2] at x1
      rw [HCC.out.1] at z0
      rw [HCC.out.2] at z1
      exact ⟨x0, x1, x2, x3, x4, x5, z0, z1, z2, z3, z4, z5, (hb.cell (p := ad) hg).trans HQ0.out⟩)
    obtain ⟨x0, x1, x2, x3, x4, x5, z0, z1, z2, z3, z4, z5, q2⟩ := HLD.out w7 (Below.refl _ _)
    clear q0
    go_region_held3 (fun w' => w'.cell? ⟨bu, 0, none⟩ = some (.int .i64 (cc : Nat)) ∧ w'.cell? ⟨bu, 1, none⟩ = some (.int .i64 (pp : Nat)) ∧ w'.cell? ⟨bu, 2, none⟩ = some (.slice Fu1 nu1 du1) ∧ w'.cell? ⟨bu, 3, none⟩ = some (.slice (some ad) (n + 1) du2) ∧ w'.cell? ⟨bu, 4, none⟩ = some (.slice Fu3 nu3 du3) ∧ w'.cell? ⟨bu, 5, none⟩ = some (.slice Fu4 nu4 du4) ∧ w'.cell? ⟨bs, 0, none⟩ = some (.int .i64 (cc : Nat)) ∧ w'.cell? ⟨bs, 1, none⟩ = some (.int .i64 (pp : Nat)) ∧ w'.cell? ⟨bs, 2, none⟩ = some (.slice Fs1 ns1 ds1) ∧ w'.cell? ⟨bs, 3, none⟩ = some (.slice Fs2 ns2 ds2) ∧ w'.cell? ⟨bs, 4, none⟩ = some (.slice Fs3 ns3 ds3) ∧ w'.cell? ⟨bs, 5, none⟩ = some (.slice Fs4 ns4 ds4) ∧ w'.cell? ad = some (.int .u64 (k : Nat)))
      (first | with_reducible exact kkb | with_reducible exact kka | go_keep)
      (first
        | (go_at_call 20; refine (rhas_walk (HU6.out.step (below_drewn (Below.refl _ _) 1)).st.g1 hl1 k).mono ?_; rintro e wx ⟨rfl, rfl⟩; rw [HNT.out])
        | (go_at_call 18; refine (HKS.out wa _ _ _ _ (HS6.out.step hBa).st).mono ?_; rintro e wb ⟨vb, rfl, hbb, hkb⟩; obtain ⟨Fb, cb, rfl, -⟩ := hkb.mem; have hBb := hBa.trans (hbb.mono hBa.size); have kkb := HLD.out wb hBb)
        | (go_at_call 18; refine (HKU.out _ _ _ _ _ (HU6.out.step (below_drewn (Below.refl _ _) 1)).st).mono ?_; rintro e wa ⟨va, rfl, hba, hka⟩; obtain ⟨Fa, ca, rfl, -⟩ := hka.mem; rw [HLK.out.1]; have hBa := (below_drewn (Below.refl w7.heap.size w7) 1).trans hba; have kka := HLD.out wa hBa))
    have HL := Lib.hid (HU6.out.low.trans (hBb.mono HU6.out.low.size))
    go_wp2
    try rw [Exit.noGoto_ret]
    go_ret
    exact ⟨rfl, HL.out⟩
theorem learns11_walk (PO : Pol11Ok) (AW : ∀ w, Calls Try.prog 9 #[] w (RetB w true)) (c : Nat) (hc : c < 256) (ha : AV w v l) (k : Nat) (hk : k < 18446744073709551616) : Calls Try.prog 8 #[.int .u8 (c : Nat), v, .int .u64 (k : Nat)] w (RetB w true) := by
  by_cases hl : l.length ≤ 60
  · exact learns11_short PO AW c hc ha hl k hk
  · have HAW := Lib.hid (fun W => AW W)
    obtain ⟨A, cap, rfl, _⟩ := ha.mem
    obtain ⟨na, hna⟩ : ∃ na, l.length = na := ⟨_, rfl⟩
    rw [hna] at hl ⊢
    have hlI : (60 : Int) < (na : Int) := by omega
    clear ha hna AW
    go_enter Try.func8, Try.ntmps8
    go_wp2_with fail
    refine (HAW.out _).mono ?_
    rintro e w1 ⟨rfl, hb1⟩
    have HB := Lib.hid hb1
    clear hb1
    go_wp2
    go_ret
    exact ⟨rfl, HB.out⟩
end
end Go.Proofs.Ytemgbiohfgcphaa
